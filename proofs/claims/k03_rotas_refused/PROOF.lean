import PyProof.Rows.All
import Wide.All
import OpenK.AllK
import Wide.FinOn
import HandS.ForMost
import HandS.ForExc
import HandS.IsInst
import HandS.Zip
import HandS.SetFor
import HandS.SortInts
import HandS.SortRule
import HandS.Wide
import HandS.Deep
import HandS.TupAny
import HandS.Conv
import HandS.Iter
import HandS.Dict
import HandS.Gcd
import HandS.WideBits
import HandS.TupMul
import HandS.RaiseMore
import PyProof.EnumMake
import PyProof.Draws
import KE.GoesMore
import HandS.TupLe
import PyProof.ReprRoads
import KE.DataMinMax
import HandS.TryOnly
import PyProof.Rows.RowBridgeK
import HandS.Style
import HandS.TupSets
import HandS.Defaults
import KE.DataAny
import HandS.SortKw
import HandS.SetKeys
import HandS.DictComp
import HandS.Flow
import PyProof.DictMoreH
import HandS.DictTup
import PyProof.InstNe
import HandS.Codes
import OpenK.KWalk
import KE.KCallOwn
import HandS.FStr
import HandS.Text
import HandS.ExcInit
import HandS.ExcOwn
import HandS.ExcField
import HandS.ExcIs
import KE.KExcIs
import PySem.Challenge.RW_turnrota_k03_rotas_refused
set_option Elab.async false
set_option linter.all false
set_option maxRecDepth 100000
namespace Dn
open PySem PySem.Spec PyProof.Rows L2
inductive AV where
  | non | bl (b : Bool) | int (i : Int) | str (s : Str) | tup (xs : List AV) | lst (xs : List AV) | ins (c : Nat) (xs : List AV) | dic (ks : List Str) (xs : List AV) | box | scr (ns : List Int) | any
inductive T (α : Type) where
  | ret (a : α) | bad | exc (c : Nat) (xs : List AV) | draw (n : Nat) (k : Nat → T α)
def T.bind {α β : Type} : T α → (α → T β) → T β
  | .ret a, f => f a
  | .bad, _ => .bad
  | .exc c xs, _ => .exc c xs
  | .draw n k, f => .draw n fun r => (k r).bind f
instance : Monad T where
  pure := T.ret
  bind := T.bind
theorem T.bind_assoc {α β γ : Type} (m : T α) (f : α → T β) (g : β → T γ) : (m.bind f).bind g = m.bind fun a => (f a).bind g := by
  induction m with
  | ret a => rfl
  | bad => rfl
  | exc c xs => rfl
  | draw n k ih => exact congrArg (T.draw n) (funext fun r => ih r)
theorem T.bind_ret {α : Type} (m : T α) : m.bind .ret = m := by
  induction m with
  | ret a => rfl
  | bad => rfl
  | exc c xs => rfl
  | draw n k ih => exact congrArg (T.draw n) (funext fun r => ih r)
def T.all {α : Type} (Q : α → Prop) (E : Nat → List AV → Prop) : T α → Prop
  | .ret a => Q a
  | .bad => False
  | .exc c xs => E c xs
  | .draw n k => ∀ r, r < n → (k r).all Q E
theorem T.all_bind {α β : Type} {Q : β → Prop} {E : Nat → List AV → Prop} {f : α → T β} {m : T α} : (m.bind f).all Q E ↔ m.all (fun a => (f a).all Q E) E := by
  induction m with
  | ret a => exact Iff.rfl
  | bad => exact Iff.rfl
  | exc c xs => exact Iff.rfl
  | draw n k ih => exact ⟨fun h r hr => (ih r).mp (h r hr), fun h r hr => (ih r).mpr (h r hr)⟩
theorem T.all_mono {α : Type} {Q Q' : α → Prop} {E E' : Nat → List AV → Prop} {m : T α} (h : m.all Q E) (hQ : ∀ a, Q a → Q' a) (hE : ∀ c xs, E c xs → E' c xs) : m.all Q' E' := by
  induction m with
  | ret a => exact hQ a h
  | bad => exact h
  | exc c xs => exact hE c xs h
  | draw n k ih => exact fun r hr => ih r (h r hr)
abbrev CT := Nat → Str × List Str
structure BInv where
  I : (Addr → Prop) → (Addr → Prop) → Hp → Prop
  live : ∀ {B D H a}, I B D H → B a → H a ≠ none
  nt : ∀ {B D H a}, I B D H → B a → ∀ vs, H a ≠ some (.tup vs)
  top : ∀ {B D H a}, I B D H → D a → B a
  frame : ∀ {B D H H'}, I B D H → (∀ a, B a → H' a = H a) → I B D H'
structure G where
  M : Addr → Prop
  own : Nat → Option Addr
  B : Addr → Prop
  D : Addr → Prop
  S : Option Addr
def G.Av (g : G) (a : Addr) : Prop := g.M a ∨ (∃ i, g.own i = some a) ∨ g.B a
structure Gc where
  K : PySem.W.Frag
  mg : Str → Option Value
  ct : CT
def TupAt (K : PySem.W.Frag) (A : Addr → Prop) (H : Hp) (a : Addr) (vs : List V) : Prop :=
  (¬ A a ∧ H a = some (.tup vs)) ∨ ∃ (o : Obj) (its : Array Value) (n : Nat), K.lookup a = some o ∧ o.cls = .type "tuple" ∧ o.data = .seq its n ∧ its.size ≤ sizeLine ∧ Vals vs its.toList ∧ vs = []
def LstAt (A : Addr → Prop) (H : Hp) (a : Addr) (vs : List V) : Prop := ¬ A a ∧ H a = some (.lst vs)
def ScrAt (K : PySem.W.Frag) (A : Addr → Prop) (H : Hp) (a : Addr) (ns : List Int) : Prop := (¬ A a ∧ Rd H a (.lst (ns.map V.int))) ∨ ((∀ H', SqL K H' a (ns.map V.int)))
theorem ScrAt.sq {K : PySem.W.Frag} {A : Addr → Prop} {H : Hp} {a : Addr} {ns : List Int} (h : ScrAt K A H a ns) : SqL K H a (ns.map V.int) := h.elim (fun z => .inl z.2) fun z => z H
theorem TupAt.sq {K : PySem.W.Frag} {A : Addr → Prop} {H : Hp} {a : Addr} {vs : List V} (h : TupAt K A H a vs) : SqT K H a vs := h.elim (fun z => .of z.2) fun ⟨o, its, n, a, b, c, d, e, _⟩ => .inr ⟨o, its, n, a, b, c, d, e⟩
theorem LstAt.sq {K : PySem.W.Frag} {A : Addr → Prop} {H : Hp} {a : Addr} {vs : List V} (h : LstAt A H a vs) : SqL K H a vs := .of h.2
mutual
def Rep (c0 : Gc) (A D : Addr → Prop) (H : Hp) : AV → V → Prop
  | .non, v => v = .non
  | .bl b, v => v = .bl b
  | .int i, v => v = .int i
  | .str s, v => v = .str s
  | .tup xs, v => ∃ a vs, v = .ref a ∧ TupAt c0.K A H a vs ∧ RepL c0 A D H xs vs
  | .lst xs, v => ∃ a vs, v = .ref a ∧ LstAt A H a vs ∧ RepL c0 A D H xs vs
  | .ins c xs, v => ∃ a C dx vs, v = .ref a ∧ ¬ A a ∧ c0.mg (c0.ct c).1 = some (.ref C) ∧ H a = some (.ins C dx ((c0.ct c).2.zip vs)) ∧ vs.length = (c0.ct c).2.length ∧ RepL c0 A D H xs vs
  | .dic ks xs, v => ∃ a vs, v = .ref a ∧ ¬ A a ∧ H a = some (.dK ((ks.map Sum.inr).zip vs)) ∧ vs.length = ks.length ∧ RepL c0 A D H xs vs
  | .box, v => ∃ a, v = .ref a ∧ D a
  | .scr ns, v => ∃ a, v = .ref a ∧ ScrAt c0.K A H a ns
  | .any, _ => True
def RepL (c0 : Gc) (A D : Addr → Prop) (H : Hp) : List AV → List V → Prop
  | [], vs => vs = []
  | x :: xs, vs => ∃ v r, vs = v :: r ∧ Rep c0 A D H x v ∧ RepL c0 A D H xs r
end
section
variable {c0 : Gc} {A A' D D' : Addr → Prop} {H H' : Hp}
mutual
theorem Rep.imp (hk : ∀ a o, H a = some o → ¬ A a → H' a = some o ∧ ¬ A' a) (hd : ∀ a, D a → D' a) : ∀ {t : AV} {v : V}, Rep c0 A D H t v → Rep c0 A' D' H' t v
  | .non, _, h => by rw [Rep] at h ⊢; exact h
  | .bl _, _, h => by rw [Rep] at h ⊢; exact h
  | .int _, _, h => by rw [Rep] at h ⊢; exact h
  | .str _, _, h => by rw [Rep] at h ⊢; exact h
  | .tup xs, v, h => by
    rw [Rep] at h ⊢
    obtain ⟨a, vs, e, q, r⟩ := h
    refine ⟨a, vs, e, ?_, RepL.imp hk hd r⟩
    rcases q with ⟨na, q⟩ | q
    · exact .inl ⟨(hk a _ q na).2, (hk a _ q na).1⟩
    · exact .inr q
  | .lst xs, v, h => by
    rw [Rep] at h ⊢
    obtain ⟨a, vs, e, ⟨na, q⟩, r⟩ := h
    exact ⟨a, vs, e, ⟨(hk a _ q na).2, (hk a _ q na).1⟩, RepL.imp hk hd r⟩
  | .ins c xs, v, h => by
    rw [Rep] at h ⊢
    obtain ⟨a, C, dx, vs, e, na, m, q, l, r⟩ := h
    exact ⟨a, C, dx, vs, e, (hk a _ q na).2, m, (hk a _ q na).1, l, RepL.imp hk hd r⟩
  | .dic ks xs, v, h => by
    rw [Rep] at h ⊢
    obtain ⟨a, vs, e, na, q, l, r⟩ := h
    exact ⟨a, vs, e, (hk a _ q na).2, (hk a _ q na).1, l, RepL.imp hk hd r⟩
  | .box, v, h => by
    rw [Rep] at h ⊢
    obtain ⟨a, e, q⟩ := h
    exact ⟨a, e, hd a q⟩
  | .scr ns, v, h => by
    rw [Rep] at h ⊢
    obtain ⟨a, e, q⟩ := h
    refine ⟨a, e, ?_⟩
    rcases q with ⟨na, q | ⟨o, q⟩⟩ | q
    · exact .inl ⟨(hk a _ q na).2, .inl (hk a _ q na).1⟩
    · exact .inl ⟨(hk a _ q na).2, .inr ⟨o, (hk a _ q na).1⟩⟩
    · exact .inr q
  | .any, _, _ => by rw [Rep]; exact True.intro
theorem RepL.imp (hk : ∀ a o, H a = some o → ¬ A a → H' a = some o ∧ ¬ A' a) (hd : ∀ a, D a → D' a) : ∀ {xs : List AV} {vs : List V}, RepL c0 A D H xs vs → RepL c0 A' D' H' xs vs
  | [], _, h => by rw [RepL] at h ⊢; exact h
  | x :: xs, vs, h => by
    rw [RepL] at h ⊢
    obtain ⟨v, r, e, h1, h2⟩ := h
    exact ⟨v, r, e, Rep.imp hk hd h1, RepL.imp hk hd h2⟩
end
theorem RepL.length : ∀ {xs : List AV} {vs : List V}, RepL c0 A D H xs vs → vs.length = xs.length
  | [], _, h => by rw [RepL] at h; rw [h]; rfl
  | x :: xs, vs, h => by
    rw [RepL] at h
    obtain ⟨v, r, e, _, h2⟩ := h
    rw [e, List.length_cons, List.length_cons, RepL.length h2]
theorem RepL.get : ∀ {xs : List AV} {vs : List V} {i : Nat} {v : V}, RepL c0 A D H xs vs → vs[i]? = some v → ∃ x, xs[i]? = some x ∧ Rep c0 A D H x v
  | [], _, i, v, h, e => by rw [RepL] at h; rw [h] at e; simp at e
  | x :: xs, vs, i, v, h, e => by
    rw [RepL] at h
    obtain ⟨w, r, e1, h1, h2⟩ := h
    subst e1
    cases i with
    | zero => simp at e; subst e; exact ⟨x, rfl, h1⟩
    | succ i =>
      obtain ⟨y, e2, h3⟩ := RepL.get h2 (show r[i]? = some v by simpa using e)
      exact ⟨y, by simpa using e2, h3⟩
theorem RepL.get' {xs : List AV} {vs : List V} {i : Nat} {x : AV} (h : RepL c0 A D H xs vs) (e : xs[i]? = some x) : ∃ v, vs[i]? = some v ∧ Rep c0 A D H x v := by
  have hi : i < vs.length := by
    rw [h.length]
    exact (List.getElem?_eq_some_iff.mp e).1
  obtain ⟨y, e1, r⟩ := h.get (v := vs[i]) (List.getElem?_eq_getElem hi)
  rw [e] at e1
  cases e1
  exact ⟨_, List.getElem?_eq_getElem hi, r⟩
theorem RepL.append : ∀ {xs ys : List AV} {vs ws : List V}, RepL c0 A D H xs vs → RepL c0 A D H ys ws → RepL c0 A D H (xs ++ ys) (vs ++ ws)
  | [], _, _, _, h, h' => by rw [RepL] at h; rw [h]; exact h'
  | x :: xs, ys, vs, ws, h, h' => by
    rw [RepL] at h
    obtain ⟨v, r, e, h1, h2⟩ := h
    subst e
    show RepL c0 A D H (x :: (xs ++ ys)) (v :: (r ++ ws))
    rw [RepL]
    exact ⟨v, r ++ ws, rfl, h1, RepL.append h2 h'⟩
theorem RepL.nil : RepL c0 A D H [] [] := by rw [RepL]
theorem RepL.cons {x : AV} {xs : List AV} {v : V} {vs : List V} (h : Rep c0 A D H x v) (h' : RepL c0 A D H xs vs) : RepL c0 A D H (x :: xs) (v :: vs) := by
  rw [RepL]
  exact ⟨v, vs, rfl, h, h'⟩
theorem RepL.one {x : AV} {v : V} (h : Rep c0 A D H x v) : RepL c0 A D H [x] [v] := .cons h .nil
theorem RepL.of : ∀ {xs : List AV} {vs : List V}, vs.length = xs.length → (∀ (i : Nat) (x : AV) (v : V), xs[i]? = some x → vs[i]? = some v → Rep c0 A D H x v) → RepL c0 A D H xs vs
  | [], [], _, _ => .nil
  | [], _ :: _, e, _ => by simp at e
  | _ :: _, [], e, _ => by simp at e
  | x :: xs, v :: vs, e, h => .cons (h 0 x v rfl rfl) (RepL.of (by simpa using e) fun i y w e1 e2 => h (i + 1) y w (by simpa using e1) (by simpa using e2))
theorem RepL.take {xs : List AV} {vs : List V} (n : Nat) (h : RepL c0 A D H xs vs) : RepL c0 A D H (xs.take n) (vs.take n) := by
  refine .of (by rw [List.length_take, List.length_take, h.length]) fun i x v e1 e2 => ?_
  rw [List.getElem?_take] at e1 e2
  split at e1
  · rename_i hi
    rw [if_pos hi] at e2
    obtain ⟨y, e3, r⟩ := h.get e2
    rw [e1] at e3
    cases e3
    exact r
  · cases e1
theorem RepL.drop {xs : List AV} {vs : List V} (n : Nat) (h : RepL c0 A D H xs vs) : RepL c0 A D H (xs.drop n) (vs.drop n) := by
  refine .of (by rw [List.length_drop, List.length_drop, h.length]) fun i x v e1 e2 => ?_
  rw [List.getElem?_drop] at e1 e2
  obtain ⟨y, e3, r⟩ := h.get e2
  rw [e1] at e3
  cases e3
  exact r
theorem RepL.set {xs : List AV} {vs : List V} {x : AV} {v : V} (n : Nat) (h : RepL c0 A D H xs vs) (r : Rep c0 A D H x v) : RepL c0 A D H (xs.set n x) (vs.set n v) := by
  refine .of (by rw [List.length_set, List.length_set, h.length]) fun i y w e1 e2 => ?_
  by_cases hi : n = i
  · subst hi
    have h1 : n < vs.length := by
      have := (List.getElem?_eq_some_iff.mp e2).1
      rwa [List.length_set] at this
    rw [List.getElem?_set_self h1] at e2
    rw [List.getElem?_set_self (by rw [← h.length]; exact h1)] at e1
    cases e1
    cases e2
    exact r
  · rw [List.getElem?_set_ne hi] at e1 e2
    obtain ⟨z, e3, r'⟩ := h.get e2
    rw [e1] at e3
    cases e3
    exact r'
theorem RepL.ints : ∀ {ns : List Int} {vs : List V}, RepL c0 A D H (ns.map AV.int) vs → vs = ns.map V.int
  | [], _, h => by simpa [RepL] using h
  | n :: ns, vs, h => by
    rw [List.map_cons, RepL] at h
    obtain ⟨v, r, e, h1, h2⟩ := h
    rw [Rep] at h1
    rw [e, h1, RepL.ints h2]
    rfl
theorem RepL.ints' : ∀ (ns : List Int), RepL c0 A D H (ns.map AV.int) (ns.map V.int)
  | [] => .nil
  | n :: ns => .cons (by rw [Rep]) (RepL.ints' ns)
end
inductive Slot where
  | un | fro (t : AV) | ml (xs : List AV) | md (kd : Bool) (kvs : List (AV × AV)) | slf (c : Nat) (fs : List AV)
abbrev Env' := List Slot
structure Ext (g g' : G) (H H' : Hp) : Prop where
  keep : ∀ a o, H a = some o → (∀ i, g.own i ≠ some a) → ¬ g.B a → H' a = some o
  live : ∀ a, H a ≠ none → H' a ≠ none
  m : g'.M = g.M
  bsub : ∀ a, g.B a → g'.B a
  bnew : ∀ a, g'.B a → g.B a ∨ H a = none
  dsub : ∀ a, g.D a → g'.D a
  own : ∀ i a, g'.own i = some a → (∃ j, g.own j = some a) ∨ H a = none
  s : g'.S = g.S
theorem Ext.refl (g : G) (H : Hp) : Ext g g H H := ⟨fun _ _ h _ _ => h, fun _ h => h, rfl, fun _ h => h, fun _ h => .inl h, fun _ h => h, fun i _ h => .inl ⟨i, h⟩, rfl⟩
theorem none_back {g g' : G} {H H' : Hp} (e : Ext g g' H H') {a : Addr} (h : H' a = none) : H a = none := by
  cases q : H a with
  | none => rfl
  | some o => exact absurd h (e.live a (by rw [q]; exact fun z => by cases z))
theorem Ext.trans {g g1 g2 : G} {H H1 H2 : Hp} (e : Ext g g1 H H1) (e' : Ext g1 g2 H1 H2) : Ext g g2 H H2 where
  keep := fun a o h hn hb => by
    refine e'.keep a o (e.keep a o h hn hb) (fun i hi => ?_) fun hb' => ?_
    · rcases e.own i a hi with ⟨j, hj⟩ | hj
      · exact hn j hj
      · rw [h] at hj; cases hj
    · rcases e.bnew a hb' with z | z
      · exact hb z
      · rw [h] at z; cases z
  live := fun a h => e'.live a (e.live a h)
  m := e'.m.trans e.m
  bsub := fun a h => e'.bsub a (e.bsub a h)
  bnew := fun a h => (e'.bnew a h).elim (e.bnew a) fun z => .inr (none_back e z)
  dsub := fun a h => e'.dsub a (e.dsub a h)
  own := fun i a h => (e'.own i a h).elim (fun ⟨j, hj⟩ => e.own j a hj) fun z => .inr (none_back e z)
  s := e'.s.trans e.s
theorem Ext.av {g g' : G} {H H' : Hp} (e : Ext g g' H H') {a : Addr} {o : HO} (h : H a = some o) (na : ¬ g.Av a) : H' a = some o ∧ ¬ g'.Av a := by
  refine ⟨e.keep a o h (fun i hi => na (.inr (.inl ⟨i, hi⟩))) fun hb => na (.inr (.inr hb)), ?_⟩
  rintro (z | ⟨i, z⟩ | z)
  · exact na (.inl (by rw [← e.m]; exact z))
  · rcases e.own i a z with ⟨j, hj⟩ | hj
    · exact na (.inr (.inl ⟨j, hj⟩))
    · rw [h] at hj; cases hj
  · rcases e.bnew a z with hb | hb
    · exact na (.inr (.inr hb))
    · rw [h] at hb; cases hb
abbrev RepG (c0 : Gc) (g : G) (H : Hp) (t : AV) (v : V) : Prop := Rep c0 g.Av g.D H t v
abbrev RepsG (c0 : Gc) (g : G) (H : Hp) (t : List AV) (v : List V) : Prop := RepL c0 g.Av g.D H t v
theorem Ext.rep {c0 : Gc} {g g' : G} {H H' : Hp} (e : Ext g g' H H') {t : AV} {v : V} (h : RepG c0 g H t v) : RepG c0 g' H' t v := h.imp (fun _ _ q n => e.av q n) e.dsub
theorem Ext.reps {c0 : Gc} {g g' : G} {H H' : Hp} (e : Ext g g' H H') {t : List AV} {v : List V} (h : RepsG c0 g H t v) : RepsG c0 g' H' t v := h.imp (fun _ _ q n => e.av q n) e.dsub
theorem Ext.same {g : G} {H H' : Hp} (s : Same H H') : Ext g g H H' :=
  ⟨fun a o h _ _ => s a o h, fun a h => (by
    cases q : H a with
    | none => exact absurd q h
    | some o => rw [s a o q]; exact fun z => by cases z), rfl, fun _ h => h, fun _ h => .inl h, fun _ h => h, fun i _ h => .inl ⟨i, h⟩, rfl⟩
def KVs (c0 : Gc) (A D : Addr → Prop) (H : Hp) : List (AV × AV) → List (AV × V) → Prop
  | [], ws => ws = []
  | (k, x) :: r, ws => ∃ v ws', ws = (k, v) :: ws' ∧ Rep c0 A D H x v ∧ KVs c0 A D H r ws'
def keyOf1 : AV → Option Key
  | .int i => some (.inl i)
  | .str s => some (.inr s)
  | _ => none
def keysOf : List AV → Option (List Key)
  | [] => some []
  | x :: xs => match keyOf1 x, keysOf xs with
    | some k, some ks => some (k :: ks)
    | _, _ => none
def keyOfT : AV → Option (List Key)
  | .tup xs => keysOf xs
  | _ => none
def DicK : List (AV × V) → List (Key × V) → Prop := Paired fun p q => keyOf1 p.1 = some q.1 ∧ p.2 = q.2
def DicT : List (AV × V) → List (List Key × V) → Prop := Paired fun p q => keyOfT p.1 = some q.1 ∧ p.2 = q.2
def slotOk (c0 : Gc) (g : G) (H : Hp) (o : Option Addr) (sv : Option (Option V)) : Slot → Prop
  | .un => o = none
  | .fro t => o = none ∧ ∃ v, sv = some (some v) ∧ RepG c0 g H t v
  | .ml xs => ∃ p vs, o = some p ∧ sv = some (some (.ref p)) ∧ H p = some (.lst vs) ∧ RepsG c0 g H xs vs
  | .md kd kvs => ∃ p ws, o = some p ∧ sv = some (some (.ref p)) ∧ KVs c0 g.Av g.D H kvs ws ∧ ((∃ us, H p = some (.dK us) ∧ DicK ws us ∧ kd = true) ∨ ∃ us, H p = some (.dT us) ∧ DicT ws us ∧ kd = false)
  | .slf c fs => ∃ p C dx vs, o = some p ∧ sv = some (some (.ref p)) ∧ c0.mg (c0.ct c).1 = some (.ref C) ∧ H p = some (.ins C dx ((c0.ct c).2.zip vs)) ∧ vs.length ≤ (c0.ct c).2.length ∧ RepsG c0 g H fs vs ∧ g.S = some p
structure Rel (c0 : Gc) (β : BInv) (g : G) (ρ : Env') (σ : L2.St) (H : Hp) : Prop where
  len : σ.length = ρ.length
  sl : ∀ (i : Nat) (s : Slot), ρ[i]? = some s → slotOk c0 g H (g.own i) σ[i]? s
  out : ∀ i, ρ.length ≤ i → g.own i = none
  inj : ∀ i j a, g.own i = some a → g.own j = some a → i = j
  alive : ∀ a, g.M a → H a ≠ none
  nt : ∀ a, g.M a → ∀ vs, H a ≠ some (.tup vs)
  sep : ∀ i a, g.own i = some a → ¬ g.M a ∧ ¬ g.B a
  mb : ∀ a, g.M a → ¬ g.B a
  box : β.I g.B g.D H
theorem KVs.imp {c0 : Gc} {A A' D D' : Addr → Prop} {H H' : Hp} (hk : ∀ a o, H a = some o → ¬ A a → H' a = some o ∧ ¬ A' a) (hd : ∀ a, D a → D' a) : ∀ {kvs : List (AV × AV)} {ws : List (AV × V)}, KVs c0 A D H kvs ws → KVs c0 A' D' H' kvs ws
  | [], _, h => h
  | (_, _) :: r, _, ⟨v, ws', e, h1, h2⟩ => ⟨v, ws', e, h1.imp hk hd, KVs.imp hk hd h2⟩
theorem Rel.ownLive {c0 : Gc} {β : BInv} {g : G} {ρ : Env'} {σ : L2.St} {H : Hp} (r : Rel c0 β g ρ σ H) {i : Nat} {a : Addr} (h : g.own i = some a) : H a ≠ none := by
  by_cases hi : i < ρ.length
  · have q := r.sl i ρ[i] (List.getElem?_eq_getElem hi)
    cases e : ρ[i] with
    | un => rw [e, h] at q; cases (show some a = none from q)
    | fro t => rw [e, h] at q; cases (show some a = none ∧ _ from q).1
    | ml xs =>
      rw [e, h] at q
      obtain ⟨p, vs, e1, _, e2, _⟩ := q
      cases e1
      rw [e2]; exact fun z => by cases z
    | md kd kvs =>
      rw [e, h] at q
      obtain ⟨p, vs, e1, _, _, ⟨us, e2, _⟩ | ⟨us, e2, _⟩⟩ := q <;> (cases e1; rw [e2]; exact fun z => by cases z)
    | slf c fs =>
      rw [e, h] at q
      obtain ⟨p, C, dx, vs, e1, _, _, e2, _⟩ := q
      cases e1
      rw [e2]; exact fun z => by cases z
  · rw [r.out i (by omega)] at h; cases h
theorem Rel.avLive {c0 : Gc} {β : BInv} {g : G} {ρ : Env'} {σ : L2.St} {H : Hp} (r : Rel c0 β g ρ σ H) {a : Addr} (h : g.Av a) : H a ≠ none := by
  rcases h with h | ⟨i, h⟩ | h
  · exact r.alive a h
  · exact r.ownLive h
  · exact β.live r.box h
theorem Rel.avNt {c0 : Gc} {β : BInv} {g : G} {ρ : Env'} {σ : L2.St} {H : Hp} (r : Rel c0 β g ρ σ H) {a : Addr} (h : g.Av a) (ws : List V) : H a ≠ some (.tup ws) := by
  rcases h with h | ⟨i, h⟩ | h
  · exact r.nt a h ws
  · by_cases hi : i < ρ.length
    · have q := r.sl i ρ[i] (List.getElem?_eq_getElem hi)
      cases e : ρ[i] with
      | un => rw [e, h] at q; cases (show some a = none from q)
      | fro t => rw [e, h] at q; cases (show some a = none ∧ _ from q).1
      | ml xs =>
        rw [e, h] at q
        obtain ⟨p, vs, e1, _, e2, _⟩ := q
        cases e1
        rw [e2]; exact fun z => by cases z
      | md kd kvs =>
        rw [e, h] at q
        obtain ⟨p, vs, e1, _, _, ⟨us, e2, _⟩ | ⟨us, e2, _⟩⟩ := q <;> (cases e1; rw [e2]; exact fun z => by cases z)
      | slf c fs =>
        rw [e, h] at q
        obtain ⟨p, C, dx, vs, e1, _, _, e2, _⟩ := q
        cases e1
        rw [e2]; exact fun z => by cases z
    · rw [r.out i (by omega)] at h; cases h
  · exact β.nt r.box h ws
theorem Rel.step {c0 : Gc} {β : BInv} {g g' : G} {ρ : Env'} {σ : L2.St} {H H' : Hp} (r : Rel c0 β g ρ σ H) (e : Ext g g' H H') (ho : g'.own = g.own) (hk : ∀ i a o, g.own i = some a → H a = some o → H' a = some o) (hb : β.I g'.B g'.D H') : Rel c0 β g' ρ σ H' where
  len := r.len
  sl := fun i s hs => by
    have q := r.sl i s hs
    rw [ho]
    have hk' := fun a o (q : H a = some o) n => e.av q n
    cases s with
    | un => exact q
    | fro t => obtain ⟨a, v, b, c⟩ := q; exact ⟨a, v, b, e.rep c⟩
    | ml xs => obtain ⟨p, vs, e1, e2, e3, e4⟩ := q; exact ⟨p, vs, e1, e2, hk i p _ e1 e3, e.reps e4⟩
    | md kd kvs =>
      obtain ⟨p, ws, e1, e2, e3, e4⟩ := q
      refine ⟨p, ws, e1, e2, e3.imp hk' e.dsub, ?_⟩
      rcases e4 with ⟨us, e4, e5⟩ | ⟨us, e4, e5⟩
      · exact .inl ⟨us, hk i p _ e1 e4, e5⟩
      · exact .inr ⟨us, hk i p _ e1 e4, e5⟩
    | slf c fs => obtain ⟨p, C, dx, vs, e1, e2, e3, e4, e5, e6, e7⟩ := q; exact ⟨p, C, dx, vs, e1, e2, e3, hk i p _ e1 e4, e5, e.reps e6, e.s.trans e7⟩
  out := fun i h => by rw [ho]; exact r.out i h
  inj := fun i j a h1 h2 => r.inj i j a (by rw [← ho]; exact h1) (by rw [← ho]; exact h2)
  alive := fun a h => e.live a (r.alive a (by rw [← e.m]; exact h))
  nt := fun a h vs z => by
    rw [e.m] at h
    cases q : H a with
    | none => exact r.alive a h q
    | some o =>
      have k := e.keep a o q (fun i hi => (r.sep i a hi).1 h) (r.mb a h)
      rw [k] at z
      cases z
      exact r.nt a h vs q
  sep := fun i a h => by
    rw [ho] at h
    refine ⟨by rw [e.m]; exact (r.sep i a h).1, fun hb' => ?_⟩
    rcases e.bnew a hb' with z | z
    · exact (r.sep i a h).2 z
    · exact r.ownLive h z
  mb := fun a h hb' => by
    rw [e.m] at h
    rcases e.bnew a hb' with z | z
    · exact r.mb a h z
    · exact r.alive a h z
  box := hb
theorem Rel.same {c0 : Gc} {β : BInv} {g : G} {ρ : Env'} {σ : L2.St} {H H' : Hp} (r : Rel c0 β g ρ σ H) (s : Same H H') : Rel c0 β g ρ σ H' :=
  r.step (Ext.same s) rfl (fun _ _ _ _ h => s _ _ h) (β.frame r.box fun a h => by
    cases q : H a with
    | none => exact absurd q (β.live r.box h)
    | some o => exact s a o q)
end Dn
set_option Elab.async false
set_option linter.all false
set_option maxRecDepth 100000
namespace Dn
open PySem PySem.Spec PyProof.Rows L2
inductive Hd where
  | val (t : AV) | var (j : Nat)
abbrev Sem := Env' → T (Hd × Env')
abbrev SemL := Env' → T (List AV × Env')
abbrev SemB := Env' → T (Bool × Env')
def look (ρ : Env') (j : Nat) : Option AV := match ρ[j]? with
  | some (.fro t) => some t
  | some (.ml xs) => some (.lst xs)
  | _ => none
def rs : Hd → Env' → Option AV
  | .val t, _ => some t
  | .var j, ρ => look ρ j
def frz : Hd × Env' → T (AV × Env')
  | (.val t, ρ) => .ret (t, ρ)
  | (.var j, ρ) => match ρ[j]? with
    | some (.fro t) => .ret (t, ρ)
    | some (.ml xs) => .ret (.lst xs, ρ.set j (.fro (.lst xs)))
    | _ => .bad
def lift {α : Type} : Option α → T α
  | some a => .ret a
  | none => .bad
abbrev gc (X : Cx) (ct : CT) : Gc := ⟨X.K, X.mg, ct⟩
section
variable (c0 : Gc) (β : BInv) (Ex : XK)
def okT {α : Type} (g : G) (H : Hp) (m : T α) (Q : G → Hp → α → Prop) : Prop :=
  m.all (fun a => ∀ g' H', Ext g g' H H' → Q g' H' a) fun c xs => ∀ g' H' C d vs, Ext g g' H H' → β.I g'.B g'.D H' → c0.mg (c0.ct c).1 = some (.ref C) → H' d = some (.xd ((c0.ct c).2.zip vs)) → vs.length = (c0.ct c).2.length → RepsG c0 g' H' xs vs → Ex (.ref C) (some d) H'
def RepH (g : G) (σ : L2.St) (H : Hp) : Hd → V → Prop
  | .val t, v => RepG c0 g H t v
  | .var j, v => σ[j]? = some (some v)
def RepR (g : G) (H : Hp) (t : AV) (v : V) : Prop :=
  RepG c0 g H t v ∨ ∃ xs p vs, t = .lst xs ∧ v = .ref p ∧ (∃ i, g.own i = some p) ∧ H p = some (.lst vs) ∧ RepsG c0 g H xs vs
def rdE (f : Sem) : TE := fun σ H Q => ∃ g ρ, Rel c0 β g ρ σ H ∧ okT c0 β Ex g H (f ρ) fun g' H' p => ∀ v, Rel c0 β g' p.2 σ H' → RepH c0 g' σ H' p.1 v → Q v H'
def rdL (f : SemL) : TA := fun σ H Q => ∃ g ρ, Rel c0 β g ρ σ H ∧ okT c0 β Ex g H (f ρ) fun g' H' p => ∀ vs, Rel c0 β g' p.2 σ H' → RepsG c0 g' H' p.1 vs → Q vs H'
def rdB (f : SemB) : TT := fun σ H Q => ∃ g ρ, Rel c0 β g ρ σ H ∧ okT c0 β Ex g H (f ρ) fun g' H' p => Rel c0 β g' p.2 σ H' → Q p.1 H'
end
section
variable {c0 : Gc} {β : BInv} {Ex : XK} {α γ : Type} {g : G} {H : Hp} {σ : L2.St} {ρ : Env'}
theorem okT_bind {m : T α} {k : α → T γ} {Q : G → Hp → γ → Prop} (h : okT c0 β Ex g H (m.bind k) Q) : okT c0 β Ex g H m fun g1 H1 a => okT c0 β Ex g1 H1 (k a) Q :=
  T.all_mono (T.all_bind.mp h) (fun a q g1 H1 e => T.all_mono q (fun b q g2 H2 e2 => q g2 H2 (e.trans e2)) fun c xs q g' H' C d vs e2 => q g' H' C d vs (e.trans e2)) fun _ _ q => q
theorem okT_mono {m : T α} {Q Q' : G → Hp → α → Prop} (h : okT c0 β Ex g H m Q) (hQ : ∀ g' H' a, Ext g g' H H' → Q g' H' a → Q' g' H' a) : okT c0 β Ex g H m Q' :=
  T.all_mono h (fun a q g' H' e => hQ g' H' a e (q g' H' e)) fun _ _ q => q
theorem okT_ret {a : α} {Q : G → Hp → α → Prop} (h : okT c0 β Ex g H (.ret a) Q) : Q g H a := h g H (Ext.refl g H)
theorem okT_ret' {a : α} {Q : G → Hp → α → Prop} (h : okT c0 β Ex g H (.ret a) Q) {g' : G} {H' : Hp} (e : Ext g g' H H') : Q g' H' a := h g' H' e
theorem okT_lift {o : Option α} {k : α → T γ} {Q : G → Hp → γ → Prop} (h : okT c0 β Ex g H ((lift o).bind k) Q) : ∃ a, o = some a ∧ okT c0 β Ex g H (k a) Q := by
  cases o with
  | none => exact (show False from h).elim
  | some a => exact ⟨a, rfl, h⟩
theorem RepH.ext {g' : G} {H' : Hp} {h : Hd} {v : V} (e : Ext g g' H H') (r : RepH c0 g σ H h v) : RepH c0 g' σ H' h v := by
  cases h with
  | val t => exact e.rep r
  | var j => exact r
theorem Rel.look {j : Nat} {t : AV} {v : V} (r : Rel c0 β g ρ σ H) (hl : look ρ j = some t) (hv : σ[j]? = some (some v)) : RepR c0 g H t v := by
  unfold Dn.look at hl
  cases hs : ρ[j]? with
  | none => rw [hs] at hl; cases hl
  | some s =>
    have q := r.sl j s hs
    rw [hs] at hl
    cases s with
    | un => cases hl
    | fro u =>
      cases hl
      obtain ⟨_, w, e, rp⟩ := q
      rw [hv] at e
      cases e
      exact .inl rp
    | ml xs =>
      cases hl
      obtain ⟨p, vs, e1, e2, e3, e4⟩ := q
      rw [hv] at e2
      cases e2
      exact .inr ⟨xs, p, vs, rfl, rfl, ⟨j, e1⟩, e3, e4⟩
    | md kd kvs => cases hl
    | slf c fs => cases hl
theorem RepH.rs {h : Hd} {t : AV} {v : V} (r : Rel c0 β g ρ σ H) (rh : RepH c0 g σ H h v) (hr : rs h ρ = some t) : RepR c0 g H t v := by
  cases h with
  | val u => cases hr; exact .inl rh
  | var j => exact r.look hr rh
def G.no (g : G) (j : Nat) : G := { g with own := fun i => if i = j then none else g.own i }
theorem ext_no (g : G) (j : Nat) (H : Hp) : Ext g (g.no j) H H := ⟨fun _ _ h _ _ => h, fun _ h => h, rfl, fun _ h => h, fun _ h => .inl h, fun _ h => h, fun i a h => by
  unfold G.no at h
  simp only at h
  split at h
  · cases h
  · exact .inl ⟨i, h⟩, rfl⟩
theorem slotOk_ext {g' : G} {H' : Hp} {o : Option Addr} {sv : Option (Option V)} {s : Slot} (e : Ext g g' H H') (hk : ∀ a ob, o = some a → H a = some ob → H' a = some ob) (q : slotOk c0 g H o sv s) : slotOk c0 g' H' o sv s := by
  cases s with
  | un => exact q
  | fro t => obtain ⟨a, v, b, c⟩ := q; exact ⟨a, v, b, e.rep c⟩
  | ml xs => obtain ⟨p, vs, e1, e2, e3, e4⟩ := q; exact ⟨p, vs, e1, e2, hk p _ e1 e3, e.reps e4⟩
  | md kd kvs =>
    obtain ⟨p, ws, e1, e2, e3, e4⟩ := q
    refine ⟨p, ws, e1, e2, e3.imp (fun _ _ q n => e.av q n) e.dsub, ?_⟩
    rcases e4 with ⟨us, e4, e5⟩ | ⟨us, e4, e5⟩
    · exact .inl ⟨us, hk p _ e1 e4, e5⟩
    · exact .inr ⟨us, hk p _ e1 e4, e5⟩
  | slf c fs => obtain ⟨p, C, dx, vs, e1, e2, e3, e4, e5, e6, e7⟩ := q; exact ⟨p, C, dx, vs, e1, e2, e3, hk p _ e1 e4, e5, e.reps e6, e.s.trans e7⟩
theorem Rel.put {g' : G} {H' : Hp} {σ' : L2.St} {j : Nat} {s : Slot} (r : Rel c0 β g ρ σ H) (e : Ext g g' H H') (hl : σ'.length = σ.length) (hs : ∀ i, i ≠ j → σ'[i]? = σ[i]?) (hj : j < ρ.length)
    (ho : ∀ i, i ≠ j → g'.own i = g.own i) (hk : ∀ i a o, i ≠ j → g.own i = some a → H a = some o → H' a = some o) (hb : β.I g'.B g'.D H')
    (hn : slotOk c0 g' H' (g'.own j) σ'[j]? s) (hsep : ∀ a, g'.own j = some a → ¬ g'.M a ∧ ¬ g'.B a ∧ ∀ i, i ≠ j → g.own i ≠ some a) : Rel c0 β g' (ρ.set j s) σ' H' where
  len := by rw [hl, List.length_set]; exact r.len
  sl := fun i u hi => by
    by_cases hij : i = j
    · subst hij
      rw [List.getElem?_set_self hj] at hi
      cases hi
      exact hn
    · rw [List.getElem?_set_ne (Ne.symm hij)] at hi
      rw [hs i hij, ho i hij]
      exact slotOk_ext e (fun a o h1 h2 => hk i a o hij h1 h2) (r.sl i u hi)
  out := fun i hi => by
    rw [List.length_set] at hi
    rw [ho i (by omega)]
    exact r.out i hi
  inj := fun i k a h1 h2 => by
    by_cases hi : i = j
    · by_cases hk' : k = j
      · rw [hi, hk']
      · subst hi
        rw [ho k hk'] at h2
        exact absurd h2 ((hsep a h1).2.2 k hk')
    · by_cases hk' : k = j
      · subst hk'
        rw [ho i hi] at h1
        exact absurd h1 ((hsep a h2).2.2 i hi)
      · rw [ho i hi] at h1
        rw [ho k hk'] at h2
        exact r.inj i k a h1 h2
  alive := fun a h => e.live a (r.alive a (by rw [← e.m]; exact h))
  nt := fun a h vs z => by
    rw [e.m] at h
    cases q : H a with
    | none => exact r.alive a h q
    | some o =>
      have k := e.keep a o q (fun i hi => (r.sep i a hi).1 h) (r.mb a h)
      rw [k] at z
      cases z
      exact r.nt a h vs q
  sep := fun i a h => by
    by_cases hi : i = j
    · subst hi
      exact ⟨(hsep a h).1, (hsep a h).2.1⟩
    · rw [ho i hi] at h
      refine ⟨by rw [e.m]; exact (r.sep i a h).1, fun hb' => ?_⟩
      rcases e.bnew a hb' with z | z
      · exact (r.sep i a h).2 z
      · exact r.ownLive h z
  mb := fun a h hb' => by
    rw [e.m] at h
    rcases e.bnew a hb' with z | z
    · exact r.mb a h z
    · exact r.alive a h z
  box := hb
theorem own_no {g : G} {j : Nat} : (g.no j).own j = none := by simp [G.no]
theorem own_no_ne {g : G} {i j : Nat} (h : i ≠ j) : (g.no j).own i = g.own i := by simp [G.no, h]
theorem frz_ok {p : Hd × Env'} {v : V} {k : AV × Env' → T γ} {Q : G → Hp → γ → Prop} (r : Rel c0 β g p.2 σ H) (rh : RepH c0 g σ H p.1 v) (h : okT c0 β Ex g H ((frz p).bind k) Q) :
    ∃ g' q, Ext g g' H H ∧ Rel c0 β g' q.2 σ H ∧ RepG c0 g' H q.1 v ∧ okT c0 β Ex g' H (k q) Q := by
  obtain ⟨hd, ρ⟩ := p
  cases hd with
  | val t => exact ⟨g, (t, ρ), .refl g H, r, rh, h⟩
  | var j =>
    have hv : σ[j]? = some (some v) := rh
    have r : Rel c0 β g ρ σ H := r
    cases hs : ρ[j]? with
    | none => simp only [frz, hs] at h; exact (show False from h).elim
    | some s =>
      have q := r.sl j s hs
      simp only [frz, hs] at h
      cases s with
      | un => exact (show False from h).elim
      | fro u =>
        obtain ⟨_, w, e, rp⟩ := q
        rw [hv] at e
        cases e
        exact ⟨g, (u, ρ), .refl g H, r, rp, h⟩
      | ml xs =>
        obtain ⟨p, vs, e1, e2, e3, e4⟩ := q
        rw [hv] at e2
        cases e2
        have E := ext_no g j H
        have rp : RepG c0 (g.no j) H (.lst xs) (.ref p) := by
          rw [RepG, Rep]
          refine ⟨p, vs, rfl, ⟨?_, e3⟩, E.reps e4⟩
          rintro (z | ⟨i, z⟩ | z)
          · exact (r.sep j p e1).1 z
          · by_cases hi : i = j
            · subst hi; rw [own_no] at z; cases z
            · rw [own_no_ne hi] at z
              exact hi (r.inj i j p z e1)
          · exact (r.sep j p e1).2 z
        refine ⟨g.no j, (.lst xs, ρ.set j (.fro (.lst xs))), E, ?_, rp, ?_⟩
        · refine r.put E rfl (fun _ _ => rfl) (List.getElem?_eq_some_iff.mp hs).1 (fun i hi => own_no_ne hi) (fun _ _ _ _ _ h => h) r.box ?_ fun a h => by rw [own_no] at h; cases h
          rw [own_no]
          exact ⟨rfl, .ref p, hv, rp⟩
        · exact T.all_mono h (fun a q g' H' e => q g' H' (E.trans e)) fun c xs q g' H' C d vs e2 => q g' H' C d vs (E.trans e2)
      | md kd kvs => exact (show False from h).elim
      | slf c fs => exact (show False from h).elim
end
section
variable (X : Cx) (ct : CT) (β : BInv) (Ex : XK)
def JE (e : Expr) (f : Sem) : Prop := PE X e (rdE (gc X ct) β Ex f)
def JL (es : List Expr) (f : SemL) : Prop := PA X es (rdL (gc X ct) β Ex f)
def JT (e : Expr) (f : SemB) : Prop := PT X e (rdB (gc X ct) β Ex f)
end
theorem PE.imp {X : Cx} {e : Expr} {t t' : TE} (h : PE X e t) (i : ∀ σ H Q, t' σ H Q → t σ H Q) : PE X e t' := ⟨fun pins s σ H Q I q => h.run pins s σ H Q I (i σ H Q q)⟩
theorem PT.imp {X : Cx} {e : Expr} {t t' : TT} (h : PT X e t) (i : ∀ σ H Q, t' σ H Q → t σ H Q) : PT X e t' := ⟨fun pins s σ H Q I q => h.run pins s σ H Q I (i σ H Q q)⟩
theorem PW.imp {X : Cx} {e : Expr} {t t' : TT} (h : PW X e t) (i : ∀ σ H Q, t' σ H Q → t σ H Q) : PW X e t' := ⟨fun wh pins s σ H Q I q => h.run wh pins s σ H Q I (i σ H Q q)⟩
theorem PA.imp {X : Cx} {e : List Expr} {t t' : TA} (h : PA X e t) (i : ∀ σ H Q, t' σ H Q → t σ H Q) : PA X e t' := ⟨fun pos pins s σ H Q I q => h.run pos pins s σ H Q I (i σ H Q q)⟩
def fVar (j : Nat) : Sem := fun ρ => match ρ[j]? with
  | some .un => .bad
  | some _ => .ret (.var j, ρ)
  | none => .bad
def fC (t : AV) : Sem := fun ρ => .ret (.val t, ρ)
section
variable {X : Cx} {ct : CT} {β : BInv} {Ex : XK}
theorem Rel.val {c0 : Gc} {g : G} {ρ : Env'} {σ : L2.St} {H : Hp} {j : Nat} {s : Slot} (r : Rel c0 β g ρ σ H) (h : ρ[j]? = some s) (hu : s ≠ .un) : ∃ v, σ[j]? = some (some v) := by
  have q := r.sl j s h
  cases s with
  | un => exact absurd rfl hu
  | fro t => obtain ⟨_, v, e, _⟩ := q; exact ⟨v, e⟩
  | ml xs => obtain ⟨p, vs, _, e, _⟩ := q; exact ⟨_, e⟩
  | md kd kvs => obtain ⟨p, vs, _, e, _⟩ := q; exact ⟨_, e⟩
  | slf c fs => obtain ⟨p, C, dx, vs, _, e, _⟩ := q; exact ⟨_, e⟩
theorem j_var (j : Nat) {x : Str} {pos : Pos} (hN : X.N[j]? = some x := by rfl) (hv : Vis X.env.scope x := by first | exact Or.inl rfl | exact Or.inr (Or.inl rfl) | exact Or.inr (Or.inr rfl)) (hd : (x == ("__debug__" : Str)) = false := by decide +kernel)
    (hcd : (x == ("__classdict__" : Str)) = false := by decide +kernel) : JE X ct β Ex (.Name x pos) (fVar j) := by
  refine PE.imp (pe_var (i := j) hN hv hd hcd) fun σ H Q h => ?_
  obtain ⟨g, ρ, r, h⟩ := h
  unfold fVar at h
  cases hs : ρ[j]? with
  | none => rw [hs] at h; exact (show False from h).elim
  | some s =>
    rw [hs] at h
    by_cases hu : s = .un
    · subst hu; exact (show False from h).elim
    · obtain ⟨v, e⟩ := r.val hs hu
      have h' : okT (gc X ct) β Ex g H (.ret (Hd.var j, ρ)) fun g' H' p => ∀ v, Rel (gc X ct) β g' p.2 σ H' → RepH (gc X ct) g' σ H' p.1 v → Q v H' := by
        cases s <;> first | exact h | exact absurd rfl hu
      exact ⟨v, e, okT_ret h' v r e⟩
theorem j_c {t : AV} {v : V} {e : Expr} (h : PE X e (tC v)) (hr : ∀ g H, RepG (gc X ct) g H t v) : JE X ct β Ex e (fC t) := by
  refine PE.imp h fun σ H Q h => ?_
  obtain ⟨g, ρ, r, h⟩ := h
  exact okT_ret h v r (hr g H)
theorem j_int {i j pos} : JE X ct β Ex (.Constant (.int i) j pos) (fC (.int i)) := j_c pe_int fun _ _ => by rw [RepG, Rep]
theorem j_bl {i j pos} : JE X ct β Ex (.Constant (.bool i) j pos) (fC (.bl i)) := j_c pe_bl fun _ _ => by rw [RepG, Rep]
theorem j_non {j pos} : JE X ct β Ex (.Constant .none j pos) (fC .non) := j_c pe_non fun _ _ => by rw [RepG, Rep]
theorem j_str {i j pos} : JE X ct β Ex (.Constant (.str i) j pos) (fC (.str i)) := j_c pe_str fun _ _ => by rw [RepG, Rep]
def fBin (op : AV → AV → Option AV) (f k : Sem) : Sem := fun ρ => (f ρ).bind fun p => (k p.2).bind fun q => (lift (rs p.1 q.2)).bind fun a => (lift (rs q.1 q.2)).bind fun b => (lift (op a b)).bind fun z => .ret (.val z, q.2)
def Op2 (X : Cx) (ct : CT) (r : R2) (op : AV → AV → Option AV) : Prop := ∀ (g : G) (H : Hp) (a b z : AV) (x y : V) (Q : VK), RepR (gc X ct) g H a x → RepR (gc X ct) g H b y → op a b = some z →
  (∀ v H', Same H H' → RepG (gc X ct) g H' z v → Q v H') → r x y H Q
theorem fBin_ok {r : R2} {op : AV → AV → Option AV} {f k : Sem} (hop : Op2 X ct r op) {σ : L2.St} {H : Hp} {Q : VK} (h : rdE (gc X ct) β Ex (fBin op f k) σ H Q) :
    rdE (gc X ct) β Ex f σ H fun x H1 => rdE (gc X ct) β Ex k σ H1 fun y H2 => r x y H2 Q := by
  obtain ⟨g, ρ, R, h⟩ := h
  refine ⟨g, ρ, R, okT_mono (okT_bind h) fun g1 H1 p e1 h1 x R1 rx => ⟨g1, p.2, R1, okT_mono (okT_bind h1) fun g2 H2 q e2 h2 y R2 ry => ?_⟩⟩
  obtain ⟨a, ea, h3⟩ := okT_lift h2
  obtain ⟨b, eb, h4⟩ := okT_lift h3
  obtain ⟨z, ez, h5⟩ := okT_lift h4
  refine hop g2 H2 a b z x y Q ((rx.ext e2).rs R2 ea) (ry.rs R2 eb) ez fun v H' s rv => ?_
  exact okT_ret' h5 (Ext.same s) v (R2.same s) rv
theorem j_bin {op : Operator} {r : R2} {o : AV → AV → Option AV} {a b : Expr} {f k : Sem} {pos : Pos} (ho : OpR X (binaryOp op) r) (hop : Op2 X ct r o) (ha : JE X ct β Ex a f) (hb : JE X ct β Ex b k) : JE X ct β Ex (.BinOp a op b pos) (fBin o f k) :=
  PE.imp (pe_op ho ha hb) fun σ H Q h => fBin_ok hop h
theorem j_cmp {op : CmpOp} {r : R2} {o : AV → AV → Option AV} {a b : Expr} {f k : Sem} {pos : Pos} (ho : OpR X (compareOp op) r) (hop : Op2 X ct r o) (ha : JE X ct β Ex a f) (hb : JE X ct β Ex b k) (hm : behindInMarks op b = false) :
    JE X ct β Ex (.Compare a [op] [b] pos) (fBin o f k) := PE.imp (pe_cmpR ho ha hb hm) fun σ H Q h => fBin_ok hop h
def fUn (op : AV → Option AV) (f : Sem) : Sem := fun ρ => (f ρ).bind fun p => (lift (rs p.1 p.2)).bind fun a => (lift (op a)).bind fun z => .ret (.val z, p.2)
def Op1 (X : Cx) (ct : CT) (r : V → Hp → VK → Prop) (op : AV → Option AV) : Prop := ∀ (g : G) (H : Hp) (a z : AV) (x : V) (Q : VK), RepR (gc X ct) g H a x → op a = some z →
  (∀ v H', Same H H' → RepG (gc X ct) g H' z v → Q v H') → r x H Q
theorem fUn_ok {r : V → Hp → VK → Prop} {op : AV → Option AV} {f : Sem} (hop : Op1 X ct r op) {σ : L2.St} {H : Hp} {Q : VK} (h : rdE (gc X ct) β Ex (fUn op f) σ H Q) :
    rdE (gc X ct) β Ex f σ H fun x H1 => r x H1 Q := by
  obtain ⟨g, ρ, R, h⟩ := h
  refine ⟨g, ρ, R, okT_mono (okT_bind h) fun g1 H1 p e1 h1 x R1 rx => ?_⟩
  obtain ⟨a, ea, h3⟩ := okT_lift h1
  obtain ⟨z, ez, h5⟩ := okT_lift h3
  refine hop g1 H1 a z x Q (rx.rs R1 ea) ez fun v H' s rv => ?_
  exact okT_ret' h5 (Ext.same s) v (R1.same s) rv
theorem j_un {op : UnaryOp} {r : V → Hp → VK → Prop} {o : AV → Option AV} {a : Expr} {f : Sem} {pos : Pos} (ho : UnR X (unaryOp op) r) (hop : Op1 X ct r o) (ha : JE X ct β Ex a f) : JE X ct β Ex (.UnaryOp op a pos) (fUn o f) :=
  PE.imp (pe_un ho ha) fun σ H Q h => fUn_ok hop h
end
end Dn
set_option Elab.async false
set_option linter.all false
set_option maxRecDepth 100000
namespace Dn
open PySem PySem.Spec PyProof.Rows L2
section
variable {c0 : Gc} {g : G} {H : Hp} {t : AV} {v : V}
theorem RepR.non (h : RepR c0 g H .non v) : v = .non := by
  rcases h with h | ⟨xs, p, vs, e, _⟩
  · rw [RepG, Rep] at h; exact h
  · cases e
theorem RepR.bl {b : Bool} (h : RepR c0 g H (.bl b) v) : v = .bl b := by
  rcases h with h | ⟨xs, p, vs, e, _⟩
  · rw [RepG, Rep] at h; exact h
  · cases e
theorem RepR.int {i : Int} (h : RepR c0 g H (.int i) v) : v = .int i := by
  rcases h with h | ⟨xs, p, vs, e, _⟩
  · rw [RepG, Rep] at h; exact h
  · cases e
theorem RepR.str {i : Str} (h : RepR c0 g H (.str i) v) : v = .str i := by
  rcases h with h | ⟨xs, p, vs, e, _⟩
  · rw [RepG, Rep] at h; exact h
  · cases e
theorem RepR.tup {xs : List AV} (h : RepR c0 g H (.tup xs) v) : ∃ a vs, v = .ref a ∧ SqT c0.K H a vs ∧ RepsG c0 g H xs vs := by
  rcases h with h | ⟨ys, p, vs, e, _⟩
  · rw [RepG, Rep] at h
    obtain ⟨a, vs, e, q, r⟩ := h
    exact ⟨a, vs, e, q.sq, r⟩
  · cases e
theorem RepR.lst' {xs : List AV} (h : RepR c0 g H (.lst xs) v) : ∃ a vs, v = .ref a ∧ H a = some (.lst vs) ∧ RepsG c0 g H xs vs := by
  rcases h with h | ⟨ys, p, vs, e, e2, _, e3, r⟩
  · rw [RepG, Rep] at h
    obtain ⟨a, vs, e, q, r⟩ := h
    exact ⟨a, vs, e, q.2, r⟩
  · cases e
    exact ⟨p, vs, e2, e3, r⟩
theorem RepR.lst {xs : List AV} (h : RepR c0 g H (.lst xs) v) : ∃ a vs, v = .ref a ∧ SqL c0.K H a vs ∧ RepsG c0 g H xs vs :=
  let ⟨a, vs, e, q, r⟩ := h.lst'
  ⟨a, vs, e, .of q, r⟩
theorem RepR.ins {c : Nat} {xs : List AV} (h : RepR c0 g H (.ins c xs) v) : RepG c0 g H (.ins c xs) v := by
  rcases h with h | ⟨ys, p, vs, e, _⟩
  · exact h
  · cases e
theorem rep_non : RepG c0 g H .non .non := by rw [RepG, Rep]
theorem rep_bl {b : Bool} : RepG c0 g H (.bl b) (.bl b) := by rw [RepG, Rep]
theorem rep_int {i : Int} : RepG c0 g H (.int i) (.int i) := by rw [RepG, Rep]
theorem rep_str {i : Str} : RepG c0 g H (.str i) (.str i) := by rw [RepG, Rep]
theorem rep_tup_new {H' : Hp} {p : Addr} {xs : List AV} {vs : List V} (hp : ¬ g.Av p) (e : H' p = some (.tup vs)) (r : RepsG c0 g H' xs vs) : RepG c0 g H' (.tup xs) (.ref p) := by
  rw [RepG, Rep]
  exact ⟨p, vs, rfl, .inl ⟨hp, e⟩, r⟩
theorem rep_lst_new {H' : Hp} {p : Addr} {xs : List AV} {vs : List V} (hp : ¬ g.Av p) (e : H' p = some (.lst vs)) (r : RepsG c0 g H' xs vs) : RepG c0 g H' (.lst xs) (.ref p) := by
  rw [RepG, Rep]
  exact ⟨p, vs, rfl, ⟨hp, e⟩, r⟩
theorem same_upd {H : Hp} {p : Addr} {o : HO} (h : H p = none) : Same H (upd H p o) := fun b x e => by
  rw [upd_ne (ne_of_none e h)]
  exact e
end
def big : Nat := 1000000
@[irreducible] def below (j : Int) (k : Nat) : Bool := decide (j.natAbs < 2 ^ k)
theorem below_iff {j : Int} {k : Nat} : below j k = true ↔ j.natAbs < 2 ^ k := by
  unfold below
  exact decide_eq_true_iff
theorem below_of {j : Int} {k : Nat} (h : j.natAbs < 2 ^ k) : below j k = true := below_iff.mpr h
theorem below62 {j : Int} (h : below j 62 = true) : -(2 ^ 62) ≤ j ∧ j < 2 ^ 62 := by
  have := below_iff.mp h
  omega
theorem big_line : big ≤ sizeLine := by rw [sizeLine_eq]; decide
def tru : AV → Option Bool
  | .non => some false
  | .bl b => some b
  | .int i => some (i != 0)
  | .str s => if s.length ≤ big then some ((s.length : Int) != 0) else none
  | .tup xs => some (!xs.isEmpty)
  | .lst xs => some (!xs.isEmpty)
  | _ => none
theorem isEmpty_reps {c0 : Gc} {A D : Addr → Prop} {H : Hp} {xs : List AV} {vs : List V} (h : RepL c0 A D H xs vs) : vs.isEmpty = xs.isEmpty := by
  have e := h.length
  cases xs <;> cases vs <;> first | rfl | simp at e
theorem tru_okV {c0 : Gc} {g : G} {H : Hp} {t : AV} {v : V} {b : Bool} (h : RepR c0 g H t v) (e : tru t = some b) : TruV c0.K v H b := by
  cases t with
  | non => cases e; rw [h.non]; rfl
  | bl _ => cases e; rw [h.bl]; rfl
  | int _ => cases e; rw [h.int]; rfl
  | str s =>
    rw [h.str]
    have e' : (if s.length ≤ big then some ((s.length : Int) != 0) else none) = some b := e
    by_cases hs : s.length ≤ big
    · rw [if_pos hs] at e'
      cases e'
      exact ⟨Nat.le_trans hs big_line, rfl⟩
    · rw [if_neg hs] at e'
      cases e'
  | tup xs =>
    cases e
    obtain ⟨a, vs, rfl, q, r⟩ := h.tup
    exact .inr (.inl ⟨vs, q, by rw [isEmpty_reps r]⟩)
  | lst xs =>
    cases e
    obtain ⟨a, vs, rfl, q, r⟩ := h.lst
    exact .inl ⟨vs, q, by rw [isEmpty_reps r]⟩
  | ins _ _ => cases e
  | dic _ _ => cases e
  | box => cases e
  | scr _ => cases e
  | any => cases e
def fTru (f : Sem) : SemB := fun ρ => (f ρ).bind fun p => (lift (rs p.1 p.2)).bind fun a => (lift (tru a)).bind fun b => .ret (b, p.2)
def blOf : AV → Option Bool
  | .bl b => some b
  | _ => none
def fBlT (f : Sem) : SemB := fun ρ => (f ρ).bind fun p => (lift (rs p.1 p.2)).bind fun a => (lift (blOf a)).bind fun b => .ret (b, p.2)
section
variable {X : Cx} {ct : CT} {β : BInv} {Ex : XK} {a b c : Expr} {f k l : Sem} {fb kb : SemB} {pos : Pos}
theorem jt_truth (ha : JE X ct β Ex a f) (he : ∀ whole, isTrue a X.env whole = (do let v ← whole; standAt a.pos; holding [v] (truthy v)) := by intro _; rfl) : JT X ct β Ex a (fTru f) := by
  refine PT.imp (pt_truth ha he) fun σ H Q h => ?_
  obtain ⟨g, ρ, R, h⟩ := h
  refine ⟨g, ρ, R, okT_mono (okT_bind h) fun g1 H1 p e1 h1 x R1 rx => ?_⟩
  obtain ⟨u, eu, h2⟩ := okT_lift h1
  obtain ⟨d, ed, h3⟩ := okT_lift h2
  exact ⟨d, tru_okV (rx.rs R1 eu) ed, okT_ret h3 R1⟩
theorem fBlT_ok {σ : L2.St} {H : Hp} {Q : Bool → Hp → Prop} (h : rdB (gc X ct) β Ex (fBlT f) σ H Q) : rdE (gc X ct) β Ex f σ H fun x H1 => ∃ k, x = .bl k ∧ Q k H1 := by
  obtain ⟨g, ρ, R, h⟩ := h
  refine ⟨g, ρ, R, okT_mono (okT_bind h) fun g1 H1 p e1 h1 x R1 rx => ?_⟩
  obtain ⟨u, eu, h2⟩ := okT_lift h1
  obtain ⟨d, ed, h3⟩ := okT_lift h2
  cases u with
  | bl _ =>
    cases ed
    exact ⟨_, (rx.rs R1 eu).bl, okT_ret h3 R1⟩
  | _ => cases ed
theorem jt_cmp {op : CmpOp} {r : R2} {o : AV → AV → Option AV} (ho : OpR X (compareOp op) r) (hop : Op2 X ct r o) (ha : JE X ct β Ex a f) (hb : JE X ct β Ex b k) (hm : behindInMarks op b = false) :
    JT X ct β Ex (.Compare a [op] [b] pos) (fBlT (fBin o f k)) := PT.imp (pt_cmpR ho ha hb hm) fun σ H Q h => fBin_ok hop (fBlT_ok h)
def fNotT (f : SemB) : SemB := fun ρ => (f ρ).bind fun p => .ret (!p.1, p.2)
theorem jt_not (ha : JT X ct β Ex a fb) : JT X ct β Ex (.UnaryOp .Not a pos) (fNotT fb) := by
  refine PT.imp (pt_not ha) fun σ H Q h => ?_
  obtain ⟨g, ρ, R, h⟩ := h
  exact ⟨g, ρ, R, okT_mono (okT_bind h) fun g1 H1 p e1 h1 R1 => okT_ret h1 R1⟩
def fAndT (f k : SemB) : SemB := fun ρ => (f ρ).bind fun p => if p.1 then k p.2 else .ret (false, p.2)
def fOrT (f k : SemB) : SemB := fun ρ => (f ρ).bind fun p => if p.1 then .ret (true, p.2) else k p.2
def JW (X : Cx) (ct : CT) (β : BInv) (Ex : XK) (e : Expr) (f : SemB) : Prop := PW X e (rdB (gc X ct) β Ex f)
theorem jw_pt {e : Expr} (h : JW X ct β Ex e fb) : JT X ct β Ex e fb := PW.pt h
theorem jw_or1 (ha : JT X ct β Ex a fb) : JW X ct β Ex (.BoolOp .Or [a] pos) fb := PW.imp (pw_or1 ha) fun _ _ _ h => h
theorem jw_or {rest : List Expr} (ha : JT X ct β Ex a fb) (hb : JW X ct β Ex (.BoolOp .Or (b :: rest) pos) kb) : JW X ct β Ex (.BoolOp .Or (a :: b :: rest) pos) (fOrT fb kb) := by
  refine PW.imp (pw_or ha hb) fun σ H Q h => ?_
  obtain ⟨g, ρ, R, h⟩ := h
  refine ⟨g, ρ, R, okT_mono (okT_bind h) fun g1 H1 p e1 h1 R1 => ?_⟩
  by_cases hp : p.1 = true
  · rw [if_pos hp] at h1 ⊢
    exact okT_ret h1 R1
  · rw [if_neg hp] at h1 ⊢
    exact ⟨g1, p.2, R1, h1⟩
def fAnd (f k : Sem) : Sem := fun ρ => (f ρ).bind fun p => (lift (rs p.1 p.2)).bind fun a => (lift (blOf a)).bind fun b => if b then k p.2 else .ret (.val (.bl false), p.2)
def fOr (f k : Sem) : Sem := fun ρ => (f ρ).bind fun p => (lift (rs p.1 p.2)).bind fun a => (lift (blOf a)).bind fun b => if b then .ret (.val (.bl true), p.2) else k p.2
def fNot (f : Sem) : Sem := fun ρ => (f ρ).bind fun p => (lift (rs p.1 p.2)).bind fun a => (lift (blOf a)).bind fun b => .ret (.val (.bl (!b)), p.2)
theorem okT_bl {g : G} {ρ : Env'} {σ : L2.St} {H : Hp} {b : Bool} {Q : VK} (h : okT (gc X ct) β Ex g H (.ret (Hd.val (.bl b), ρ)) fun g' H' p => ∀ v, Rel (gc X ct) β g' p.2 σ H' → RepH (gc X ct) g' σ H' p.1 v → Q v H') (R : Rel (gc X ct) β g ρ σ H) : Q (.bl b) H :=
  okT_ret h (.bl b) R (show RepG (gc X ct) g H (.bl b) (.bl b) from rep_bl)
theorem blOf_eq {t : AV} {b : Bool} (h : blOf t = some b) : t = .bl b := by
  cases t with
  | bl c => cases h; rfl
  | _ => cases h
theorem j_one {op} (h : JE X ct β Ex a f) : JE X ct β Ex (.BoolOp op [a] pos) f := PE.imp (pe_one h) fun _ _ _ h => h
theorem j_and {rest : List Expr} (ha : JE X ct β Ex a f) (hb : JE X ct β Ex (.BoolOp .And (b :: rest) pos) k) : JE X ct β Ex (.BoolOp .And (a :: b :: rest) pos) (fAnd f k) := by
  refine PE.imp (pe_and ha hb) fun σ H Q h => ?_
  obtain ⟨g, ρ, R, h⟩ := h
  refine ⟨g, ρ, R, okT_mono (okT_bind h) fun g1 H1 p e1 h1 x R1 rx => ?_⟩
  obtain ⟨u, eu, h2⟩ := okT_lift h1
  obtain ⟨d, ed, h3⟩ := okT_lift h2
  have eu' := blOf_eq ed
  subst eu'
  refine ⟨d, (rx.rs R1 eu).bl, ?_⟩
  cases d with
  | true => exact iteT ⟨g1, p.2, R1, h3⟩
  | false => exact iteF (okT_bl h3 R1)
theorem j_not (ha : JE X ct β Ex a f) : JE X ct β Ex (.UnaryOp .Not a pos) (fNot f) := by
  refine PE.imp (pe_not ha) fun σ H Q h => ?_
  obtain ⟨g, ρ, R, h⟩ := h
  refine ⟨g, ρ, R, okT_mono (okT_bind h) fun g1 H1 p e1 h1 x R1 rx => ?_⟩
  obtain ⟨u, eu, h2⟩ := okT_lift h1
  obtain ⟨d, ed, h3⟩ := okT_lift h2
  have eu' := blOf_eq ed
  subst eu'
  exact ⟨d, (rx.rs R1 eu).bl, okT_bl h3 R1⟩
def fIf (t : SemB) (f k : Sem) : Sem := fun ρ => (t ρ).bind fun p => if p.1 then f p.2 else k p.2
theorem j_ifExp (hc : JT X ct β Ex c fb) (ha : JE X ct β Ex a f) (hb : JE X ct β Ex b k) : JE X ct β Ex (.IfExp c a b pos) (fIf fb f k) := by
  refine PE.imp (pe_ifExp hc ha hb) fun σ H Q h => ?_
  obtain ⟨g, ρ, R, h⟩ := h
  refine ⟨g, ρ, R, okT_mono (okT_bind h) fun g1 H1 p e1 h1 R1 => ?_⟩
  by_cases hp : p.1 = true
  · rw [if_pos hp] at h1 ⊢
    exact ⟨g1, p.2, R1, h1⟩
  · rw [if_neg hp] at h1 ⊢
    exact ⟨g1, p.2, R1, h1⟩
def fChain (o o' : AV → AV → Option AV) (f k l : Sem) : Sem := fun ρ => (f ρ).bind fun p => (k p.2).bind fun q => (lift (rs p.1 q.2)).bind fun a => (lift (rs q.1 q.2)).bind fun b => (lift (o a b)).bind fun z => (lift (blOf z)).bind fun d =>
  if d then (l q.2).bind fun r => (lift (rs q.1 r.2)).bind fun b' => (lift (rs r.1 r.2)).bind fun c => (lift (o' b' c)).bind fun z => .ret (.val z, r.2) else .ret (.val (.bl false), q.2)
def Op2p (X : Cx) (ct : CT) (r : R2) (op : AV → AV → Option AV) : Prop := ∀ (g : G) (H : Hp) (a b z : AV) (x y : V) (Q : VK), RepR (gc X ct) g H a x → RepR (gc X ct) g H b y → op a b = some z →
  (∀ v, RepG (gc X ct) g H z v → Q v H) → r x y H Q
theorem Op2p.op {r : R2} {o : AV → AV → Option AV} (h : Op2p X ct r o) : Op2 X ct r o := fun g H a b z x y Q ra rb e q => h g H a b z x y Q ra rb e fun v rv => q v H (Same.refl H) rv
def lNil : SemL := fun ρ => .ret ([], ρ)
def lCons (f : Sem) (k : SemL) : SemL := fun ρ => (f ρ).bind fun p => (frz p).bind fun q => (k q.2).bind fun r => .ret (q.1 :: r.1, r.2)
theorem jl_nil : JL X ct β Ex [] lNil := PA.imp pa_nil fun σ H Q h => by
  obtain ⟨g, ρ, R, h⟩ := h
  exact okT_ret h _ R .nil
theorem jl_cons {es : List Expr} {m : SemL} (ha : JE X ct β Ex a f) (hr : JL X ct β Ex es m) (hs : starEach (a :: es) X.env = (false, eval a X.env) :: starEach es X.env := by rfl) : JL X ct β Ex (a :: es) (lCons f m) := by
  refine PA.imp (pa_cons ha hr hs) fun σ H Q h => ?_
  obtain ⟨g, ρ, R, h⟩ := h
  refine ⟨g, ρ, R, okT_mono (okT_bind h) fun g1 H1 p e1 h1 x R1 rx => ?_⟩
  obtain ⟨g2, q, e2, R2, rq, h2⟩ := frz_ok R1 rx h1
  refine ⟨g2, q.2, R2, okT_mono (okT_bind h2) fun g3 H3 r e3 h3 vs R3 rr => ?_⟩
  exact okT_ret h3 _ R3 (.cons (e3.rep rq) rr)
def fTup (k : SemL) : Sem := fun ρ => (k ρ).bind fun p => if p.1.length ≤ big then .ret (.val (.tup p.1), p.2) else .bad
def fLst (k : SemL) : Sem := fun ρ => (k ρ).bind fun p => if p.1.length ≤ big then .ret (.val (.lst p.1), p.2) else .bad
theorem Rel.freshAv {c0 : Gc} {g : G} {ρ : Env'} {σ : L2.St} {H : Hp} {p : Addr} (R : Rel c0 β g ρ σ H) (h : H p = none) : ¬ g.Av p := fun z => R.avLive z h
theorem j_tup {es : List Expr} {m : SemL} {x1} (h : JL X ct β Ex es m) : JE X ct β Ex (.Tuple es x1 pos) (fTup m) := by
  refine PE.imp (pe_tup h) fun σ H Q h => ?_
  obtain ⟨g, ρ, R, h⟩ := h
  refine ⟨g, ρ, R, okT_mono (okT_bind h) fun g1 H1 p e1 h1 vs R1 rx => ?_⟩
  by_cases hl : p.1.length ≤ big
  · rw [if_pos hl] at h1
    refine ⟨by rw [rx.length]; exact Nat.le_trans hl big_line, fun q hq => ?_⟩
    have s := same_upd (o := .tup vs) hq
    exact okT_ret' h1 (Ext.same s) _ (R1.same s) (rep_tup_new (R1.freshAv hq) upd_same ((Ext.same s).reps rx))
  · rw [if_neg hl] at h1
    exact (show False from h1).elim
end
end Dn
set_option Elab.async false
set_option linter.all false
set_option maxRecDepth 100000
namespace Dn
open PySem PySem.Spec PyProof.Rows L2
def dat : Nat → AV → Bool
  | _, .non => true
  | _, .bl _ => true
  | _, .int _ => true
  | _, .str s => PyData.strOk s
  | n + 1, .tup xs => xs.all (dat n)
  | n + 1, .lst xs => xs.all (dat n)
  | _, _ => false
def allEq (f : AV → AV → Bool) : List AV → List AV → Bool
  | [], [] => true
  | x :: xs, y :: ys => f x y && allEq f xs ys
  | _, _ => false
def aeq : Nat → AV → AV → Bool
  | _, .non, .non => true
  | _, .bl a, .bl b => a == b
  | _, .bl a, .int j => (if a then 1 else 0) == j
  | _, .int i, .bl b => i == (if b then 1 else 0)
  | _, .int i, .int j => i == j
  | _, .str x, .str y => x == y
  | n + 1, .tup xs, .tup ys => allEq (aeq n) xs ys
  | n + 1, .lst xs, .lst ys => allEq (aeq n) xs ys
  | _, _, _ => false
def toD : Nat → AV → PyData
  | _, .non => .none
  | _, .bl b => .bool b
  | _, .int i => .int i
  | _, .str s => .str s
  | n + 1, .tup xs => .tuple (xs.map (toD n))
  | n + 1, .lst xs => .list (xs.map (toD n))
  | _, _ => .none
theorem toD_lay : ∀ (n : Nat) (t : AV), dat n t = true → (toD n t).canLay0 = true ∧ (toD n t).depth ≤ n
  | n, .non, _ => by cases n <;> simp [toD, PyData.canLay0, PyData.depth]
  | n, .bl _, _ => by cases n <;> simp [toD, PyData.canLay0, PyData.depth]
  | n, .int _, _ => by cases n <;> simp [toD, PyData.canLay0, PyData.depth]
  | n, .str s, h => by
    have h' : PyData.strOk s = true := by cases n <;> exact h
    cases n <;> simp [toD, PyData.canLay0, PyData.depth, h']
  | 0, .tup _, h => by simp [dat] at h
  | 0, .lst _, h => by simp [dat] at h
  | n, .ins _ _, h => by cases n <;> simp [dat] at h
  | n, .box, h => by cases n <;> simp [dat] at h
  | n, .scr _, h => by cases n <;> simp [dat] at h
  | n, .dic _ _, h => by cases n <;> simp [dat] at h
  | n, .any, h => by cases n <;> simp [dat] at h
  | n + 1, .tup xs, h => by
    have h' : xs.all (dat n) = true := h
    have q : PyData.canLayAll0 (xs.map (toD n)) = true ∧ PyData.depthAll (xs.map (toD n)) ≤ n := by
      induction xs with
      | nil => simp [PyData.canLayAll0, PyData.depthAll]
      | cons x xs ih =>
        rw [List.all_cons, Bool.and_eq_true] at h'
        have a := toD_lay n x h'.1
        have b := ih h'.2 h'.2
        simp only [List.map_cons, PyData.canLayAll0, PyData.depthAll, a.1, b.1, Bool.and_self, true_and]
        omega
    simp only [toD, PyData.canLay0, PyData.depth, q.1, true_and]
    omega
  | n + 1, .lst xs, h => by
    have h' : xs.all (dat n) = true := h
    have q : PyData.canLayAll0 (xs.map (toD n)) = true ∧ PyData.depthAll (xs.map (toD n)) ≤ n := by
      induction xs with
      | nil => simp [PyData.canLayAll0, PyData.depthAll]
      | cons x xs ih =>
        rw [List.all_cons, Bool.and_eq_true] at h'
        have a := toD_lay n x h'.1
        have b := ih h'.2 h'.2
        simp only [List.map_cons, PyData.canLayAll0, PyData.depthAll, a.1, b.1, Bool.and_self, true_and]
        omega
    simp only [toD, PyData.canLay0, PyData.depth, q.1, true_and]
    omega
theorem toD_shaped {n : Nat} {t : AV} (h : dat n t = true) (hn : n ≤ 64) : SeqAt.shaped (toD n t) = true := by
  obtain ⟨a, b⟩ := toD_lay n t h
  show ((toD n t).canLay0 && decide ((toD n t).depth ≤ 64)) = true
  rw [a, Bool.true_and]
  exact decide_eq_true (by omega)
theorem dp_of {c0 : Gc} {g : G} {H : Hp} : ∀ (n : Nat) {t : AV} {v : V}, RepG c0 g H t v → dat n t = true → Dp c0.K H v (toD n t)
  | n, .non, v, h, _ => by rw [RepG, Rep] at h; subst h; cases n <;> exact .non
  | n, .bl b, v, h, _ => by rw [RepG, Rep] at h; subst h; cases n <;> exact .bl b
  | n, .int i, v, h, _ => by rw [RepG, Rep] at h; subst h; cases n <;> exact .int i
  | n, .str s, v, h, _ => by rw [RepG, Rep] at h; subst h; cases n <;> exact .str s
  | 0, .tup _, _, _, h => by simp [dat] at h
  | 0, .lst _, _, _, h => by simp [dat] at h
  | n, .ins _ _, _, _, h => by cases n <;> simp [dat] at h
  | n, .box, _, _, h => by cases n <;> simp [dat] at h
  | n, .scr _, _, _, h => by cases n <;> simp [dat] at h
  | n, .dic _ _, _, _, h => by cases n <;> simp [dat] at h
  | n, .any, _, _, h => by cases n <;> simp [dat] at h
  | n + 1, .tup xs, v, h, hd => by
    rw [RepG, Rep] at h
    obtain ⟨a, vs, rfl, q, r⟩ := h
    refine .tup q.sq ?_
    have hd' : xs.all (dat n) = true := hd
    clear q
    induction xs generalizing vs with
    | nil => rw [RepL] at r; subst r; exact .nil
    | cons x xs ih =>
      rw [RepL] at r
      obtain ⟨v, r', rfl, h1, h2⟩ := r
      rw [List.all_cons, Bool.and_eq_true] at hd'
      exact .cons (dp_of n h1 hd'.1) (ih hd'.2 _ h2 hd'.2)
  | n + 1, .lst xs, v, h, hd => by
    rw [RepG, Rep] at h
    obtain ⟨a, vs, rfl, q, r⟩ := h
    refine .lst q.sq ?_
    have hd' : xs.all (dat n) = true := hd
    clear q
    induction xs generalizing vs with
    | nil => rw [RepL] at r; subst r; exact .nil
    | cons x xs ih =>
      rw [RepL] at r
      obtain ⟨v, r', rfl, h1, h2⟩ := r
      rw [List.all_cons, Bool.and_eq_true] at hd'
      exact .cons (dp_of n h1 hd'.1) (ih hd'.2 _ h2 hd'.2)
theorem dpAll_of {c0 : Gc} {g : G} {H : Hp} (n : Nat) : ∀ {xs : List AV} {vs : List V}, RepsG c0 g H xs vs → xs.all (dat n) = true → DpAll c0.K H vs (xs.map (toD n))
  | [], vs, r, _ => by rw [RepsG, RepL] at r; subst r; exact .nil
  | x :: xs, vs, r, hd => by
    rw [RepsG, RepL] at r
    obtain ⟨v, r', rfl, h1, h2⟩ := r
    rw [List.all_cons, Bool.and_eq_true] at hd
    exact .cons (dp_of n h1 hd.1) (dpAll_of n h2 hd.2)
theorem dp_ofR {c0 : Gc} {g : G} {H : Hp} {n : Nat} {t : AV} {v : V} (h : RepR c0 g H t v) (hd : dat n t = true) : Dp c0.K H v (toD n t) := by
  rcases h with h | ⟨xs, p, vs, rfl, rfl, _, e, r⟩
  · exact dp_of n h hd
  · cases n with
    | zero => simp [dat] at hd
    | succ n => exact .lst (.of e) (dpAll_of n r hd)
theorem aeq_eqv : ∀ (n : Nat) (a b : AV), dat n a = true → dat n b = true → PyData.eqv (toD n a) (toD n b) = aeq n a b := by
  intro n
  induction n with
  | zero =>
    intro a b ha hb
    cases a <;> cases b <;> first | (simp [dat] at ha; done) | (simp [dat] at hb; done) | rfl
  | succ n ih =>
    have lists : ∀ (xs ys : List AV), xs.all (dat n) = true → ys.all (dat n) = true → PyData.eqvAll (xs.map (toD n)) (ys.map (toD n)) = allEq (aeq n) xs ys := by
      intro xs
      induction xs with
      | nil => intro ys _ _; cases ys <;> rfl
      | cons x xs ihx =>
        intro ys hx hy
        cases ys with
        | nil => rfl
        | cons y ys =>
          rw [List.all_cons, Bool.and_eq_true] at hx hy
          show (PyData.eqv (toD n x) (toD n y) && PyData.eqvAll (xs.map (toD n)) (ys.map (toD n))) = (aeq n x y && allEq (aeq n) xs ys)
          rw [ih x y hx.1 hy.1, ihx ys hx.2 hy.2]
    intro a b ha hb
    cases a <;> cases b <;> first
      | (simp [dat] at ha; done)
      | (simp [dat] at hb; done)
      | rfl
      | (simp only [toD, PyData.eqv, aeq]; exact lists _ _ ha hb)
abbrev DEP : Nat := 12
def pEq (a b : AV) : Option AV := if dat DEP a && dat DEP b then some (.bl (aeq DEP a b)) else none
def pNe (a b : AV) : Option AV := if dat DEP a && dat DEP b then some (.bl (!aeq DEP a b)) else none
def inAny (a : AV) (xs : List AV) : Bool := xs.any fun z => aeq DEP z a
def pIn (a b : AV) : Option AV := match b with
  | .tup xs => if dat DEP a && xs.all (dat DEP) then some (.bl (inAny a xs)) else none
  | .lst xs => if dat DEP a && xs.all (dat DEP) then some (.bl (inAny a xs)) else none
  | _ => none
def pNotIn (a b : AV) : Option AV := match b with
  | .tup xs => if dat DEP a && xs.all (dat DEP) then some (.bl (!inAny a xs)) else none
  | .lst xs => if dat DEP a && xs.all (dat DEP) then some (.bl (!inAny a xs)) else none
  | _ => none
theorem if_some {p : Bool} {a z : AV} (h : (if p then some a else none) = some z) : p = true ∧ z = a := by
  cases p with
  | true => cases h; exact ⟨rfl, rfl⟩
  | false => cases h
section
variable {X : Cx} {ct : CT} {β : BInv} {Ex : XK}
theorem o_eq : Op2p X ct (rEqD X.K) pEq := by
  intro g H a b z x y Q ra rb e q
  obtain ⟨h, rfl⟩ := if_some e
  rw [Bool.and_eq_true] at h
  exact ⟨_, _, dp_ofR ra h.1, dp_ofR rb h.2, toD_shaped h.1 (by decide), toD_shaped h.2 (by decide), by rw [aeq_eqv _ _ _ h.1 h.2]; exact q _ rep_bl⟩
theorem o_ne : Op2p X ct (rNeD X.K) pNe := by
  intro g H a b z x y Q ra rb e q
  obtain ⟨h, rfl⟩ := if_some e
  rw [Bool.and_eq_true] at h
  exact ⟨_, _, dp_ofR ra h.1, dp_ofR rb h.2, toD_shaped h.1 (by decide), toD_shaped h.2 (by decide), by rw [aeq_eqv _ _ _ h.1 h.2]; exact q _ rep_bl⟩
def rInT (K : PySem.W.Frag) (neg : Bool) : R2 := fun x y H Q => ∃ d ds, Dp K H x d ∧ Dp K H y (.tuple ds) ∧ SeqAt.shaped d = true ∧ SeqAt.shaped (.list ds) = true ∧ Q (.bl (if neg then !ds.any fun z => PyData.eqv z d else ds.any fun z => PyData.eqv z d)) H
end
def pAdd (a b : AV) : Option AV := match a, b with
  | .int i, .int j => some (.int (i + j))
  | .str x, .str y => if x.length + y.length ≤ big then some (.str (x ++ y)) else none
  | .tup xs, .tup ys => if xs.length + ys.length ≤ big then some (.tup (xs ++ ys)) else none
  | .lst xs, .lst ys => if xs.length + ys.length ≤ big then some (.lst (xs ++ ys)) else none
  | _, _ => none
def pSub (a b : AV) : Option AV := match a, b with
  | .int i, .int j => some (.int (i - j))
  | _, _ => none
def pMul (a b : AV) : Option AV := match a, b with
  | .int i, .int j => if i.natAbs.log2 + j.natAbs.log2 < 1000000 then some (.int (i * j)) else none
  | .lst xs, .int k => if 0 ≤ k ∧ xs.length * k.toNat ≤ big ∧ k < 1000000 then some (.lst (List.replicate k.toNat xs).flatten) else none
  | .tup xs, .int k => if xs.isEmpty = false ∧ 2 ≤ k ∧ k ≤ 1000 ∧ xs.length ≤ 1000 then some (.tup (List.replicate k.toNat xs).flatten) else none
  | _, _ => none
def pDiv (a b : AV) : Option AV := match a, b with
  | .int i, .int j => if 0 < j ∧ j.natAbs.log2 < 9000 then some (.int (i / j)) else none
  | _, _ => none
def pMod (a b : AV) : Option AV := match a, b with
  | .int i, .int j => if 0 < j then some (.int (i % j)) else none
  | _, _ => none
def pPow (a b : AV) : Option AV := match a, b with
  | .int i, .int j => if 0 ≤ j ∧ j ≤ 1000000 ∧ below i 64 = true then some (.int (i ^ j.toNat)) else none
  | _, _ => none
def pNeg (a : AV) : Option AV := match a with
  | .int i => some (.int (-i))
  | _ => none
def pLt (a b : AV) : Option AV := match a, b with
  | .int i, .int j => some (.bl (decide (i < j)))
  | _, _ => none
def pLe (a b : AV) : Option AV := match a, b with
  | .int i, .int j => some (.bl (decide (i ≤ j)))
  | _, _ => none
def pGt (a b : AV) : Option AV := match a, b with
  | .int i, .int j => some (.bl (decide (j < i)))
  | _, _ => none
def pGe (a b : AV) : Option AV := match a, b with
  | .int i, .int j => some (.bl (decide (j ≤ i)))
  | _, _ => none
def pIsN (a b : AV) : Option AV := match b with
  | .non => match a with
    | .non => some (.bl true)
    | .any => none
    | _ => some (.bl false)
  | _ => none
def pNotN (a b : AV) : Option AV := match b with
  | .non => match a with
    | .non => some (.bl false)
    | .any => none
    | _ => some (.bl true)
  | _ => none
theorem ifp_some {p : Prop} [Decidable p] {a z : AV} (h : (if p then some a else none) = some z) : p ∧ z = a := by
  by_cases hp : p
  · rw [if_pos hp] at h; cases h; exact ⟨hp, rfl⟩
  · rw [if_neg hp] at h; cases h
section
variable {X : Cx} {ct : CT} {β : BInv} {Ex : XK}
theorem rep_tupR {c0 : Gc} {g : G} {H : Hp} {xs : List AV} {v : V} (h : RepR c0 g H (.tup xs) v) : RepG c0 g H (.tup xs) v := by
  rcases h with h | ⟨ys, p, vs, e, _⟩
  · exact h
  · cases e
abbrev rAddA (K : PySem.W.Frag) : R2 := fun x y H Q => (((rI0 fun i j => .int (i + j)) x y H Q ∨ (∃ i j, x = .str i ∧ y = .str j ∧ i.length + j.length ≤ sizeLine ∧ Q (.str (i ++ j)) H)) ∨ rCatA K x y H Q) ∨ rCat x y H Q
theorem op_addA : OpR X (binaryOp .Add) (rAddA X.K) := ((op_add.or op_add_str).or op_catA).or op_cat
def Op2' (X : Cx) (ct : CT) (r : R2) (op : AV → AV → Option AV) : Prop := ∀ (g : G) (H : Hp) (a b z : AV) (x y : V) (Q : VK), (∀ p, g.Av p → H p ≠ none) → RepR (gc X ct) g H a x → RepR (gc X ct) g H b y → op a b = some z →
  (∀ v H', Same H H' → RepG (gc X ct) g H' z v → Q v H') → r x y H Q
theorem fBin_ok' {r : R2} {op : AV → AV → Option AV} {f k : Sem} (hop : Op2' X ct r op) {σ : L2.St} {H : Hp} {Q : VK} (h : rdE (gc X ct) β Ex (fBin op f k) σ H Q) :
    rdE (gc X ct) β Ex f σ H fun x H1 => rdE (gc X ct) β Ex k σ H1 fun y H2 => r x y H2 Q := by
  obtain ⟨g, ρ, R, h⟩ := h
  refine ⟨g, ρ, R, okT_mono (okT_bind h) fun g1 H1 p e1 h1 x R1 rx => ⟨g1, p.2, R1, okT_mono (okT_bind h1) fun g2 H2 q e2 h2 y R2 ry => ?_⟩⟩
  obtain ⟨a, ea, h3⟩ := okT_lift h2
  obtain ⟨b, eb, h4⟩ := okT_lift h3
  obtain ⟨z, ez, h5⟩ := okT_lift h4
  refine hop g2 H2 a b z x y Q (fun _ h => R2.avLive h) ((rx.ext e2).rs R2 ea) (ry.rs R2 eb) ez fun v H' s rv => ?_
  exact okT_ret' h5 (Ext.same s) v (R2.same s) rv
theorem j_bin' {op : Operator} {r : R2} {o : AV → AV → Option AV} {a b : Expr} {f k : Sem} {pos : Pos} (ho : OpR X (binaryOp op) r) (hop : Op2' X ct r o) (ha : JE X ct β Ex a f) (hb : JE X ct β Ex b k) : JE X ct β Ex (.BinOp a op b pos) (fBin o f k) :=
  PE.imp (pe_op ho ha hb) fun σ H Q h => fBin_ok' hop h
theorem reps_nil {c0 : Gc} {A D : Addr → Prop} {H : Hp} {xs : List AV} {vs : List V} (r : RepL c0 A D H xs vs) (h : vs = []) : xs = [] := by
  have := r.length
  rw [h] at this
  cases xs with
  | nil => rfl
  | cons _ _ => simp at this
theorem o_add : Op2' X ct (rAddA X.K) pAdd := by
  intro g H a b z x y Q live ra rb e q
  cases a <;> cases b <;> first | (simp [pAdd] at e; done) | skip
  · cases e
    exact .inl (.inl (.inl ⟨_, _, ra.int, rb.int, q _ H (Same.refl H) rep_int⟩))
  · obtain ⟨h, rfl⟩ := ifp_some e
    exact .inl (.inl (.inr ⟨_, _, ra.str, rb.str, Nat.le_trans h big_line, q _ H (Same.refl H) rep_str⟩))
  · obtain ⟨h, rfl⟩ := ifp_some e
    obtain ⟨a', vs, rfl, h1, r1⟩ := ra.tup
    obtain ⟨b', ws, rfl, h2, r2⟩ := rb.tup
    refine .inl (.inr ⟨a', b', vs, ws, rfl, rfl, h1, h2, ?_, fun hv => ?_, fun _ hw => ?_, fun _ _ p hp => ?_⟩)
    · rw [r1.length, r2.length]; exact Nat.le_trans h big_line
    · refine q _ H (Same.refl H) ?_
      rw [reps_nil r1 hv]
      exact rep_tupR rb
    · refine q _ H (Same.refl H) ?_
      rw [reps_nil r2 hw, List.append_nil]
      exact rep_tupR ra
    · have s := same_upd (o := .tup (vs ++ ws)) hp
      exact q _ _ s (rep_tup_new (fun z => live p z hp) upd_same ((Ext.same s).reps (r1.append r2)))
  · obtain ⟨h, rfl⟩ := ifp_some e
    obtain ⟨a', vs, rfl, h1, r1⟩ := ra.lst'
    obtain ⟨b', ws, rfl, h2, r2⟩ := rb.lst'
    refine .inr ⟨a', b', vs, ws, rfl, rfl, h1, h2, ?_, fun p hp => ?_⟩
    · rw [r1.length, r2.length]; exact Nat.le_trans h big_line
    · have s := same_upd (o := .lst (vs ++ ws)) hp
      exact q _ _ s (rep_lst_new (fun z => live p z hp) upd_same ((Ext.same s).reps (r1.append r2)))
theorem o_mod : Op2 X ct (rI (fun _ j => 0 < j) fun i j => .int (i % j)) pMod := by
  intro g H a b z x y Q ra rb e q
  cases a <;> cases b <;> first | (simp [pMod] at e; done) | skip
  obtain ⟨h, rfl⟩ := ifp_some e
  exact ⟨_, _, ra.int, rb.int, h, q _ H (Same.refl H) rep_int⟩
theorem o_pow : Op2 X ct (rI CPow fun i j => .int (i ^ j.toNat)) pPow := by
  intro g H a b z x y Q ra rb e q
  cases a <;> cases b <;> first | (simp [pPow] at e; done) | skip
  obtain ⟨h, rfl⟩ := ifp_some e
  exact ⟨_, _, ra.int, rb.int, ⟨h.1, h.2.1, below_iff.mp h.2.2⟩, q _ H (Same.refl H) rep_int⟩
theorem o_neg : Op1 X ct (rU fun i => .int (-i)) pNeg := by
  intro g H a z x Q ra e q
  cases a <;> first | (simp [pNeg] at e; done) | skip
  cases e
  exact ⟨_, ra.int, q _ H (Same.refl H) rep_int⟩
theorem o_lt : Op2p X ct (rI0 fun i j => .bl (decide (i < j))) pLt := by
  intro g H a b z x y Q ra rb e q
  cases a <;> cases b <;> first | (simp [pLt] at e; done) | skip
  cases e
  exact ⟨_, _, ra.int, rb.int, q _ rep_bl⟩
theorem o_gt : Op2p X ct (rI0 fun i j => .bl (decide (j < i))) pGt := by
  intro g H a b z x y Q ra rb e q
  cases a <;> cases b <;> first | (simp [pGt] at e; done) | skip
  cases e
  exact ⟨_, _, ra.int, rb.int, q _ rep_bl⟩
theorem o_ge : Op2p X ct (rI0 fun i j => .bl (decide (j ≤ i))) pGe := by
  intro g H a b z x y Q ra rb e q
  cases a <;> cases b <;> first | (simp [pGe] at e; done) | skip
  cases e
  exact ⟨_, _, ra.int, rb.int, q _ rep_bl⟩
def isNon : AV → Bool
  | .non => true
  | _ => false
theorem repR_ref {c0 : Gc} {g : G} {H : Hp} {t : AV} {v : V} (h : RepR c0 g H t v) (ha : t ≠ .any) : decide (v = .non) = isNon t := by
  cases t with
  | non => have e := h.non; subst e; rfl
  | bl _ => have e := h.bl; subst e; rfl
  | int _ => have e := h.int; subst e; rfl
  | str _ => have e := h.str; subst e; rfl
  | tup _ => obtain ⟨a, vs, rfl, _⟩ := h.tup; rfl
  | lst _ => obtain ⟨a, vs, rfl, _⟩ := h.lst; rfl
  | ins _ _ => have h := h.ins; rw [RepG, Rep] at h; obtain ⟨a, _, _, _, rfl, _⟩ := h; rfl
  | box =>
    rcases h with h | ⟨_, _, _, e, _⟩
    · rw [RepG, Rep] at h; obtain ⟨a, rfl, _⟩ := h; rfl
    · cases e
  | scr _ =>
    rcases h with h | ⟨_, _, _, e, _⟩
    · rw [RepG, Rep] at h; obtain ⟨a, rfl, _⟩ := h; rfl
    · cases e
  | dic _ _ =>
    rcases h with h | ⟨_, _, _, e, _⟩
    · rw [RepG, Rep] at h; obtain ⟨a, _, rfl, _⟩ := h; rfl
    · cases e
  | any => exact absurd rfl ha
theorem o_isN : Op2p X ct (fun x y H Q => y = .non ∧ Q (.bl (decide (x = .non))) H) pIsN := by
  intro g H a b z x y Q ra rb e q
  cases b <;> first | (simp [pIsN] at e; done) | skip
  refine ⟨rb.non, ?_⟩
  rw [repR_ref ra (fun z => by subst z; cases e)]
  cases a <;> (cases e; try exact q _ rep_bl)
theorem o_notN : Op2p X ct (fun x y H Q => y = .non ∧ Q (.bl (!decide (x = .non))) H) pNotN := by
  intro g H a b z x y Q ra rb e q
  cases b <;> first | (simp [pNotN] at e; done) | skip
  refine ⟨rb.non, ?_⟩
  rw [repR_ref ra (fun z => by subst z; cases e)]
  cases a <;> (cases e; try exact q _ rep_bl)
end
end Dn
set_option Elab.async false
set_option linter.all false
set_option maxRecDepth 100000
namespace Dn
open PySem PySem.Spec PyProof.Rows L2
def Op1' (X : Cx) (ct : CT) (r : V → Hp → VK → Prop) (op : AV → Option AV) : Prop := ∀ (g : G) (H : Hp) (a z : AV) (x : V) (Q : VK), (∀ p, g.Av p → H p ≠ none) → RepR (gc X ct) g H a x → op a = some z →
  (∀ v H', Same H H' → RepG (gc X ct) g H' z v → Q v H') → r x H Q
section
variable {X : Cx} {ct : CT} {β : BInv} {Ex : XK} {a b : Expr} {f k : Sem} {pos p : Pos} {x : Str} {id ty : String}
theorem fUn_ok' {r : V → Hp → VK → Prop} {op : AV → Option AV} (hop : Op1' X ct r op) {σ : L2.St} {H : Hp} {Q : VK} (h : rdE (gc X ct) β Ex (fUn op f) σ H Q) :
    rdE (gc X ct) β Ex f σ H fun x H1 => r x H1 Q := by
  obtain ⟨g, ρ, R, h⟩ := h
  refine ⟨g, ρ, R, okT_mono (okT_bind h) fun g1 H1 p e1 h1 x R1 rx => ?_⟩
  obtain ⟨a, ea, h3⟩ := okT_lift h1
  obtain ⟨z, ez, h5⟩ := okT_lift h3
  refine hop g1 H1 a z x Q (fun _ h => R1.avLive h) (rx.rs R1 ea) ez fun v H' s rv => ?_
  exact okT_ret' h5 (Ext.same s) v (R1.same s) rv
theorem j_callB {r : List V → Hp → VK → Prop} {o : AV → Option AV} (hc : CallR X (.builtin id) r) (hop : Op1' X ct (fun x H Q => r [x] H Q) o) (hg : Gl X x) (hm : X.mg x = none) (hv : bootBuiltins x = some (.builtin id)) (ha : JE X ct β Ex a f)
    (hn : x ≠ "__name__" := by decide +kernel) (hdb : (x == ("__debug__" : Str)) = false := by decide +kernel) (he : starEach [a] X.env = (false, eval a X.env) :: starEach [] X.env := by rfl) : JE X ct β Ex (.Call (.Name x p) [a] [] pos) (fUn o f) := by
  refine PE.imp (pe_callB hc hg hm hv (pa_cons ha pa_nil he) hn hdb he) fun σ H Q h => ?_
  exact fUn_ok' hop h
theorem j_callTy {r : List V → Hp → VK → Prop} {o : AV → Option AV} (hc : CallR X (.type ty) r) (hop : Op1' X ct (fun x H Q => r [x] H Q) o) (hg : Gl X x) (hm : X.mg x = none) (hv : bootBuiltins x = some (.type ty)) (ha : JE X ct β Ex a f)
    (hn : x ≠ "__name__" := by decide +kernel) (hdb : (x == ("__debug__" : Str)) = false := by decide +kernel) (he : starEach [a] X.env = (false, eval a X.env) :: starEach [] X.env := by rfl) : JE X ct β Ex (.Call (.Name x p) [a] [] pos) (fUn o f) := by
  refine PE.imp (pe_callTy hc hg hm hv (pa_cons ha pa_nil he) hn hdb he) fun σ H Q h => ?_
  exact fUn_ok' hop h
theorem j_callB2 {r : List V → Hp → VK → Prop} {o : AV → AV → Option AV} (hc : CallR X (.builtin id) r) (hop : Op2' X ct (fun x y H Q => r [x, y] H Q) o) (hg : Gl X x) (hm : X.mg x = none) (hv : bootBuiltins x = some (.builtin id)) (ha : JE X ct β Ex a f) (hb : JE X ct β Ex b k)
    (hn : x ≠ "__name__" := by decide +kernel) (hdb : (x == ("__debug__" : Str)) = false := by decide +kernel) (he : starEach [a, b] X.env = (false, eval a X.env) :: starEach [b] X.env := by rfl) (he2 : starEach [b] X.env = (false, eval b X.env) :: starEach [] X.env := by rfl)
    (hpl : (backTo pos (starEach [b] X.env)).any (·.1) = false := by rfl) : JE X ct β Ex (.Call (.Name x p) [a, b] [] pos) (fBin o f k) := by
  refine PE.imp (pe_callB hc hg hm hv (pa_cons ha (pa_cons hb pa_nil he2) he) hn hdb he hpl) fun σ H Q h => ?_
  exact fBin_ok' hop h
theorem RepR.scr {c0 : Gc} {g : G} {H : Hp} {ns : List Int} {v : V} (h : RepR c0 g H (.scr ns) v) : ∃ a, v = .ref a ∧ SqL c0.K H a (ns.map V.int) := by
  rcases h with h | ⟨_, _, _, e, _⟩
  · rw [RepG, Rep] at h
    obtain ⟨a, rfl, q⟩ := h
    exact ⟨a, rfl, q.sq⟩
  · cases e
def strAt (s : Str) (i : Int) : Option AV := if s.length ≤ big then (atI s.cps.toList i).map fun c => .str ⟨#[c]⟩ else none
def pIx (a b : AV) : Option AV := match b with
  | .int i => match a with
    | .tup xs => atI xs i
    | .lst xs => atI xs i
    | .str s => strAt s i
    | .scr ns => atI (ns.map AV.int) i
    | _ => none
  | _ => none
theorem atI_rep {c0 : Gc} {A D : Addr → Prop} {H : Hp} {xs : List AV} {vs : List V} {i : Int} {t : AV} (r : RepL c0 A D H xs vs) (h : atI xs i = some t) : ∃ v, atI vs i = some v ∧ Rep c0 A D H t v := by
  unfold atI at h ⊢
  rw [r.length]
  cases e : ixN xs.length i with
  | none => rw [e] at h; cases h
  | some j =>
    rw [e] at h
    exact r.get' (i := j) h
theorem o_ix : Op2 X ct (rIx X.K) pIx := by
  intro g H a b z x y Q ra rb e q
  cases b with
  | int i =>
    have hy := rb.int
    cases a with
    | tup xs =>
      obtain ⟨p, vs, rfl, h1, r⟩ := ra.tup
      obtain ⟨v, e1, r1⟩ := atI_rep r (show atI xs i = some z from e)
      exact .inr (.inl ⟨p, vs, i, v, rfl, hy, h1, e1, q v H (Same.refl H) r1⟩)
    | lst xs =>
      obtain ⟨p, vs, rfl, h1, r⟩ := ra.lst
      obtain ⟨v, e1, r1⟩ := atI_rep r (show atI xs i = some z from e)
      exact .inl ⟨p, vs, i, v, rfl, hy, h1, e1, q v H (Same.refl H) r1⟩
    | str s =>
      have hx := ra.str
      have e : strAt s i = some z := e
      unfold strAt at e
      by_cases hs : s.length ≤ big
      · rw [if_pos hs] at e
        cases e1 : atI s.cps.toList i with
        | none => rw [e1] at e; cases e
        | some c =>
          rw [e1] at e
          cases e
          exact .inr (.inr ⟨s, i, c, hx, hy, Nat.le_trans hs big_line, e1, q _ H (Same.refl H) rep_str⟩)
      · rw [if_neg hs] at e; cases e
    | scr ns =>
      obtain ⟨p, rfl, h1⟩ := ra.scr
      obtain ⟨v, e1, r1⟩ := atI_rep (RepL.ints' (c0 := gc X ct) (A := g.Av) (D := g.D) (H := H) ns) (show atI (ns.map AV.int) i = some z from e)
      exact .inl ⟨p, _, i, v, rfl, hy, h1, e1, q v H (Same.refl H) r1⟩
    | _ => cases e
  | _ => cases e
theorem j_ix (ha : JE X ct β Ex a f) (hb : JE X ct β Ex b k) (hs : PlainIx b := by exact fun _ _ => rfl) : JE X ct β Ex (.Subscript a b pos) (fBin pIx f k) :=
  PE.imp (pe_ix ix_seq ha hb hs) fun σ H Q h => fBin_ok o_ix h
def cutA (xs : List AV) (lo hi : Option Int) : List AV := (xs.drop (HT.sIx xs.length 0 lo)).take (HT.sIx xs.length xs.length hi - HT.sIx xs.length 0 lo)
def intOf : AV → Option Int
  | .int i => some i
  | _ => none
def fPart : Option Sem → Env' → T (Option Int × Env')
  | none, ρ => .ret (none, ρ)
  | some f, ρ => (f ρ).bind fun p => (lift (rs p.1 p.2)).bind fun a => (lift (intOf a)).bind fun i => .ret (some i, p.2)
def pCut (a : AV) (lo hi : Option Int) : Option AV := match a with
  | .tup xs => some (.tup (cutA xs lo hi))
  | .lst xs => some (.lst (cutA xs lo hi))
  | .scr ns => some (.lst (cutA (ns.map AV.int) lo hi))
  | _ => none
def fSl (f : Sem) (l h : Option Sem) : Sem := fun ρ => (f ρ).bind fun p => (fPart l p.2).bind fun q => (fPart h q.2).bind fun r => (lift (rs p.1 r.2)).bind fun a => (lift (pCut a q.1 r.1)).bind fun z => .ret (.val z, r.2)
def rdO (c0 : Gc) (β : BInv) (Ex : XK) (f : Env' → T (Option Int × Env')) : TO := fun σ H Q => ∃ g ρ, Rel c0 β g ρ σ H ∧ okT c0 β Ex g H (f ρ) fun g' H' p => Rel c0 β g' p.2 σ H' → Q p.1 H'
def JO (X : Cx) (ct : CT) (β : BInv) (Ex : XK) (e : Option Expr) (f : Option Sem) : Prop := PO X e (rdO (gc X ct) β Ex (fPart f))
theorem PO.imp {X : Cx} {e : Option Expr} {t t' : TO} (h : PO X e t) (i : ∀ σ H Q, t' σ H Q → t σ H Q) : PO X e t' := ⟨fun pins s σ H Q I q => h.run pins s σ H Q I (i σ H Q q)⟩
theorem intOf_eq {t : AV} {i : Int} (h : intOf t = some i) : t = .int i := by
  cases t with
  | int j => cases h; rfl
  | _ => cases h
theorem jo_none : JO X ct β Ex none none := PO.imp po_none fun σ H Q h => by
  obtain ⟨g, ρ, R, h⟩ := h
  exact okT_ret h R
theorem jo_some (ha : JE X ct β Ex a f) : JO X ct β Ex (some a) (some f) := PO.imp (po_some ha) fun σ H Q h => by
  obtain ⟨g, ρ, R, h⟩ := h
  refine ⟨g, ρ, R, okT_mono (okT_bind h) fun g1 H1 p e1 h1 x R1 rx => ?_⟩
  obtain ⟨u, eu, h2⟩ := okT_lift h1
  obtain ⟨i, ei, h3⟩ := okT_lift h2
  have := intOf_eq ei
  subst this
  exact ⟨i, (rx.rs R1 eu).int, okT_ret h3 R1⟩
theorem cut_rep {c0 : Gc} {A D : Addr → Prop} {H : Hp} {xs : List AV} {vs : List V} {lo hi : Option Int} (r : RepL c0 A D H xs vs) : RepL c0 A D H (cutA xs lo hi) (cutV vs lo hi) := by
  unfold cutA cutV
  rw [r.length]
  exact (r.drop _).take _
theorem cutA_whole {xs : List AV} {lo hi : Option Int} (h : HT.sIx xs.length 0 lo = 0 ∧ HT.sIx xs.length xs.length hi = xs.length) : cutA xs lo hi = xs := by
  unfold cutA
  rw [h.1, h.2]
  simp
theorem j_sl {l h : Option Expr} {fl fh : Option Sem} {p2 : Pos} (ha : JE X ct β Ex a f) (hl : JO X ct β Ex l fl) (hh : JO X ct β Ex h fh) : JE X ct β Ex (.Subscript a (.Slice l h none p2) pos) (fSl f fl fh) := by
  refine PE.imp (pe_slice (sl_list.or sl_tupA) ha hl hh) fun σ H Q h => ?_
  obtain ⟨g, ρ, R, h⟩ := h
  refine ⟨g, ρ, R, okT_mono (okT_bind h) fun g1 H1 p e1 h1 x R1 rx => ⟨g1, p.2, R1, okT_mono (okT_bind h1) fun g2 H2 q e2 h2 R2 => ⟨g2, q.2, R2, okT_mono (okT_bind h2) fun g3 H3 r e3 h3 R3 => ?_⟩⟩⟩
  obtain ⟨u, eu, h4⟩ := okT_lift h3
  obtain ⟨z, ez, h5⟩ := okT_lift h4
  have ru := (rx.ext (e2.trans e3)).rs R3 eu
  cases u with
  | tup xs =>
    cases ez
    have rg := rep_tupR ru
    obtain ⟨a, vs, rfl, h1, rv⟩ := ru.tup
    refine .inr ⟨a, vs, rfl, h1, fun hw => ?_, fun _ p hp => ?_⟩
    · rw [rv.length] at hw
      refine okT_ret h5 _ R3 (show RepG (gc X ct) g3 H3 (.tup (cutA xs q.1 r.1)) (.ref a) from ?_)
      rw [cutA_whole hw]
      exact rg
    · have s := same_upd (o := .tup (cutV vs q.1 r.1)) hp
      exact okT_ret' h5 (Ext.same s) _ (R3.same s) (show RepG (gc X ct) g3 _ _ _ from rep_tup_new (R3.freshAv hp) upd_same ((Ext.same s).reps (cut_rep rv)))
  | lst xs =>
    cases ez
    obtain ⟨a, vs, rfl, h1, rv⟩ := ru.lst
    refine .inl ⟨a, vs, rfl, h1, fun p hp => ?_⟩
    have s := same_upd (o := .lst (cutV vs q.1 r.1)) hp
    exact okT_ret' h5 (Ext.same s) _ (R3.same s) (show RepG (gc X ct) g3 _ _ _ from rep_lst_new (R3.freshAv hp) upd_same ((Ext.same s).reps (cut_rep rv)))
  | scr ns =>
    cases ez
    obtain ⟨a, rfl, h1⟩ := ru.scr
    refine .inl ⟨a, _, rfl, h1, fun p hp => ?_⟩
    have s := same_upd (o := .lst (cutV (ns.map V.int) q.1 r.1)) hp
    exact okT_ret' h5 (Ext.same s) _ (R3.same s) (show RepG (gc X ct) g3 _ _ _ from rep_lst_new (R3.freshAv hp) upd_same ((Ext.same s).reps (cut_rep (RepL.ints' ns))))
  | _ => cases ez
def pFld (c i : Nat) (a : AV) : Option AV := match a with
  | .ins c' xs => if c' = c then xs[i]? else none
  | _ => none
structure FldOk (X : Cx) (ct : CT) (c i : Nat) (f : Str) : Prop where
  at_ : (ct c).2[i]? = some f
  nd : (ct c).2.Nodup
  cls : ∀ C, X.mg (ct c).1 = some (.ref C) → Cls X.K C ∧ NoAttr X.K C f
end
def intsOf : List AV → Option (List Int)
  | [] => some []
  | .int i :: xs => (intsOf xs).map fun r => i :: r
  | _ :: _ => none
def bsOf : List AV → Option (List Bool)
  | [] => some []
  | .bl i :: xs => (bsOf xs).map fun r => i :: r
  | _ :: _ => none
theorem intsOf_eq : ∀ {xs : List AV} {ns : List Int}, intsOf xs = some ns → xs = ns.map AV.int
  | [], ns, h => by cases h; rfl
  | .int i :: xs, ns, h => by
    unfold intsOf at h
    cases e : intsOf xs with
    | none => rw [e] at h; cases h
    | some r => rw [e] at h; cases h; rw [intsOf_eq e]; rfl
  | .non :: _, _, h => by cases h
  | .bl _ :: _, _, h => by cases h
  | .str _ :: _, _, h => by cases h
  | .tup _ :: _, _, h => by cases h
  | .lst _ :: _, _, h => by cases h
  | .ins _ _ :: _, _, h => by cases h
  | .box :: _, _, h => by cases h
  | .scr _ :: _, _, h => by cases h
  | .dic _ _ :: _, _, h => by cases h
  | .any :: _, _, h => by cases h
theorem intsOf_map (ns : List Int) : intsOf (ns.map AV.int) = some ns := by
  induction ns with
  | nil => rfl
  | cons n ns ih =>
    show (intsOf (ns.map AV.int)).map _ = _
    rw [ih]
    rfl
theorem bsOf_eq : ∀ {xs : List AV} {ns : List Bool}, bsOf xs = some ns → xs = ns.map AV.bl
  | [], ns, h => by cases h; rfl
  | .bl i :: xs, ns, h => by
    unfold bsOf at h
    cases e : bsOf xs with
    | none => rw [e] at h; cases h
    | some r => rw [e] at h; cases h; rw [bsOf_eq e]; rfl
  | .non :: _, _, h => by cases h
  | .int _ :: _, _, h => by cases h
  | .str _ :: _, _, h => by cases h
  | .tup _ :: _, _, h => by cases h
  | .lst _ :: _, _, h => by cases h
  | .ins _ _ :: _, _, h => by cases h
  | .box :: _, _, h => by cases h
  | .scr _ :: _, _, h => by cases h
  | .dic _ _ :: _, _, h => by cases h
  | .any :: _, _, h => by cases h
theorem bsOf_map (ns : List Bool) : bsOf (ns.map AV.bl) = some ns := by
  induction ns with
  | nil => rfl
  | cons n ns ih =>
    show (bsOf (ns.map AV.bl)).map _ = _
    rw [ih]
    rfl
theorem reps_ints {c0 : Gc} {A D : Addr → Prop} {H : Hp} {ns : List Int} {vs : List V} (r : RepL c0 A D H (ns.map AV.int) vs) : vs = ns.map V.int := r.ints
theorem reps_bls {c0 : Gc} {A D : Addr → Prop} {H : Hp} : ∀ {bs : List Bool} {vs : List V}, RepL c0 A D H (bs.map AV.bl) vs → vs = bs.map V.bl
  | [], _, h => by simpa [RepL] using h
  | n :: ns, vs, h => by
    rw [List.map_cons, RepL] at h
    obtain ⟨v, r, e, h1, h2⟩ := h
    rw [Rep] at h1
    rw [e, h1, reps_bls h2]
    rfl
def pLen (a : AV) : Option AV := match a with
  | .tup xs => some (.int xs.length)
  | .lst xs => some (.int xs.length)
  | .scr xs => some (.int xs.length)
  | .str s => if s.length ≤ big then some (.int s.length) else none
  | _ => none
def pInt (a : AV) : Option AV := match a with
  | .int i => some (.int i)
  | .bl b => some (.int (if b then 1 else 0))
  | _ => none
def pAbs (a : AV) : Option AV := match a with
  | .int i => some (.int (if i < 0 then -i else i))
  | _ => none
def pStr (a : AV) : Option AV := match a with
  | .int i => if i.natAbs.log2 < 1920 then some (.str (toString i)) else none
  | _ => none
def pList (a : AV) : Option AV := match a with
  | .tup xs => some (.lst xs)
  | .lst xs => some (.lst xs)
  | _ => none
def pTuple (a : AV) : Option AV := match a with
  | .tup xs => some (.tup xs)
  | .lst xs => some (.tup xs)
  | _ => none
def pAll (a : AV) : Option AV := match a with
  | .lst xs => (bsOf xs).map fun bs => .bl (bs.all id)
  | _ => none
def pAny (a : AV) : Option AV := match a with
  | .lst xs => (bsOf xs).map fun bs => .bl (bs.any id)
  | _ => none
def pSum (a : AV) : Option AV := match a with
  | .lst xs => (intsOf xs).map fun bs => .int bs.sum
  | _ => none
def pMax2 (a b : AV) : Option AV := match a, b with
  | .int i, .int j => some (.int (if j > i then j else i))
  | _, _ => none
def pMin2 (a b : AV) : Option AV := match a, b with
  | .int i, .int j => some (.int (if j < i then j else i))
  | _, _ => none
def pDivmod (a b : AV) : Option AV := match a, b with
  | .int i, .int j => if 0 < j ∧ below j 29 = true then some (.tup [.int (i / j), .int (i % j)]) else none
  | _, _ => none
section
variable {X : Cx} {ct : CT} {β : BInv} {Ex : XK}
theorem o_len : Op1' X ct (fun x H Q => ∃ y n, [x] = [y] ∧ LenV X.K y H n ∧ Q (.int n) H) pLen := by
  intro g H a z x Q live ra e q
  cases a with
  | tup xs =>
    cases e
    obtain ⟨p, vs, rfl, h1, r⟩ := ra.tup
    exact ⟨_, _, rfl, .inr ⟨vs, h1, r.length.symm⟩, q _ H (Same.refl H) rep_int⟩
  | lst xs =>
    cases e
    obtain ⟨p, vs, rfl, h1, r⟩ := ra.lst
    exact ⟨_, _, rfl, .inl ⟨vs, h1, r.length.symm⟩, q _ H (Same.refl H) rep_int⟩
  | scr xs =>
    cases e
    obtain ⟨p, rfl, h1⟩ := ra.scr
    exact ⟨_, _, rfl, .inl ⟨_, h1, (List.length_map _).symm⟩, q _ H (Same.refl H) rep_int⟩
  | str s =>
    obtain ⟨h, rfl⟩ := ifp_some e
    have hx := ra.str
    subst hx
    exact ⟨_, _, rfl, ⟨Nat.le_trans h big_line, rfl⟩, q _ H (Same.refl H) rep_int⟩
  | _ => cases e
theorem o_tuple : Op1' X ct (fun x H Q => ∃ p ys, [x] = [V.ref p] ∧ ((SqL X.K H p ys ∧ ∀ l, H l = none → Q (.ref l) (upd H l (.tup ys))) ∨ (SqT X.K H p ys ∧ Q (.ref p) H))) pTuple := by
  intro g H a z x Q live ra e q
  cases a with
  | tup xs =>
    cases e
    have rg := rep_tupR ra
    obtain ⟨p, vs, rfl, h1, r⟩ := ra.tup
    exact ⟨p, vs, rfl, .inr ⟨h1, q _ H (Same.refl H) rg⟩⟩
  | lst xs =>
    cases e
    obtain ⟨p, vs, rfl, h1, r⟩ := ra.lst
    refine ⟨p, vs, rfl, .inl ⟨h1, fun l hl => ?_⟩⟩
    have s := same_upd (o := .tup vs) hl
    exact q _ _ s (rep_tup_new (fun z => live l z hl) upd_same ((Ext.same s).reps r))
  | _ => cases e
theorem map_some {α : Type} {o : Option α} {f : α → AV} {z : AV} (h : o.map f = some z) : ∃ a, o = some a ∧ z = f a := by
  cases o with
  | none => cases h
  | some a => cases h; exact ⟨a, rfl, rfl⟩
theorem o_all : Op1' X ct (fun x H Q => rAll X.K [x] H Q) pAll := by
  intro g H a z x Q live ra e q
  cases a with
  | lst xs =>
    obtain ⟨bs, e1, rfl⟩ := map_some e
    rw [bsOf_eq e1] at ra
    obtain ⟨p, vs, rfl, h1, r⟩ := ra.lst
    rw [reps_bls r] at h1
    exact ⟨p, bs, rfl, h1, q _ H (Same.refl H) rep_bl⟩
  | _ => cases e
theorem o_max2 : Op2' X ct (fun x y H Q => ∃ i j, [x, y] = [V.int i, .int j] ∧ Q (.int (if j > i then j else i)) H) pMax2 := by
  intro g H a b z x y Q live ra rb e q
  cases a <;> cases b <;> first | (simp [pMax2] at e; done) | skip
  cases e
  exact ⟨_, _, by rw [ra.int, rb.int], q _ H (Same.refl H) rep_int⟩
theorem o_min2 : Op2' X ct (fun x y H Q => ∃ i j, [x, y] = [V.int i, .int j] ∧ Q (.int (if j < i then j else i)) H) pMin2 := by
  intro g H a b z x y Q live ra rb e q
  cases a <;> cases b <;> first | (simp [pMin2] at e; done) | skip
  cases e
  exact ⟨_, _, by rw [ra.int, rb.int], q _ H (Same.refl H) rep_int⟩
end
end Dn
set_option Elab.async false
set_option linter.all false
set_option maxRecDepth 100000
namespace Dn
open PySem PySem.Spec PyProof.Rows L2
def spM (c0 : Gc) (β : BInv) (n : Nat) (fn : List AV → T AV) : Sp := fun vs H Q E => ∃ (g : G) (ts : List AV), (∀ i, g.own i = none) ∧ (∀ a, g.M a → H a ≠ none ∧ ∀ ws, H a ≠ some (.tup ws)) ∧ (∀ a, g.M a → ¬ g.B a) ∧ β.I g.B g.D H ∧ RepsG c0 g H ts vs ∧ ts.length = n ∧
  okT c0 β E g H (fn ts) fun g' H' t => ∀ v, β.I g'.B g'.D H' → RepG c0 g' H' t v → Q v H'
def G.down (g : G) : G := { g with M := fun a => g.M a ∨ ∃ i, g.own i = some a, own := fun _ => none }
theorem down_av {g : G} {a : Addr} : g.down.Av a ↔ g.Av a := by
  unfold G.Av G.down
  constructor
  · rintro ((h | h) | ⟨i, h⟩ | h)
    · exact .inl h
    · exact .inr (.inl h)
    · cases h
    · exact .inr (.inr h)
  · rintro (h | h | h)
    · exact .inl (.inl h)
    · exact .inl (.inr h)
    · exact .inr (.inr h)
def G.up (g g1 : G) : G := { g with B := g1.B, D := g1.D }
section
variable {c0 : Gc} {β : BInv} {Ex : XK} {g g1 : G} {H H1 : Hp} {ρ : Env'} {σ : L2.St}
theorem down_ext (R : Rel c0 β g ρ σ H) (e : Ext g.down g1 H H1) : Ext g (g.up g1) H H1 where
  keep := fun a o h hn hb => e.keep a o h (fun i z => by cases z) hb
  live := e.live
  m := rfl
  bsub := e.bsub
  bnew := e.bnew
  dsub := e.dsub
  own := fun i a h => .inl ⟨i, h⟩
  s := rfl
theorem down_rep (e : Ext g.down g1 H H1) {t : AV} {v : V} (h : RepG c0 g1 H1 t v) : RepG c0 (g.up g1) H1 t v := h.imp (fun a o q na => ⟨q, fun z => na (by
  rcases z with z | ⟨i, z⟩ | z
  · exact .inl (by rw [e.m]; exact .inl z)
  · exact .inl (by rw [e.m]; exact .inr ⟨i, z⟩)
  · exact .inr (.inr z))⟩) fun _ h => h
theorem down_reps (e : Ext g.down g1 H H1) {t : List AV} {v : List V} (h : RepsG c0 g1 H1 t v) : RepsG c0 (g.up g1) H1 t v := h.imp (fun a o q na => ⟨q, fun z => na (by
  rcases z with z | ⟨i, z⟩ | z
  · exact .inl (by rw [e.m]; exact .inl z)
  · exact .inl (by rw [e.m]; exact .inr ⟨i, z⟩)
  · exact .inr (.inr z))⟩) fun _ h => h
theorem reps_down {t : List AV} {v : List V} (h : RepsG c0 g H t v) : RepsG c0 g.down H t v := h.imp (fun a o q na => ⟨q, fun z => na (down_av.mp z)⟩) fun _ h => h
theorem down_rel (R : Rel c0 β g ρ σ H) (e : Ext g.down g1 H H1) (hb : β.I g1.B g1.D H1) : Rel c0 β (g.up g1) ρ σ H1 :=
  R.step (down_ext R e) rfl (fun i a o h1 h2 => e.keep a o h2 (fun i z => by cases z) (R.sep i a h1).2) hb
theorem sp_call {n : Nat} {fn : List AV → T AV} {ts : List AV} {vs : List V} {Q : VK} (R : Rel c0 β g ρ σ H) (r : RepsG c0 g H ts vs) (hn : ts.length = n)
    (h : okT c0 β Ex g H (fn ts) fun g' H' t => ∀ v, Rel c0 β g' ρ σ H' → RepG c0 g' H' t v → Q v H') : spM c0 β n fn vs H Q Ex := by
  refine ⟨g.down, ts, fun _ => rfl, fun a h => ?_, fun a h => ?_, R.box, reps_down r, hn, ?_⟩
  · have h : g.Av a := h.elim .inl fun h => .inr (.inl h)
    exact ⟨R.avLive h, R.avNt h⟩
  · rcases h with h | ⟨i, h⟩
    · exact R.mb a h
    · exact (R.sep i a h).2
  · refine T.all_mono h (fun t q g1 H1 e v hb rv => q _ _ (down_ext R e) v (down_rel R e hb) (down_rep e rv)) fun c xs q g1 H1 C d ws e hb hm hd hl rv => ?_
    exact q _ _ C d ws (down_ext R e) hb hm hd hl (down_reps e rv)
end
def Deft (c0 : Gc) (ts : List AV) (vs : List V) : Prop := ∀ g H, RepsG c0 g H ts vs
def fCall (fn : List AV → T AV) (dts : List AV) (k : SemL) : Sem := fun ρ => (k ρ).bind fun p => (fn (p.1 ++ dts)).bind fun t => .ret (.val t, p.2)
section
variable {X : Cx} {ct : CT} {β : BInv} {Ex : XK} {a b e : Expr} {es : List Expr} {f k : Sem} {m : SemL} {pos p apos : Pos} {x : Str} {lv n : Nat} {fa C : Addr} {fd : FuncData} {ps : List Str} {fn : List AV → T AV} {ds : List Value} {dvs : List V} {dts : List AV}
theorem fCall_ok {σ : L2.St} {H : Hp} {Q : VK} (hd : Deft (gc X ct) dts dvs) (hn : ∀ ts : List AV, T.all (fun _ => True) (fun _ _ => True) (fn ts) → ts.length = n) (h : rdE (gc X ct) β Ex (fCall fn dts m) σ H Q) :
    rdL (gc X ct) β Ex m σ H fun vs H1 => spM (gc X ct) β n fn (vs ++ dvs) H1 Q Ex := by
  obtain ⟨g, ρ, R, h⟩ := h
  refine ⟨g, ρ, R, okT_mono (okT_bind h) fun g1 H1 q e1 h1 vs R1 rv => ?_⟩
  have h2 := okT_bind h1
  refine sp_call R1 (rv.append (hd g1 H1)) (hn _ (T.all_mono h2 (fun _ _ => trivial) fun _ _ _ => trivial)) (okT_mono h2 fun g' H' t e' q v R' rt => okT_ret q v R' rt)
theorem j_call (F : FnOk X.prog X.w X.K X.mg X.base (L2.CX X.prog X.w) lv fa fd ps (spM (gc X ct) β n fn)) (hn : ∀ ts : List AV, T.all (fun _ => True) (fun _ _ => True) (fn ts) → ts.length = n) (hr : Room lv X.A) (hm : X.mg x = some (.ref fa)) (hk : PySem.W.keepIn X.K (.ref fa) = true)
    (hb : Binds X.K fd ps ds) (hd : Vals dvs ds) (hdt : Deft (gc X ct) dts dvs) (hx : Passes (L2.CX X.prog X.w) X Ex) (ha : JL X ct β Ex (e :: es) m) (hg : Gl X x := by rfl) (hdb : (x == ("__debug__" : Str)) = false := by decide +kernel)
    (he : starEach (e :: es) X.env = (false, eval e X.env) :: starEach es X.env := by rfl) (hpl : (backTo pos (starEach es X.env)).any (·.1) = false := by rfl) : JE X ct β Ex (.Call (.Name x p) (e :: es) [] pos) (fCall fn dts m) :=
  PE.imp (pe_call F hr hg hm hk hb hd hx ha hdb he hpl) fun σ H Q h => fCall_ok hdt hn h
def fMeth (c : Nat) (fn : List AV → T AV) (dts : List AV) (f : Sem) (k : SemL) : Sem := fun ρ => (f ρ).bind fun q => (frz q).bind fun s => match s.1 with
  | .ins c' xs => if c' = c then (k s.2).bind fun p => (fn (.ins c' xs :: (p.1 ++ dts))).bind fun t => .ret (.val t, p.2) else .bad
  | _ => .bad
structure MethOk (X : Cx) (ct : CT) (c : Nat) (m : Str) (fa : Addr) : Prop where
  cls : ∀ C, X.mg (ct c).1 = some (.ref C) → Cls X.K C ∧ Meth X.K C m fa
  no : m ∉ (ct c).2
end
inductive Out where
  | nx (ρ : Env') | rt (t : AV) | bk (ρ : Env') | ct (ρ : Env')
abbrev SSem := Env' → T Out
def endOk (c0 : Gc) (β : BInv) (D : Ends) (g : G) (H : Hp) : Out → Prop
  | .nx ρ => ∀ σ, Rel c0 β g ρ σ H → D.nx σ H
  | .rt t => ∀ v, β.I g.B g.D H → RepG c0 g H t v → D.rt v H
  | .bk ρ => ∀ σ, Rel c0 β g ρ σ H → D.bk σ H
  | .ct ρ => ∀ σ, Rel c0 β g ρ σ H → D.ct σ H
def rdS (c0 : Gc) (β : BInv) (Ex : XK) (f : SSem) : TS := fun D σ H => ∃ g ρ, Rel c0 β g ρ σ H ∧ okT c0 β Ex g H (f ρ) (endOk c0 β D)
def JS (X : Cx) (ct : CT) (β : BInv) (Ex : XK) (st : Stmt) (f : SSem) : Prop := PS X st (rdS (gc X ct) β Ex f)
def JSs (X : Cx) (ct : CT) (β : BInv) (Ex : XK) (st : List Stmt) (f : SSem) : Prop := PSs X st (rdS (gc X ct) β Ex f)
theorem PS.imp {X : Cx} {st : Stmt} {t t' : TS} (h : PS X st t) (i : ∀ D σ H, t' D σ H → t D σ H) : PS X st t' := ⟨fun pins s σ H D I q => h.run pins s σ H D I (i D σ H q)⟩
theorem PSs.imp {X : Cx} {st : List Stmt} {t t' : TS} (h : PSs X st t) (i : ∀ D σ H, t' D σ H → t D σ H) : PSs X st t' := ⟨fun pins s σ H D I q => h.run pins s σ H D I (i D σ H q)⟩
def sSeq (f k : SSem) : SSem := fun ρ => (f ρ).bind fun
  | .nx ρ' => k ρ'
  | o => .ret o
def sNil : SSem := fun ρ => .ret (.nx ρ)
def sExpr (f : Sem) : SSem := fun ρ => (f ρ).bind fun p => .ret (.nx p.2)
def sRet (f : Sem) : SSem := fun ρ => (f ρ).bind fun p => (frz p).bind fun q => .ret (.rt q.1)
def sRetN : SSem := fun _ => .ret (.rt .non)
def sBreak : SSem := fun ρ => .ret (.bk ρ)
def sCont : SSem := fun ρ => .ret (.ct ρ)
def sIf (t : SemB) (f k : SSem) : SSem := fun ρ => (t ρ).bind fun p => if p.1 then f p.2 else k p.2
def sSet (i : Nat) (f : Sem) : SSem := fun ρ => (f ρ).bind fun p => (frz p).bind fun q => .ret (.nx (q.2.set i (.fro q.1)))
section
variable {X : Cx} {ct : CT} {β : BInv} {Ex : XK} {a b e : Expr} {st : Stmt} {sts sts' : List Stmt} {f : Sem} {fb : SemB} {s s' : SSem} {pos p : Pos} {x : Str} {i : Nat}
theorem js_nil : JSs X ct β Ex [] sNil := PSs.imp pss_nil fun D σ H h => by
  obtain ⟨g, ρ, R, h⟩ := h
  exact okT_ret h σ R
theorem js_cons (h1 : JS X ct β Ex st s) (h2 : JSs X ct β Ex sts s') : JSs X ct β Ex (st :: sts) (sSeq s s') := by
  refine PSs.imp (pss_cons h1 h2) fun D σ H h => ?_
  obtain ⟨g, ρ, R, h⟩ := h
  refine ⟨g, ρ, R, okT_mono (okT_bind h) fun g' H' o e q => ?_⟩
  cases o with
  | nx ρ' => exact fun σ' R' => ⟨g', ρ', R', q⟩
  | rt t => exact (okT_ret (c0 := gc X ct) (β := β) (Ex := Ex) (Q := endOk (gc X ct) β D) q : endOk (gc X ct) β D g' H' (.rt t))
  | bk ρ' => exact (okT_ret (c0 := gc X ct) (β := β) (Ex := Ex) (Q := endOk (gc X ct) β D) q : endOk (gc X ct) β D g' H' (.bk ρ'))
  | ct ρ' => exact (okT_ret (c0 := gc X ct) (β := β) (Ex := Ex) (Q := endOk (gc X ct) β D) q : endOk (gc X ct) β D g' H' (.ct ρ'))
theorem js_expr (ha : JE X ct β Ex a f) (hs : swapsWith a none pos.line X.env = pure false := by rfl) : JS X ct β Ex (.Expr a pos) (sExpr f) := by
  refine PS.imp (ps_expr ha hs) fun D σ H h => ?_
  obtain ⟨g, ρ, R, h⟩ := h
  exact ⟨g, ρ, R, okT_mono (okT_bind h) fun g' H' p e q v R' rv => okT_ret q σ R'⟩
theorem js_ret (ha : JE X ct β Ex a f) : JS X ct β Ex (.Return (some a) pos) (sRet f) := by
  refine PS.imp (ps_ret ha) fun D σ H h => ?_
  obtain ⟨g, ρ, R, h⟩ := h
  refine ⟨g, ρ, R, okT_mono (okT_bind h) fun g' H' p e q v R' rv => ?_⟩
  obtain ⟨g2, s, e2, R2, rs, h2⟩ := frz_ok R' rv q
  exact okT_ret h2 v R2.box rs
theorem js_if (hc : JT X ct β Ex a fb) (h1 : JSs X ct β Ex sts s) (h2 : JSs X ct β Ex sts' s') : JS X ct β Ex (.If a sts sts' pos) (sIf fb s s') := by
  refine PS.imp (ps_if hc h1 h2) fun D σ H h => ?_
  obtain ⟨g, ρ, R, h⟩ := h
  refine ⟨g, ρ, R, okT_mono (okT_bind h) fun g1 H1 p e1 h1 R1 => ?_⟩
  by_cases hp : p.1 = true
  · rw [if_pos hp] at h1 ⊢
    exact ⟨g1, p.2, R1, h1⟩
  · rw [if_neg hp] at h1 ⊢
    exact ⟨g1, p.2, R1, h1⟩
theorem Rel.setFro {c0 : Gc} {g : G} {ρ : Env'} {σ : L2.St} {H : Hp} {j : Nat} {t : AV} {v : V} (R : Rel c0 β g ρ σ H) (r : RepG c0 g H t v) (hj : j < ρ.length) : Rel c0 β (g.no j) (ρ.set j (.fro t)) (σ.set j (some v)) H := by
  refine R.put (ext_no g j H) (List.length_set ..) (fun i hi => List.getElem?_set_ne (Ne.symm hi)) hj (fun i hi => own_no_ne hi) (fun _ _ _ _ _ h => h) R.box ?_ fun a h => by rw [own_no] at h; cases h
  rw [own_no]
  exact ⟨rfl, v, by rw [List.getElem?_set_self (by rw [R.len]; exact hj)], (ext_no g j H).rep r⟩
theorem set_ge {ρ : Env'} {j : Nat} {s : Slot} (h : ¬ j < ρ.length) : ρ.set j s = ρ := List.set_eq_of_length_le (by omega)
theorem js_set (i : Nat) (ha : JE X ct β Ex a f) (hN : X.N.Nodup) (hi : X.N[i]? = some x := by rfl) (hx : Loc X.env.scope x := by first | exact Or.inl rfl | exact Or.inr rfl) (hs : swapsWith a (some (.Name x p)) pos.line X.env = pure false := by rfl)
    (hf : X.fn x = true ∨ X.env.scope.names.lookup x = some .local := by first | exact .inl rfl | exact .inr rfl) : JS X ct β Ex (.Assign [.Name x p] a pos) (sSet i f) := by
  refine PS.imp (ps_set hN hi hx ha hs hf) fun D σ H h => ?_
  obtain ⟨g, ρ, R, h⟩ := h
  refine ⟨g, ρ, R, okT_mono (okT_bind h) fun g' H' p e q v R' rv => ?_⟩
  obtain ⟨g2, s, e2, R2, rs, h2⟩ := frz_ok R' rv q
  show D.nx (σ.set i (some v)) H'
  by_cases hj : i < s.2.length
  · exact okT_ret' h2 (ext_no g2 i H') _ (R2.setFro rs hj)
  · have e := okT_ret h2
    rw [set_ge hj] at e
    have : σ.set i (some v) = σ := List.set_eq_of_length_le (by rw [R2.len]; omega)
    rw [this]
    exact e σ R2
end
abbrev GSem := AV → Env' → T Env'
def Agree (is : List Nat) (σ σ' : L2.St) : Prop := σ'.length = σ.length ∧ ∀ i, i ∉ is → σ'[i]? = σ[i]?
theorem Agree.refl {is : List Nat} {σ : L2.St} : Agree is σ σ := ⟨rfl, fun _ _ => rfl⟩
theorem Agree.trans {is js : List Nat} {σ σ1 σ2 : L2.St} (a : Agree is σ σ1) (b : Agree js σ1 σ2) : Agree (is ++ js) σ σ2 :=
  ⟨b.1.trans a.1, fun i h => (b.2 i fun z => h (List.mem_append_right _ z)).trans (a.2 i fun z => h (List.mem_append_left _ z))⟩
def rdG (c0 : Gc) (β : BInv) (Ex : XK) (is : List Nat) (f : GSem) : TG := fun v σ H Q => ∃ g ρ t, Rel c0 β g ρ σ H ∧ RepG c0 g H t v ∧ okT c0 β Ex g H (f t ρ) fun g' H' ρ' => ∀ σ', Agree is σ σ' → Rel c0 β g' ρ' σ' H' → Q σ' H'
def rdGs (c0 : Gc) (β : BInv) (Ex : XK) (is : List Nat) (f : List AV → Env' → T Env') : TGs := fun vs σ H Q => ∃ g ρ ts, Rel c0 β g ρ σ H ∧ RepsG c0 g H ts vs ∧ okT c0 β Ex g H (f ts ρ) fun g' H' ρ' => ∀ σ', Agree is σ σ' → Rel c0 β g' ρ' σ' H' → Q σ' H'
def JG (X : Cx) (ct : CT) (β : BInv) (Ex : XK) (e : Expr) (is : List Nat) (f : GSem) : Prop := PG X e (rdG (gc X ct) β Ex is f)
def JGs (X : Cx) (ct : CT) (β : BInv) (Ex : XK) (e : List Expr) (is : List Nat) (f : List AV → Env' → T Env') : Prop := PGs X e (rdGs (gc X ct) β Ex is f)
theorem PG.imp {X : Cx} {e : Expr} {t t' : TG} (h : PG X e t) (i : ∀ v σ H Q, t' v σ H Q → t v σ H Q) : PG X e t' := ⟨fun pins s σ H v u Q I r q => h.run pins s σ H v u Q I r (i v σ H Q q)⟩
theorem PGs.imp {X : Cx} {e : List Expr} {t t' : TGs} (h : PGs X e t) (i : ∀ v σ H Q, t' v σ H Q → t v σ H Q) : PGs X e t' := ⟨fun pins s σ H v u Q I r q => h.run pins s σ H v u Q I r (i v σ H Q q)⟩
def tgName (i : Nat) : GSem := fun t ρ => .ret (ρ.set i (.fro t))
def tgNil : List AV → Env' → T Env' := fun ts ρ => match ts with
  | [] => .ret ρ
  | _ => .bad
def tgCons (f : GSem) (k : List AV → Env' → T Env') : List AV → Env' → T Env' := fun ts ρ => match ts with
  | t :: r => (f t ρ).bind fun ρ' => k r ρ'
  | [] => .bad
def tgTup (n : Nat) (k : List AV → Env' → T Env') : GSem := fun t ρ => match t with
  | .tup xs => if xs.length = n then k xs ρ else .bad
  | _ => .bad
def sAsg (f : Sem) (k : GSem) : SSem := fun ρ => (f ρ).bind fun p => (frz p).bind fun q => (k q.1 q.2).bind fun ρ' => .ret (.nx ρ')
section
variable {X : Cx} {ct : CT} {β : BInv} {Ex : XK} {a tg : Expr} {es : List Expr} {is js : List Nat} {f : Sem} {k : GSem} {ks : List AV → Env' → T Env'} {pos p : Pos} {x : Str} {n kk : Nat}
theorem jg_name (i : Nat) (hN : X.N.Nodup) (hi : X.N[i]? = some x := by rfl) (hx : Loc X.env.scope x := by first | exact Or.inl rfl | exact Or.inr rfl)
    (hf : X.fn x = true ∨ X.env.scope.names.lookup x = some .local := by first | exact .inl rfl | exact .inr rfl) : JG X ct β Ex (.Name x p) [i] (tgName i) := by
  refine PG.imp (pg_name hN hi hx hf) fun v σ H Q h => ?_
  obtain ⟨g, ρ, t, R, r, h⟩ := h
  show Q (σ.set i (some v)) H
  have ag : Agree [i] σ (σ.set i (some v)) := ⟨List.length_set .., fun j hj => List.getElem?_set_ne (fun e => hj (by simp [e]))⟩
  by_cases hj : i < ρ.length
  · exact okT_ret' h (ext_no g i H) _ ag (R.setFro r hj)
  · have e := okT_ret h
    rw [set_ge hj] at e
    have e2 : σ.set i (some v) = σ := List.set_eq_of_length_le (by rw [R.len]; omega)
    rw [e2] at ag ⊢
    exact e σ ag R
theorem jg_nil : JGs X ct β Ex [] [] tgNil := PGs.imp pgs_nil fun vs σ H Q h => by
  obtain ⟨g, ρ, ts, R, r, h⟩ := h
  cases ts with
  | nil => rw [RepsG, RepL] at r; exact ⟨r, okT_ret h σ Agree.refl R⟩
  | cons _ _ => exact (show False from h).elim
theorem jg_cons (h1 : JG X ct β Ex tg is k) (h2 : JGs X ct β Ex es js ks) (hs : (assignEach (tg :: es) X.env).map (·.2) = assign tg X.env :: (assignEach es X.env).map (·.2) := by rfl) : JGs X ct β Ex (tg :: es) (is ++ js) (tgCons k ks) := by
  refine PGs.imp (pgs_cons h1 h2 hs) fun vs σ H Q h => ?_
  obtain ⟨g, ρ, ts, R, r, h⟩ := h
  cases ts with
  | nil => exact (show False from h).elim
  | cons t ts =>
    rw [RepsG, RepL] at r
    obtain ⟨v, r', rfl, h1, h2⟩ := r
    exact ⟨v, r', rfl, g, ρ, t, R, h1, okT_mono (okT_bind h) fun g' H' ρ' e q σ' a1 R' => ⟨g', ρ', ts, R', e.reps h2, okT_mono q fun g2 H2 ρ2 e2 q2 σ2 a2 R2 => q2 σ2 (a1.trans a2) R2⟩⟩
theorem jg_tup (hc : X.calm = true) (h : JGs X ct β Ex es is ks) (hn : (assignEach es X.env).length = n := by rfl) (hst : (assignEach es X.env).findIdx? (·.1) = none := by rfl) : JG X ct β Ex (.Tuple es kk pos) is (tgTup n ks) := by
  refine PG.imp (pg_tup hc h hn hst) fun v σ H Q h => ?_
  obtain ⟨g, ρ, t, R, r, h⟩ := h
  cases t with
  | tup xs =>
    rw [RepG, Rep] at r
    obtain ⟨a, vs, rfl, q, r⟩ := r
    have h' : okT (gc X ct) β Ex g H (if xs.length = n then ks xs ρ else .bad) _ := h
    by_cases hl : xs.length = n
    · rw [if_pos hl] at h'
      exact ⟨a, vs, rfl, q.sq, r.length.trans hl, g, ρ, xs, R, r, h'⟩
    · rw [if_neg hl] at h'
      exact (show False from h').elim
  | _ => exact (show False from h).elim
theorem js_asg (ha : JE X ct β Ex a f) (hg : JG X ct β Ex tg is k) (hs : swapsWithSole [tg] a pos.line X.env = pure false := by rfl) (hw : swappedStores [tg] a X.env = pure none := by rfl)
    (h1 : (assignEach [tg] X.env).map (·.2) = [assign tg X.env] := by rfl) : JS X ct β Ex (.Assign [tg] a pos) (sAsg f k) := by
  refine PS.imp (ps_asg ha hg hs hw h1) fun D σ H h => ?_
  obtain ⟨g, ρ, R, h⟩ := h
  refine ⟨g, ρ, R, okT_mono (okT_bind h) fun g' H' p e q v R' rv => ?_⟩
  obtain ⟨g2, s, e2, R2, rs, h2⟩ := frz_ok R' rv q
  exact ⟨g2, s.2, s.1, R2, rs, okT_mono (okT_bind h2) fun g3 H3 ρ' e3 q3 σ' _ R3 => okT_ret q3 σ' R3⟩
end
def outV : Out → T AV
  | .rt t => .ret t
  | .nx _ => .ret .non
  | _ => .bad
def fnOf (np n : Nat) (body : SSem) : List AV → T AV := fun ts => if ts.length = np then (body (ts.map Slot.fro ++ List.replicate (n - np) .un)).bind outV else .bad
theorem fnOf_len {np n : Nat} {body : SSem} (ts : List AV) (h : T.all (fun _ => True) (fun _ _ => True) (fnOf np n body ts)) : ts.length = np := by
  unfold fnOf at h
  by_cases hl : ts.length = np
  · exact hl
  · rw [if_neg hl] at h; exact h.elim
section
variable {P : Program} {w : World} {K : PySem.W.Frag} {mg : Str → Option Value} {base : Heap} {ct : CT} {β : BInv}
theorem passB {N : List Str} {qual : Str} {scope : Scope} {f : Addr} {cd : Value} {A : Around} {outer : List Env} {s : Shared} {H : Hp} {E : XK} : Passes (L2.CX P w) (cxOf (L2.CX P w) P w K mg base N qual scope f cd A outer s H E) E :=
  passes_call (X := cxOf (L2.CX P w) P w K mg base N qual scope f cd A outer s H E) (takes_of rfl rfl rfl rfl) fun _ _ _ _ h => h
theorem passOwnB {N : List Str} {qual : Str} {scope : Scope} {f : Addr} {cd : Value} {A : Around} {outer : List Env} {s : Shared} {H : Hp} {E : XK} :
    PassesOwn (model P w) (cxOf (L2.CX P w) P w K mg base N qual scope f cd A outer s H E).A (cxOf (L2.CX P w) P w K mg base N qual scope f cd A outer s H E).env (cxOf (L2.CX P w) P w K mg base N qual scope f cd A outer s H E).xe :=
  passes_of (X := cxOf (L2.CX P w) P w K mg base N qual scope f cd A outer s H E) rfl
theorem rel_start {c0 : Gc} {g : G} {H : Hp} {ts : List AV} {vs : List V} {N : List Str} {np : Nat} (ho : ∀ i, g.own i = none) (hm : ∀ a, g.M a → H a ≠ none ∧ ∀ ws, H a ≠ some (.tup ws)) (hmb : ∀ a, g.M a → ¬ g.B a) (hb : β.I g.B g.D H) (r : RepsG c0 g H ts vs) (hl : ts.length = np) (hN : np ≤ N.length) :
    Rel c0 β g (ts.map Slot.fro ++ List.replicate (N.length - np) .un) (L2.start N vs) H where
  len := by
    unfold L2.start
    rw [List.length_append, List.length_append, List.length_map, List.length_map, List.length_replicate, List.length_replicate, r.length, hl]
  sl := fun i s hi => by
    rw [ho i]
    by_cases h : i < ts.length
    · rw [List.getElem?_append_left (by rw [List.length_map]; exact h), List.getElem?_map] at hi
      cases e : ts[i]? with
      | none => rw [e] at hi; cases hi
      | some t =>
        rw [e] at hi
        cases hi
        obtain ⟨v, ev, rv⟩ := r.get' e
        refine ⟨rfl, v, ?_, rv⟩
        unfold L2.start
        rw [List.getElem?_append_left (by rw [List.length_map, r.length]; exact h), List.getElem?_map, ev]
        rfl
    · rw [List.getElem?_append_right (by rw [List.length_map]; omega), List.getElem?_replicate] at hi
      split at hi
      · cases hi; rfl
      · cases hi
  out := fun i _ => ho i
  inj := fun i j a h => by rw [ho i] at h; cases h
  alive := fun a h => (hm a h).1
  nt := fun a h => (hm a h).2
  sep := fun i a h => by rw [ho i] at h; cases h
  mb := hmb
  box := hb
theorem fn_def {x qual : Str} {st : Stmt} {f : Addr} {fd : FuncData} {N ps : List Str} {k : Nat} {body : SSem} (F : Fun K x qual st f fd) (S : FnScope N ps (defScope st)) (hl : ps.length ≤ N.length)
    (hb : ∀ (cdv : Value) (A : Around) (outer : List Env) (s : Shared) (H : Hp) (E : XK), Room k (A.deeper (envOfC qual (defScope st) s.heap.objs.size f cdv)) → JSs (cxOf (L2.CX P w) P w K mg base N qual (defScope st) f cdv A outer s H E) ct β E (defBody st) body) :
    FnOk P w K mg base (L2.CX P w) (k + 1) f fd ps (spM ⟨K, mg, ct⟩ β ps.length (fnOf ps.length N.length body)) := by
  refine F.okX S (fun vs H Q E h => ?_) fun cdv A outer s H vs Q E hr h => ?_
  · obtain ⟨g, ts, _, _, _, _, r, e, _⟩ := h
    rw [r.length, e]
  · obtain ⟨g, ts, ho, hm, hmb, hbx, r, e, h⟩ := h
    refine ⟨_, hb cdv A outer s H E hr, g, _, rel_start ho hm hmb hbx r e hl, ?_⟩
    have h' : okT ⟨K, mg, ct⟩ β E g H ((body (ts.map Slot.fro ++ List.replicate (N.length - ps.length) .un)).bind outV) fun g' H' t => ∀ v, β.I g'.B g'.D H' → RepG ⟨K, mg, ct⟩ g' H' t v → Q v H' := by
      unfold fnOf at h
      rw [if_pos e] at h
      exact h
    refine okT_mono (okT_bind h') fun g' H' o e q => ?_
    cases o with
    | nx ρ => exact fun σ R => okT_ret q .non R.box rep_non
    | rt t => exact okT_ret (c0 := ⟨K, mg, ct⟩) (β := β) (Ex := E) (Q := fun g' H' t => ∀ v, β.I g'.B g'.D H' → RepG ⟨K, mg, ct⟩ g' H' t v → Q v H') q
    | bk ρ => exact (show False from q).elim
    | ct ρ => exact (show False from q).elim
end
end Dn
set_option Elab.async false
set_option linter.all false
set_option maxRecDepth 100000
namespace Dn
open PySem PySem.Spec PyProof.Rows L2
def Keeps (c0 : Gc) (g g' : G) (H H' : Hp) : Prop := ∀ t v, RepG c0 g H t v → RepG c0 g' H' t v
structure Wk (c0 : Gc) (g : G) (H : Hp) (J : It) (xs : List AV) : Prop where
  go : ∀ (g' : G) (H' : Hp) (i : Nat), Keeps c0 g g' H H' → i < xs.length → J.go i H'
  yld : ∀ (g' : G) (H' H2 : Hp) (i : Nat) (x : AV) (v : V), Keeps c0 g g' H H' → (∀ p, g'.Av p → H' p ≠ none) → xs[i]? = some x → J.yld i H' v H2 → Same H' H2 ∧ RepG c0 g' H2 x v
  stop : ∀ (g' : G) (H' : Hp) (i : Nat), Keeps c0 g g' H H' → xs.length ≤ i → J.stop i H'
abbrev SemI := Env' → T (List AV × Env')
def rdI (c0 : Gc) (β : BInv) (Ex : XK) (f : SemI) : TI := fun σ H R => ∃ g ρ, Rel c0 β g ρ σ H ∧ okT c0 β Ex g H (f ρ) fun g' H' p => ∀ J, Rel c0 β g' p.2 σ H' → Wk c0 g' H' J p.1 → R J H'
def JI (X : Cx) (ct : CT) (β : BInv) (Ex : XK) (tg e : Expr) (f : SemI) : Prop := PI X tg e (rdI (gc X ct) β Ex f)
theorem PI.imp {X : Cx} {tg e : Expr} {t t' : TI} (h : PI X tg e t) (i : ∀ σ H Q, t' σ H Q → t σ H Q) : PI X tg e t' := ⟨fun pins s σ H R I q => h.run pins s σ H R I (i σ H R q)⟩
def seqOf : AV → Option (List AV)
  | .tup xs => some xs
  | .lst xs => some xs
  | _ => none
def iSeq (f : Sem) : SemI := fun ρ => (f ρ).bind fun p => (frz p).bind fun q => (lift (seqOf q.1)).bind fun xs => .ret (xs, q.2)
def rangeL (lo : Int) (n : Nat) : List AV := (List.range n).map fun (i : Nat) => AV.int (lo + (i : Int))
def iRange1 (f : Sem) : SemI := fun ρ => (f ρ).bind fun p => (lift (rs p.1 p.2)).bind fun a => (lift (intOf a)).bind fun j => if below j 62 = true then .ret (rangeL 0 j.toNat, p.2) else .bad
def iRange2 (f k : Sem) : SemI := fun ρ => (f ρ).bind fun p => (k p.2).bind fun q => (lift (rs p.1 q.2)).bind fun a => (lift (intOf a)).bind fun i => (lift (rs q.1 q.2)).bind fun b => (lift (intOf b)).bind fun j =>
  if below i 62 = true ∧ below j 62 = true then .ret (rangeL i (j - i).toNat, q.2) else .bad
section
variable {X : Cx} {ct : CT} {β : BInv} {Ex : XK} {a b tg : Expr} {f k : Sem} {pos p : Pos}
def iAny (K : PySem.W.Frag) (t0 : TE) : TI := fun σ H R => t0 σ H fun x H1 => (∃ q, x = .ref q ∧ (∃ xs, SqL K H1 q xs) ∧ R (Itl K q) H1) ∨ ∃ q, x = .ref q ∧ (∃ xs, SqT K H1 q xs) ∧ R (Itt K q) H1
theorem pi_anySeq {e0 : Expr} {t0 : TE} (he : PE X e0 t0) : PI X tg e0 (iAny X.K t0) := by
  constructor
  intro pins s σ H R I h
  refine thn (he.run pins s σ H _ I h) ?_
  rintro v s1 ⟨x, H1, I1, r1, ⟨q, rfl, ⟨xs, hq⟩, k⟩ | ⟨q, rfl, ⟨xs, hq⟩, k⟩⟩
  · cases r1
    obtain ⟨its, _, pl, _⟩ := I1.list hq
    apply wpAny_pyIter_list pl.isList
    have J := I1.kept (t' := s1.toks) (h' := s1.heap.push { cls := .type "list_iterator", data := .fields #[.ref q, .int 0 0] }) fun _ _ w => Heap.get?_push_of_some _ w
    refine ⟨_, [s1.heap.objs.size], _, Itl X.K q, H1, rfl, J, turn_list q _, ⟨_, Heap.get?_push_size _ rfl, rfl, rfl⟩, ?_, k⟩
    intro b hb
    cases List.mem_singleton.mp hb
    exact I1.fpOk (Nat.le_refl _) I1.fresh
  · cases r1
    obtain ⟨its, _, pl, _⟩ := I1.tuple hq
    apply wpAny_pyIter_tuple (show s1.heap.IsTuple q its.toArray from pl)
    have J := I1.kept (t' := s1.toks) (h' := s1.heap.push { cls := .type "tuple_iterator", data := .fields #[.ref q, .int 0 0] }) fun _ _ w => Heap.get?_push_of_some _ w
    refine ⟨_, [s1.heap.objs.size], _, Itt X.K q, H1, rfl, J, turn_tuple q _, ⟨_, Heap.get?_push_size _ rfl, rfl, rfl⟩, ?_, k⟩
    intro b hb
    cases List.mem_singleton.mp hb
    exact I1.fpOk (Nat.le_refl _) I1.fresh
theorem wk_list {c0 : Gc} {g : G} {H : Hp} {a : Addr} {xs : List AV} (h : RepG c0 g H (.lst xs) (.ref a)) : Wk c0 g H (Itl c0.K a) xs := by
  have at_ : ∀ (g' : G) (H' : Hp), Keeps c0 g g' H H' → ∃ vs, H' a = some (.lst vs) ∧ RepsG c0 g' H' xs vs := fun g' H' k => by
    have q := k _ _ h
    rw [RepG, Rep] at q
    obtain ⟨a', vs, e, ⟨na, ho⟩, r⟩ := q
    cases e
    exact ⟨vs, ho, r⟩
  refine ⟨fun g' H' i e hi => ?_, fun g' H' H2 i x v e _ hx hy => ?_, fun g' H' i e hi => ?_⟩
  · obtain ⟨vs, ho, r⟩ := at_ g' H' e
    exact ⟨vs, vs[i]'(by rw [r.length]; exact hi), .of ho, List.getElem?_eq_getElem _⟩
  · obtain ⟨e1, hy⟩ := hy
    subst e1
    obtain ⟨vs, ho, r⟩ := at_ g' _ e
    refine ⟨Same.refl _, ?_⟩
    obtain ⟨y, ey, ry⟩ := r.get (hy vs (.of ho))
    rw [hx] at ey
    cases ey
    exact ry
  · obtain ⟨vs, ho, r⟩ := at_ g' H' e
    exact ⟨vs, .of ho, by rw [r.length]; exact hi⟩
theorem TupAt.ext {K : PySem.W.Frag} {g g' : G} {H H' : Hp} {a : Addr} {vs : List V} (e : Ext g g' H H') (h : TupAt K g.Av H a vs) : TupAt K g'.Av H' a vs := by
  rcases h with ⟨na, q⟩ | q
  · exact .inl ⟨(e.av q na).2, (e.av q na).1⟩
  · exact .inr q
theorem wk_tup {c0 : Gc} {g : G} {H : Hp} {a : Addr} {xs : List AV} (h : RepG c0 g H (.tup xs) (.ref a)) : Wk c0 g H (Itt c0.K a) xs := by
  have at_ : ∀ (g' : G) (H' : Hp), Keeps c0 g g' H H' → ∃ vs, SqT c0.K H' a vs ∧ RepsG c0 g' H' xs vs := fun g' H' k => by
    have q := k _ _ h
    rw [RepG, Rep] at q
    obtain ⟨a', vs, e, ho, r⟩ := q
    cases e
    exact ⟨vs, ho.sq, r⟩
  refine ⟨fun g' H' i e hi => ?_, fun g' H' H2 i x v e _ hx hy => ?_, fun g' H' i e hi => ?_⟩
  · obtain ⟨vs, ho, r⟩ := at_ g' H' e
    exact ⟨vs, vs[i]'(by rw [r.length]; exact hi), ho, List.getElem?_eq_getElem _⟩
  · obtain ⟨e1, hy⟩ := hy
    subst e1
    obtain ⟨vs, ho, r⟩ := at_ g' _ e
    refine ⟨Same.refl _, ?_⟩
    obtain ⟨y, ey, ry⟩ := r.get (hy vs ho)
    rw [hx] at ey
    cases ey
    exact ry
  · obtain ⟨vs, ho, r⟩ := at_ g' H' e
    exact ⟨vs, ho, by rw [r.length]; exact hi⟩
theorem ji_seq (ha : JE X ct β Ex a f) : JI X ct β Ex tg a (iSeq f) := by
  refine PI.imp (pi_anySeq ha) fun σ H R h => ?_
  obtain ⟨g, ρ, Rl, h⟩ := h
  refine ⟨g, ρ, Rl, okT_mono (okT_bind h) fun g1 H1 p e1 h1 x R1 rx => ?_⟩
  obtain ⟨g2, s, e2, R2, rs, h2⟩ := frz_ok R1 rx h1
  obtain ⟨xs, ex, h3⟩ := okT_lift h2
  obtain ⟨t, ρ2⟩ := s
  cases t with
  | tup ys =>
    cases ex
    have rs0 := rs
    rw [RepG, Rep] at rs
    obtain ⟨q, vs, rfl, hq, _⟩ := rs
    exact .inr ⟨q, rfl, ⟨vs, hq.sq⟩, okT_ret h3 _ R2 (wk_tup rs0)⟩
  | lst ys =>
    cases ex
    have rs0 := rs
    rw [RepG, Rep] at rs
    obtain ⟨q, vs, rfl, hq, _⟩ := rs
    exact .inl ⟨q, rfl, ⟨vs, hq.sq⟩, okT_ret h3 _ R2 (wk_list rs0)⟩
  | _ => cases ex
theorem wk_range {c0 : Gc} {g : G} {H : Hp} {lo : Int} {n : Nat} : Wk c0 g H (Itr lo n) (rangeL lo n) := by
  have hl : (rangeL lo n).length = n := by unfold rangeL; rw [List.length_map, List.length_range]
  refine ⟨fun g' H' i e hi => by rw [hl] at hi; exact hi, fun g' H' H2 i x v e _ hx hy => ?_, fun g' H' i e hi => by rw [hl] at hi; exact hi⟩
  obtain ⟨e1, hy⟩ := hy
  subst e1
  refine ⟨Same.refl _, ?_⟩
  unfold rangeL at hx
  rw [List.getElem?_map] at hx
  have hi : i < n := by
    cases q : (List.range n)[i]? with
    | none => rw [q] at hx; cases hx
    | some j =>
      have := (List.getElem?_eq_some_iff.mp q).1
      rwa [List.length_range] at this
  rw [List.getElem?_range hi] at hx
  cases hx
  rw [hy]
  exact rep_int
theorem ji_range1 (hg : Gl X "range") (hm : X.mg "range" = none) (ha : JE X ct β Ex a f) (hs : starEach [a] X.env = [(false, eval a X.env)] := by rfl) (he : starEach [a] X.env = (false, eval a X.env) :: starEach [] X.env := by rfl) :
    JI X ct β Ex tg (.Call (.Name "range" p) [a] [] pos) (iRange1 f) := by
  refine PI.imp (pi_range1 hg hm (pa_cons ha pa_nil he) hs) fun σ H R h => ?_
  obtain ⟨g, ρ, Rl, h⟩ := h
  refine ⟨g, ρ, Rl, okT_mono (okT_bind h) fun g1 H1 p e1 h1 x R1 rx => ?_⟩
  obtain ⟨u, eu, h2⟩ := okT_lift h1
  obtain ⟨j, ej, h3⟩ := okT_lift h2
  have := intOf_eq ej
  subst this
  have ex := (rx.rs R1 eu).int
  subst ex
  by_cases hb : below j 62 = true
  · rw [if_pos hb] at h3
    have hb := below62 hb
    exact ⟨j, rfl, hb.1, hb.2, okT_ret h3 _ R1 wk_range⟩
  · rw [if_neg hb] at h3
    exact (show False from h3).elim
end
def forL (k : GSem) (body : SSem) : List AV → Env' → T Out
  | [], ρ => .ret (.nx ρ)
  | x :: xs, ρ => (k x ρ).bind fun ρ1 => (body ρ1).bind fun
    | .nx ρ' => forL k body xs ρ'
    | .ct ρ' => forL k body xs ρ'
    | .bk ρ' => .ret (.nx ρ')
    | .rt t => .ret (.rt t)
def sFor (it : SemI) (k : GSem) (body : SSem) : SSem := fun ρ => (it ρ).bind fun p => forL k body p.1 p.2
section
variable {X : Cx} {ct : CT} {β : BInv} {Ex : XK} {a tg it : Expr} {is : List Nat} {body : List Stmt} {f : SemI} {k : GSem} {sb : SSem} {pos : Pos} {fb : SemB}
theorem js_for (hp : PassesOwn (model X.prog X.w) X.A X.env X.xe) (hc : X.calm = true) (hi : JI X ct β Ex tg it f) (hg : JG X ct β Ex tg is k) (hb : JSs X ct β Ex body sb) (hs : ∀ x, foldedSetIterable it X.env x = pure x := by intro _; rfl) :
    JS X ct β Ex (.For tg it body [] pos) (sFor f k sb) := by
  refine PS.imp (ps_for hp hc hi hg hb hs) fun D σ H h => ?_
  obtain ⟨g, ρ, R, h⟩ := h
  refine ⟨g, ρ, R, okT_mono (okT_bind h) fun g1 H1 p e1 h1 J R1 wk => ?_⟩
  obtain ⟨xs, ρ1⟩ := p
  refine ⟨fun i m σ H => m = xs.length - i ∧ i ≤ xs.length ∧ ∃ g ρ, Ext g1 g H1 H ∧ Rel (gc X ct) β g ρ σ H ∧ okT (gc X ct) β Ex g H (forL k sb (xs.drop i) ρ) (endOk (gc X ct) β D), ⟨xs.length, by simp, Nat.zero_le _, g1, ρ1, .refl _ _, R1, h1⟩, ?_⟩
  rintro i m σ2 H2 ⟨rfl, hi, g2, ρ2, e2, R2, h2⟩
  by_cases hlt : i < xs.length
  · refine .inr ⟨wk.go _ _ _ (fun _ _ => e2.rep) hlt, _, fun σ' H' n => ⟨xs.length - (i + 1), by omega, n⟩, fun x H3 hy => ?_⟩
    have ex : xs[i]? = some xs[i] := List.getElem?_eq_getElem hlt
    obtain ⟨sm, rx⟩ := wk.yld _ _ _ _ _ _ (fun _ _ => e2.rep) (fun _ h => R2.avLive h) ex hy
    rw [List.drop_eq_getElem_cons hlt] at h2
    have h3 : okT (gc X ct) β Ex g2 H3 ((k xs[i] ρ2).bind fun ρ1 => (sb ρ1).bind fun | .nx ρ' => forL k sb (xs.drop (i + 1)) ρ' | .ct ρ' => forL k sb (xs.drop (i + 1)) ρ' | .bk ρ' => .ret (.nx ρ') | .rt t => .ret (.rt t)) (endOk (gc X ct) β D) :=
      T.all_mono h2 (fun o q g' H' e => q g' H' ((Ext.same sm).trans e)) fun c xs q g' H' C d vs e => q g' H' C d vs ((Ext.same sm).trans e)
    refine ⟨g2, ρ2, xs[i], R2.same sm, rx, okT_mono (okT_bind h3) fun g4 H4 ρ4 e4 h4 σ4 _ R4 => ⟨g4, ρ4, R4, okT_mono (okT_bind h4) fun g5 H5 o e5 h5 => ?_⟩⟩
    have e15 : Ext g1 g5 H1 H5 := (((e2.trans (Ext.same sm)).trans e4).trans e5)
    cases o with
    | nx ρ' => exact fun σ' R' => ⟨rfl, hlt, g5, ρ', e15, R', h5⟩
    | ct ρ' => exact fun σ' R' => ⟨rfl, hlt, g5, ρ', e15, R', h5⟩
    | bk ρ' => exact (okT_ret (c0 := gc X ct) (β := β) (Ex := Ex) (Q := endOk (gc X ct) β D) h5 : endOk (gc X ct) β D g5 H5 (.nx ρ'))
    | rt t => exact (okT_ret (c0 := gc X ct) (β := β) (Ex := Ex) (Q := endOk (gc X ct) β D) h5 : endOk (gc X ct) β D g5 H5 (.rt t))
  · have e : i = xs.length := by omega
    subst e
    rw [List.drop_length] at h2
    exact .inl ⟨wk.stop _ _ _ (fun _ _ => e2.rep) (Nat.le_refl _), okT_ret h2 σ2 R2⟩
def whileL (c : SemB) (body : SSem) : Nat → Env' → T Out
  | 0, _ => .bad
  | n + 1, ρ => (c ρ).bind fun p => if p.1 then (body p.2).bind fun
      | .nx ρ' => whileL c body n ρ'
      | .ct ρ' => whileL c body n ρ'
      | .bk ρ' => .ret (.nx ρ')
      | .rt t => .ret (.rt t)
    else .ret (.nx p.2)
end
end Dn
set_option Elab.async false
set_option linter.all false
set_option maxRecDepth 100000
namespace Dn
open PySem PySem.Spec PyProof.Rows L2
def G.plus (g : G) (a : Addr) : G := { g with M := fun b => g.M b ∨ b = a }
theorem plus_av {g : G} {a b : Addr} : (g.plus a).Av b ↔ g.Av b ∨ b = a := by
  unfold G.Av G.plus
  constructor
  · rintro ((h | h) | h | h)
    · exact .inl (.inl h)
    · exact .inr h
    · exact .inl (.inr (.inl h))
    · exact .inl (.inr (.inr h))
  · rintro ((h | h | h) | h)
    · exact .inl (.inl h)
    · exact .inr (.inl h)
    · exact .inr (.inr h)
    · exact .inl (.inr h)
section
variable {c0 : Gc} {β : BInv} {g : G} {H : Hp} {ρ : Env'} {σ : L2.St} {a : Addr}
theorem plus_reps {t : List AV} {v : List V} (h : RepsG c0 (g.plus a) H t v) : RepsG c0 g H t v := h.imp (fun b o q na => ⟨q, fun z => na (plus_av.mpr (.inl z))⟩) fun _ h => h
theorem rep_plus {t : AV} {v : V} {H' : Hp} (h : RepG c0 g H t v) (s : Same H H') (hn : H a = none) : RepG c0 (g.plus a) H' t v := h.imp (fun b o q na => ⟨s b o q, fun z => (plus_av.mp z).elim na fun e => by rw [e, hn] at q; cases q⟩) fun _ h => h
theorem reps_plus {t : List AV} {v : List V} {H' : Hp} (h : RepsG c0 g H t v) (s : Same H H') (hn : H a = none) : RepsG c0 (g.plus a) H' t v := h.imp (fun b o q na => ⟨s b o q, fun z => (plus_av.mp z).elim na fun e => by rw [e, hn] at q; cases q⟩) fun _ h => h
theorem slot_weak {g g' : G} {o : Option Addr} {sv : Option (Option V)} {s : Slot} (hav : ∀ b, g'.Av b → g.Av b) (hd : g'.D = g.D) (hS : g'.S = g.S) (q : slotOk c0 g H o sv s) : slotOk c0 g' H o sv s := by
  have hi : ∀ (b : Addr) (o : HO), H b = some o → ¬ g.Av b → H b = some o ∧ ¬ g'.Av b := fun b o q na => ⟨q, fun z => na (hav b z)⟩
  have hd' : ∀ b, g.D b → g'.D b := fun b h => by rw [hd]; exact h
  cases s with
  | un => exact q
  | fro t => obtain ⟨a, v, b, c⟩ := q; exact ⟨a, v, b, Rep.imp hi hd' c⟩
  | ml xs => obtain ⟨p, vs, e1, e2, e3, e4⟩ := q; exact ⟨p, vs, e1, e2, e3, RepL.imp hi hd' e4⟩
  | md kd kvs => obtain ⟨p, ws, e1, e2, e3, e4⟩ := q; exact ⟨p, ws, e1, e2, e3.imp hi hd', e4⟩
  | slf c fs => obtain ⟨p, C, dx, vs, e1, e2, e3, e4, e5, e6, e7⟩ := q; exact ⟨p, C, dx, vs, e1, e2, e3, e4, e5, RepL.imp hi hd' e6, hS.trans e7⟩
theorem Rel.minus (R : Rel c0 β (g.plus a) ρ σ H) : Rel c0 β g ρ σ H where
  len := R.len
  sl := fun i s hs => slot_weak (fun b h => plus_av.mpr (.inl h)) rfl rfl (R.sl i s hs)
  out := R.out
  inj := R.inj
  alive := fun b h => R.alive b (.inl h)
  nt := fun b h => R.nt b (.inl h)
  sep := fun i b h => ⟨fun z => (R.sep i b h).1 (.inl z), (R.sep i b h).2⟩
  mb := fun b h => R.mb b (.inl h)
  box := R.box
theorem Rel.plus {H' : Hp} (R : Rel c0 β g ρ σ H) (s : Same H H') (hn : H a = none) (hl : H' a ≠ none) (ht : ∀ ws, H' a ≠ some (.tup ws) := by intro ws; rw [upd_same]; exact fun z => by cases z) : Rel c0 β (g.plus a) ρ σ H' where
  len := R.len
  sl := fun i sl hs => by
    have q := R.sl i sl hs
    have hi : ∀ (b : Addr) (o : HO), H b = some o → ¬ g.Av b → H' b = some o ∧ ¬ (g.plus a).Av b := fun b o q na => ⟨s b o q, fun z => (plus_av.mp z).elim na fun e => by rw [e, hn] at q; cases q⟩
    cases sl with
    | un => exact q
    | fro t => obtain ⟨a, v, b, c⟩ := q; exact ⟨a, v, b, Rep.imp hi (fun _ h => h) c⟩
    | ml xs => obtain ⟨p, vs, e1, e2, e3, e4⟩ := q; exact ⟨p, vs, e1, e2, s _ _ e3, RepL.imp hi (fun _ h => h) e4⟩
    | md kd kvs =>
      obtain ⟨p, ws, e1, e2, e3, e4⟩ := q
      refine ⟨p, ws, e1, e2, e3.imp hi fun _ h => h, ?_⟩
      rcases e4 with ⟨us, e4, e5⟩ | ⟨us, e4, e5⟩
      · exact .inl ⟨us, s _ _ e4, e5⟩
      · exact .inr ⟨us, s _ _ e4, e5⟩
    | slf c fs => obtain ⟨p, C, dx, vs, e1, e2, e3, e4, e5, e6, e7⟩ := q; exact ⟨p, C, dx, vs, e1, e2, e3, s _ _ e4, e5, RepL.imp hi (fun _ h => h) e6, e7⟩
  out := R.out
  inj := R.inj
  alive := fun b h => by
    rcases h with h | h
    · cases q : H b with
      | none => exact absurd q (R.alive b h)
      | some o => rw [s b o q]; exact fun z => by cases z
    · rw [h]; exact hl
  nt := fun b h vs z => by
    rcases h with h | h
    · cases q : H b with
      | none => exact R.alive b h q
      | some o => rw [s b o q] at z; cases z; exact R.nt b h vs q
    · rw [h] at z; exact ht vs z
  sep := fun i b h => ⟨fun z => z.elim (R.sep i b h).1 fun e => R.ownLive h (e ▸ hn), (R.sep i b h).2⟩
  mb := fun b h hb => h.elim (fun z => R.mb b z hb) fun e => β.live R.box hb (e ▸ hn)
  box := β.frame R.box fun b h => by
    cases q : H b with
    | none => exact absurd q (β.live R.box h)
    | some o => exact s b o q
def G.setM (g : G) (M : Addr → Prop) : G := { g with M := M }
def G.own1 (g : G) (j : Nat) (a : Addr) : G := { g with own := fun i => if i = j then some a else g.own i }
theorem own1_same {j : Nat} : (g.own1 j a).own j = some a := by simp [G.own1]
theorem own1_ne {i j : Nat} (h : i ≠ j) : (g.own1 j a).own i = g.own i := by simp [G.own1, h]
theorem own1_av {j : Nat} {b : Addr} (h : (g.own1 j a).Av b) : (g.plus a).Av b := by
  refine plus_av.mpr ?_
  rcases h with h | ⟨i, h⟩ | h
  · exact .inl (.inl h)
  · by_cases hi : i = j
    · subst hi; rw [own1_same] at h; cases h; exact .inr rfl
    · rw [own1_ne hi] at h; exact .inl (.inr (.inl ⟨i, h⟩))
  · exact .inl (.inr (.inr h))
theorem Rel.take {j : Nat} {xs : List AV} {vs : List V} (R : Rel c0 β (g.plus a) ρ σ H) (hj : j < ρ.length) (ho : H a = some (.lst vs)) (na : ¬ g.Av a) (r : RepsG c0 (g.plus a) H xs vs) : Rel c0 β (g.own1 j a) (ρ.set j (.ml xs)) (σ.set j (some (.ref a))) H where
  len := by rw [List.length_set, List.length_set]; exact R.len
  sl := fun i s hs => by
    by_cases hi : i = j
    · subst hi
      rw [List.getElem?_set_self hj] at hs
      cases hs
      rw [own1_same, List.getElem?_set_self (by rw [R.len]; exact hj)]
      exact ⟨a, vs, rfl, rfl, ho, r.imp (fun b o q nb => ⟨q, fun z => nb (own1_av z)⟩) fun _ h => h⟩
    · rw [List.getElem?_set_ne (Ne.symm hi)] at hs
      rw [own1_ne hi, List.getElem?_set_ne (Ne.symm hi)]
      exact slot_weak (fun b h => own1_av h) rfl rfl (R.sl i s hs)
  out := fun i hi => by
    rw [List.length_set] at hi
    rw [own1_ne (by omega)]
    exact R.out i hi
  inj := fun i k b h1 h2 => by
    have nobody : ∀ i, (g.plus a).own i ≠ some a := fun i h => na (.inr (.inl ⟨i, h⟩))
    by_cases hi : i = j
    · by_cases hk : k = j
      · rw [hi, hk]
      · subst hi
        rw [own1_same] at h1
        cases h1
        rw [own1_ne hk] at h2
        exact absurd h2 (nobody k)
    · by_cases hk : k = j
      · subst hk
        rw [own1_same] at h2
        cases h2
        rw [own1_ne hi] at h1
        exact absurd h1 (nobody i)
      · rw [own1_ne hi] at h1
        rw [own1_ne hk] at h2
        exact R.inj i k b h1 h2
  alive := fun b h => R.alive b (.inl h)
  nt := fun b h => R.nt b (.inl h)
  sep := fun i b h => by
    by_cases hi : i = j
    · subst hi
      rw [own1_same] at h
      cases h
      exact ⟨fun z => na (.inl z), fun z => na (.inr (.inr z))⟩
    · rw [own1_ne hi] at h
      exact ⟨fun z => (R.sep i b h).1 (.inl z), (R.sep i b h).2⟩
  mb := fun b h => R.mb b (.inl h)
  box := R.box
theorem ext_own1 {g' : G} {j : Nat} {H' : Hp} (e : Ext g g' H H') (hn : H a = none) : Ext g (g'.own1 j a) H H' where
  keep := e.keep
  live := e.live
  m := e.m
  bsub := e.bsub
  bnew := e.bnew
  dsub := e.dsub
  own := fun i b h => by
    by_cases hi : i = j
    · subst hi; rw [own1_same] at h; cases h; exact .inr hn
    · rw [own1_ne hi] at h; exact e.own i b h
  s := e.s
end
abbrev SemN := Env' → T (List AV × Env')
def newOk (c0 : Gc) (β : BInv) (Ex : XK) (g : G) (σ : L2.St) (H : Hp) (m : T (List AV × Env')) (Q : VK) : Prop :=
  okT c0 β Ex g H m fun g' H' p => ∀ a vs, H a = none → ¬ g'.Av a → H' a = some (.lst vs) → Rel c0 β (g'.plus a) p.2 σ H' → RepsG c0 (g'.plus a) H' p.1 vs → Q (.ref a) H'
def rdN (c0 : Gc) (β : BInv) (Ex : XK) (f : SemN) : TE := fun σ H Q => ∃ g ρ, Rel c0 β g ρ σ H ∧ newOk c0 β Ex g σ H (f ρ) Q
def JN (X : Cx) (ct : CT) (β : BInv) (Ex : XK) (e : Expr) (f : SemN) : Prop := PE X e (rdN (gc X ct) β Ex f)
def fNew (f : SemN) : Sem := fun ρ => (f ρ).bind fun p => .ret (.val (.lst p.1), p.2)
def sSetN (i : Nat) (f : SemN) : SSem := fun ρ => (f ρ).bind fun p => .ret (.nx (p.2.set i (.ml p.1)))
theorem okT_bind0 {c0 : Gc} {β : BInv} {Ex : XK} {α γ : Type} {g : G} {H : Hp} {m : T α} {k : α → T γ} {Q : G → Hp → γ → Prop} (h : okT c0 β Ex g H (m.bind k) Q) {R : G → Hp → α → Prop} (hR : ∀ a, okT c0 β Ex g H (k a) Q → ∀ g' H', Ext g g' H H' → R g' H' a) : okT c0 β Ex g H m R :=
  T.all_mono (T.all_bind.mp h) (fun a q => hR a q) fun _ _ q => q
section
variable {X : Cx} {ct : CT} {β : BInv} {Ex : XK} {e a b : Expr} {es : List Expr} {f : SemN} {fe k : Sem} {m : SemL} {pos p : Pos} {x : Str} {i : Nat}
theorem j_new (h : JN X ct β Ex e f) : JE X ct β Ex e (fNew f) := by
  refine PE.imp h fun σ H Q h => ?_
  obtain ⟨g, ρ, R, h⟩ := h
  refine ⟨g, ρ, R, okT_mono (okT_bind h) fun g' H' p e q a vs hn na ho R' r => ?_⟩
  exact okT_ret q _ R'.minus (show RepG (gc X ct) g' H' (.lst p.1) (.ref a) from rep_lst_new na ho (plus_reps r))
def nLst (k : SemL) : SemN := fun ρ => (k ρ).bind fun p => if p.1.length ≤ big then .ret (p.1, p.2) else .bad
theorem jn_lst (h : JL X ct β Ex es m) : JN X ct β Ex (.List es pos) (nLst m) := by
  refine PE.imp (pe_lst h) fun σ H Q h => ?_
  obtain ⟨g, ρ, R, h⟩ := h
  refine ⟨g, ρ, R, okT_bind0 h fun p q g1 H1 e vs R1 rx => ?_⟩
  by_cases hl : p.1.length ≤ big
  · rw [if_pos hl] at q
    refine ⟨by rw [rx.length]; exact Nat.le_trans hl big_line, fun l hl => ?_⟩
    have s := same_upd (o := .lst vs) hl
    have hn : H l = none := none_back e hl
    exact okT_ret' q (e.trans (Ext.same s)) l vs hn (R1.freshAv hl) upd_same (R1.plus s hl (by rw [upd_same]; exact fun z => by cases z)) (reps_plus rx s hl)
  · rw [if_neg hl] at q
    exact (show False from q).elim
def nList (f : Sem) : SemN := fun ρ => (f ρ).bind fun p => (lift (rs p.1 p.2)).bind fun a => (lift (seqOf a)).bind fun xs => .ret (xs, p.2)
theorem seq_sq {c0 : Gc} {g : G} {H : Hp} {t : AV} {v : V} {xs : List AV} (h : RepR c0 g H t v) (e : seqOf t = some xs) : ∃ a vs, v = .ref a ∧ (SqL c0.K H a vs ∨ SqT c0.K H a vs) ∧ RepsG c0 g H xs vs := by
  cases t with
  | tup ys =>
    cases e
    obtain ⟨a, vs, rfl, q, r⟩ := h.tup
    exact ⟨a, vs, rfl, .inr q, r⟩
  | lst ys =>
    cases e
    obtain ⟨a, vs, rfl, q, r⟩ := h.lst
    exact ⟨a, vs, rfl, .inl q, r⟩
  | _ => cases e
theorem jn_list (hg : Gl X "list") (hm : X.mg "list" = none) (ha : JE X ct β Ex a fe) (he : starEach [a] X.env = (false, eval a X.env) :: starEach [] X.env := by rfl) : JN X ct β Ex (.Call (.Name "list" p) [a] [] pos) (nList fe) := by
  refine PE.imp (pe_callTy call_list_of hg hm (by decide +kernel) (pa_cons ha pa_nil he) (by decide +kernel) (by decide +kernel) he) fun σ H Q h => ?_
  obtain ⟨g, ρ, R, h⟩ := h
  refine ⟨g, ρ, R, okT_bind0 h fun p q g1 H1 e v R1 rv => ?_⟩
  obtain ⟨u, eu, h2⟩ := okT_lift q
  obtain ⟨xs, ex, h3⟩ := okT_lift h2
  obtain ⟨b, vs, rfl, hs, r⟩ := seq_sq (rv.rs R1 eu) ex
  refine ⟨b, vs, rfl, hs, fun l hl => ?_⟩
  have s := same_upd (o := .lst vs) hl
  exact okT_ret' h3 (e.trans (Ext.same s)) l vs (none_back e hl) (R1.freshAv hl) upd_same (R1.plus s hl (by rw [upd_same]; exact fun z => by cases z)) (reps_plus r s hl)
end
section
variable {c0 : Gc} {β : BInv} {g : G} {H : Hp} {ρ : Env'} {σ : L2.St}
theorem Rel.ml {j : Nat} {xs : List AV} (R : Rel c0 β g ρ σ H) (h : ρ[j]? = some (.ml xs)) : ∃ p vs, g.own j = some p ∧ σ[j]? = some (some (.ref p)) ∧ H p = some (.lst vs) ∧ RepsG c0 g H xs vs := R.sl j _ h
theorem ext_upd {j : Nat} {p : Addr} {o : HO} (ho : g.own j = some p) : Ext g g H (upd H p o) := ⟨fun a ob h hn _ => by rw [upd_ne (fun e => hn j (by rw [e]; exact ho))]; exact h, fun a h => by
  by_cases e : a = p
  · rw [e, upd_same]; exact fun z => by cases z
  · rw [upd_ne e]; exact h, rfl, fun _ h => h, fun _ h => .inl h, fun _ h => h, fun i a h => .inl ⟨i, h⟩, rfl⟩
theorem Rel.upd {j : Nat} {p : Addr} {ys : List AV} {ws : List V} (R : Rel c0 β g ρ σ H) (hj : j < ρ.length) (ho : g.own j = some p) (hσ : σ[j]? = some (some (.ref p))) (r : RepsG c0 g H ys ws) : Rel c0 β g (ρ.set j (.ml ys)) σ (L2.upd H p (.lst ws)) := by
  have e : Ext g g H (L2.upd H p (.lst ws)) := ext_upd ho
  refine R.put e rfl (fun _ _ => rfl) hj (fun _ _ => rfl) (fun i a o hi h1 h2 => ?_) ?_ ?_ fun a h => ?_
  · rw [upd_ne (fun z => hi (R.inj i j a h1 (by rw [z]; exact ho)))]
    exact h2
  · refine β.frame R.box fun a h => ?_
    rw [upd_ne (fun z => (R.sep j p ho).2 (by rw [← z]; exact h))]
  · exact ⟨p, ws, ho, hσ, upd_same, e.reps r⟩
  · rw [ho] at h
    cases h
    exact ⟨(R.sep j p ho).1, (R.sep j p ho).2, fun i hi h => hi (R.inj i j p h ho)⟩
end
def isMl (ρ : Env') (j : Nat) : Option (List AV) := match ρ[j]? with
  | some (.ml xs) => some xs
  | _ => none
theorem isMl_eq {ρ : Env'} {j : Nat} {xs : List AV} (h : isMl ρ j = some xs) : ρ[j]? = some (.ml xs) := by
  unfold isMl at h
  cases e : ρ[j]? with
  | none => rw [e] at h; cases h
  | some s =>
    rw [e] at h
    cases s with
    | ml ys => cases h; rfl
    | _ => cases h
def fAppend (j : Nat) (f : Sem) : Sem := fun ρ => (lift (isMl ρ j)).bind fun _ => (f ρ).bind fun p => (frz p).bind fun q => (lift (isMl q.2 j)).bind fun xs => if xs.length < big then .ret (.val .non, q.2.set j (.ml (xs ++ [q.1]))) else .bad
def lstOf : AV → Option (List AV)
  | .lst xs => some xs
  | _ => none
def fExtend (j : Nat) (f : Sem) : Sem := fun ρ => (lift (isMl ρ j)).bind fun _ => (f ρ).bind fun p => (lift (rs p.1 p.2)).bind fun a => (lift (lstOf a)).bind fun ys => (lift (isMl p.2 j)).bind fun xs => if xs.length + ys.length ≤ big then .ret (.val .non, p.2.set j (.ml (xs ++ ys))) else .bad
def fPopAt (j : Nat) (f : Sem) : Sem := fun ρ => (lift (isMl ρ j)).bind fun _ => (f ρ).bind fun p => (lift (rs p.1 p.2)).bind fun a => (lift (intOf a)).bind fun i => (lift (isMl p.2 j)).bind fun xs => if 0 ≤ i ∧ below i 62 = true then (lift xs[i.toNat]?).bind fun t => .ret (.val t, p.2.set j (.ml (xs.eraseIdx i.toNat))) else .bad
def fPop (j : Nat) : Sem := fun ρ => (lift (isMl ρ j)).bind fun xs => (lift xs[xs.length - 1]?).bind fun t => .ret (.val t, ρ.set j (.ml xs.dropLast))
section
variable {X : Cx} {ct : CT} {β : BInv} {Ex : XK} {a : Expr} {f : Sem} {pos p apos : Pos} {x : Str}
theorem rh_non {c0 : Gc} {g : G} {σ : L2.St} {H : Hp} : RepH c0 g σ H (.val .non) .non := (rep_non : RepG c0 g H .non .non)
theorem rh_val {c0 : Gc} {g : G} {σ : L2.St} {H : Hp} {t : AV} {v : V} (h : RepG c0 g H t v) : RepH c0 g σ H (.val t) v := h
theorem tyV_ml {c0 : Gc} {H : Hp} {p : Addr} {vs : List V} (h : H p = some (.lst vs)) : tyV c0.K "list" (.ref p) H := .inl ⟨rfl, _, .of h⟩
theorem lt_of_ml {ρ : Env'} {j : Nat} {s : Slot} (h : ρ[j]? = some s) : j < ρ.length := (List.getElem?_eq_some_iff.mp h).1
theorem j_append (j : Nat) (ha : JE X ct β Ex a f) (hpe : ∀ te : TE, PE X a te → PE X (.Call (.Attribute (.Name x p) "append" apos) [a] [] pos) (tBM X.K "list" rAppend (tVar j) (tCons te tNil)) := by intro te he; exact pe_bm PySem.F.plainAttrs_list PySem.F.slot_list_append PySem.F.type_list_append mt_append (pv j) (pa_cons he pa_nil)) : JE X ct β Ex (.Call (.Attribute (.Name x p) "append" apos) [a] [] pos) (fAppend j f) := by
  refine PE.imp (hpe _ ha) fun σ H Q h => ?_
  obtain ⟨g, ρ, R, h⟩ := h
  obtain ⟨xs0, e0, h⟩ := okT_lift h
  obtain ⟨q0, vs0, _, hσ, ho0, _⟩ := R.ml (isMl_eq e0)
  refine ⟨.ref q0, hσ, tyV_ml (c0 := gc X ct) ho0, g, ρ, R, okT_mono (okT_bind h) fun g1 H1 q e1 h1 v R1 rv => ?_⟩
  obtain ⟨g2, s, e2, R2, rs, h2⟩ := frz_ok R1 rv h1
  obtain ⟨xs, ex, h3⟩ := okT_lift h2
  have hm := isMl_eq ex
  obtain ⟨q1, vs, hq, hσ1, ho, r⟩ := R2.ml hm
  rw [hσ] at hσ1
  cases hσ1
  by_cases hl : xs.length < big
  · rw [if_pos hl] at h3
    refine ⟨q0, vs, v, rfl, rfl, ho, by rw [r.length]; exact Nat.lt_of_lt_of_le hl big_line, ?_⟩
    exact okT_ret' h3 (ext_upd hq) _ (R2.upd (lt_of_ml hm) hq hσ (r.append (.one rs))) rh_non
  · rw [if_neg hl] at h3
    exact (show False from h3).elim
theorem eraseIdx_reps {c0 : Gc} {A D : Addr → Prop} {H : Hp} : ∀ {xs : List AV} {vs : List V} (i : Nat), RepL c0 A D H xs vs → RepL c0 A D H (xs.eraseIdx i) (vs.eraseIdx i)
  | [], vs, i, r => by rw [RepL] at r; subst r; exact .nil
  | x :: xs, vs, 0, r => by
    rw [RepL] at r
    obtain ⟨v, r', rfl, _, h⟩ := r
    exact h
  | x :: xs, vs, i + 1, r => by
    rw [RepL] at r
    obtain ⟨v, r', rfl, h1, h⟩ := r
    exact .cons h1 (eraseIdx_reps i h)
theorem j_popAt (j : Nat) (ha : JE X ct β Ex a f) (hpe : ∀ te : TE, PE X a te → PE X (.Call (.Attribute (.Name x p) "pop" apos) [a] [] pos) (tBM X.K "list" rPopAt (tVar j) (tCons te tNil)) := by intro te he; exact pe_bm PySem.F.plainAttrs_list PySem.F.slot_list_pop PySem.F.type_list_pop mt_popAt (pv j) (pa_cons he pa_nil)) : JE X ct β Ex (.Call (.Attribute (.Name x p) "pop" apos) [a] [] pos) (fPopAt j f) := by
  refine PE.imp (hpe _ ha) fun σ H Q h => ?_
  obtain ⟨g, ρ, R, h⟩ := h
  obtain ⟨xs0, e0, h⟩ := okT_lift h
  obtain ⟨q0, vs0, _, hσ, ho0, _⟩ := R.ml (isMl_eq e0)
  refine ⟨.ref q0, hσ, tyV_ml (c0 := gc X ct) ho0, g, ρ, R, okT_mono (okT_bind h) fun g1 H1 q e1 h1 v R1 rv => ?_⟩
  obtain ⟨u, eu, h2⟩ := okT_lift h1
  obtain ⟨i, ei, h2⟩ := okT_lift h2
  obtain ⟨xs, ex, h3⟩ := okT_lift h2
  have hm := isMl_eq ex
  obtain ⟨q1, vs, hq, hσ1, ho, r⟩ := R1.ml hm
  rw [hσ] at hσ1
  cases hσ1
  have := intOf_eq ei
  subst this
  have ev := (rv.rs R1 eu).int
  subst ev
  by_cases hb : 0 ≤ i ∧ below i 62 = true
  · have hb2 : 0 ≤ i ∧ i < 2 ^ 62 := ⟨hb.1, (below62 hb.2).2⟩
    rw [if_pos hb] at h3
    obtain ⟨t, et, h4⟩ := okT_lift h3
    obtain ⟨w, ew, rw'⟩ := r.get' et
    have hlt : i.toNat < vs.length := (List.getElem?_eq_some_iff.mp ew).1
    refine ⟨q0, vs, i, i.toNat, w, rfl, rfl, ho, by omega, by omega, seqIndex_of hb.1 (by omega), ew, ?_⟩
    exact okT_ret' h4 (ext_upd hq) _ (R1.upd (lt_of_ml hm) hq hσ (eraseIdx_reps i.toNat r)) (rh_val ((ext_upd hq).rep rw'))
  · rw [if_neg hb] at h3
    exact (show False from h3).elim
end
end Dn
set_option Elab.async false
set_option linter.all false
set_option maxRecDepth 100000
namespace Dn
open PySem PySem.Spec PyProof.Rows L2
def noExc {α : Type} : T α → T α
  | .ret a => .ret a
  | .bad => .bad
  | .exc _ _ => .bad
  | .draw n k => .draw n fun r => noExc (k r)
def wipeE (ρ : Env') : List Nat → Env'
  | [] => ρ
  | v :: vs => (wipeE ρ vs).set v .un
def froOf : Option Slot → Slot
  | some (.fro t) => .fro t
  | _ => .un
def backE (ρ0 ρ : Env') : List Nat → Env'
  | [] => ρ
  | v :: vs => (backE ρ0 ρ vs).set v (froOf ρ0[v]?)
def lcL (vs : List Nat) (k : GSem) (tt : SemB) (el : Sem) : List AV → List AV → Env' → T (List AV × Env')
  | [], acc, ρ => .ret (acc, ρ)
  | x :: xs, acc, ρ => (noExc ((k x (wipeE ρ vs)).bind fun ρ1 => (tt ρ1).bind fun p => if p.1 then (el p.2).bind fun q => (frz q).bind fun s => .ret (acc ++ [s.1], s.2) else .ret (acc, p.2))).bind fun r => lcL vs k tt el xs r.1 r.2
def nLc (vs : List Nat) (it : SemI) (k : GSem) (tt : SemB) (el : Sem) : SemN := fun ρ => (it ρ).bind fun p => if p.1.length < big then (lcL vs k tt el p.1 [] p.2).bind fun r => .ret (r.1, backE p.2 r.2 vs) else .bad
theorem wipe_get {σ : L2.St} : ∀ {vs : List Nat} {i : Nat}, i ∉ vs → (wipe σ vs)[i]? = σ[i]?
  | [], _, _ => rfl
  | v :: vs, i, h => by
    unfold wipe
    rw [List.getElem?_set_ne (fun e => h (by simp [e]))]
    exact wipe_get fun z => h (List.mem_cons_of_mem _ z)
theorem wipe_none {σ : L2.St} : ∀ {vs : List Nat} {i : Nat}, i ∈ vs → i < σ.length → (wipe σ vs)[i]? = some none
  | [], _, h, _ => by simp at h
  | v :: vs, i, h, hl => by
    unfold wipe
    by_cases e : v = i
    · subst e
      rw [List.getElem?_set_self (by rw [wipe_length]; exact hl)]
    · rw [List.getElem?_set_ne e]
      exact wipe_none ((List.mem_cons.mp h).resolve_left fun z => e z.symm) hl
theorem wipe_agree {σ σ' : L2.St} {is vs : List Nat} (h : Agree is σ σ') (hs : ∀ i ∈ is, i ∈ vs) : wipe σ' vs = wipe σ vs := by
  refine List.ext_getElem? fun i => ?_
  by_cases hi : i ∈ vs
  · by_cases hl : i < σ.length
    · rw [wipe_none hi hl, wipe_none hi (by rw [h.1]; exact hl)]
    · rw [List.getElem?_eq_none (by rw [wipe_length, h.1]; omega), List.getElem?_eq_none (by rw [wipe_length]; omega)]
  · rw [wipe_get hi, wipe_get hi, h.2 i fun z => hi (hs i z)]
theorem wipe_wipe {σ : L2.St} {vs : List Nat} : wipe (wipe σ vs) vs = wipe σ vs :=
  wipe_agree (is := vs) ⟨wipe_length σ vs, fun i h => wipe_get h⟩ fun _ h => h
section
variable {c0 : Gc} {β : BInv} {g : G} {H : Hp} {ρ : Env'} {σ : L2.St}
theorem Rel.drop1 {j : Nat} {σ' : L2.St} (R : Rel c0 β g ρ σ H) (hl : σ'.length = σ.length) (hs : ∀ i, i ≠ j → σ'[i]? = σ[i]?) : Rel c0 β (g.no j) (ρ.set j .un) σ' H := by
  by_cases hj : j < ρ.length
  · refine R.put (ext_no g j H) hl hs hj (fun i hi => own_no_ne hi) (fun _ _ _ _ _ h => h) R.box ?_ fun a h => by rw [own_no] at h; cases h
    rw [own_no]
    rfl
  · have e1 : ρ.set j .un = ρ := set_ge hj
    have e2 : g.no j = g := by
      unfold G.no
      cases g
      congr 1
      funext i
      by_cases h : i = j
      · subst h
        rw [if_pos rfl]
        exact (R.out i (by omega)).symm
      · rw [if_neg h]
    have e3 : σ' = σ := by
      refine List.ext_getElem? fun i => ?_
      by_cases h : i = j
      · subst h
        rw [List.getElem?_eq_none (by rw [hl, R.len]; omega), List.getElem?_eq_none (by rw [R.len]; omega)]
      · exact hs i h
    rw [e1, e2, e3]
    exact R
def G.nos (g : G) : List Nat → G
  | [] => g
  | v :: vs => (g.nos vs).no v
theorem ext_nos (g : G) (H : Hp) : ∀ vs : List Nat, Ext g (g.nos vs) H H
  | [] => .refl g H
  | v :: vs => (ext_nos g H vs).trans (ext_no _ v H)
theorem Rel.wipe (R : Rel c0 β g ρ σ H) : ∀ vs : List Nat, Rel c0 β (g.nos vs) (wipeE ρ vs) (L2.wipe σ vs) H
  | [] => R
  | v :: vs => by
    unfold wipeE L2.wipe
    exact (R.wipe vs).drop1 (List.length_set ..) fun i hi => List.getElem?_set_ne (Ne.symm hi)
theorem Rel.slotFro {j : Nat} (R : Rel c0 β g ρ σ H) : slotOk c0 g H none σ[j]? (froOf ρ[j]?) := by
  cases h : ρ[j]? with
  | none => rfl
  | some s =>
    have q := R.sl j s h
    cases s with
    | fro t => exact ⟨rfl, q.2⟩
    | un => rfl
    | ml xs => rfl
    | md kd kvs => rfl
    | slf c fs => rfl
theorem Rel.back {g' : G} {H' : Hp} {ρ' : Env'} (R : Rel c0 β g ρ σ H) (e : Ext g g' H H') : ∀ (vs : List Nat) (σ' : L2.St), Rel c0 β g' ρ' σ' H' → σ'.length = σ.length → Rel c0 β (g'.nos vs) (backE ρ ρ' vs) (vs.foldr (fun v s => s.set v ((σ[v]?).getD none)) σ') H'
  | [], σ', R', _ => R'
  | v :: vs, σ', R', hl => by
    have ih := R.back e vs σ' R' hl
    have hl2 : (vs.foldr (fun v s => s.set v ((σ[v]?).getD none)) σ').length = σ.length := by
      clear ih
      induction vs with
      | nil => exact hl
      | cons w ws ih2 => rw [List.foldr_cons, List.length_set]; exact ih2
    show Rel c0 β ((g'.nos vs).no v) ((backE ρ ρ' vs).set v (froOf ρ[v]?)) ((vs.foldr (fun v s => s.set v ((σ[v]?).getD none)) σ').set v ((σ[v]?).getD none)) H'
    by_cases hv : v < (backE ρ ρ' vs).length
    · refine ih.put (ext_no _ v H') (List.length_set ..) (fun i hi => List.getElem?_set_ne (Ne.symm hi)) hv (fun i hi => own_no_ne hi) (fun _ _ _ _ _ h => h) ih.box ?_ fun a h => by rw [own_no] at h; cases h
      rw [own_no]
      have hvσ : v < σ.length := by rw [← hl2, ih.len]; exact hv
      rw [List.getElem?_set_self (by rw [hl2]; exact hvσ)]
      have q := R.slotFro (j := v)
      rw [List.getElem?_eq_getElem hvσ] at q ⊢
      exact slotOk_ext ((e.trans (ext_nos g' H' vs)).trans (ext_no _ v H')) (fun a o h _ => by cases h) q
    · have e1 : (backE ρ ρ' vs).set v (froOf ρ[v]?) = backE ρ ρ' vs := set_ge hv
      have e2 : (vs.foldr (fun v s => s.set v ((σ[v]?).getD none)) σ').set v ((σ[v]?).getD none) = vs.foldr (fun v s => s.set v ((σ[v]?).getD none)) σ' := List.set_eq_of_length_le (by rw [ih.len]; omega)
      have e3 : (g'.nos vs).no v = g'.nos vs := by
        unfold G.no
        generalize hg : g'.nos vs = gg
        rw [hg] at ih
        cases gg
        congr 1
        funext i
        by_cases h : i = v
        · subst h
          rw [if_pos rfl]
          exact (ih.out i (by omega)).symm
        · rw [if_neg h]
      rw [e1, e2, e3]
      exact ih
theorem restore_eq {σ : L2.St} : ∀ vs : List Nat, vs.foldr (fun v s => s.set v ((σ[v]?).getD none)) (L2.wipe σ vs) = σ := by
  intro vs
  refine List.ext_getElem? fun i => ?_
  have key : ∀ (ws : List Nat) (τ : L2.St), τ.length = σ.length → (∀ (i : Nat), i ∉ ws → τ[i]? = σ[i]?) → ∀ (i : Nat), (ws.foldr (fun v s => s.set v ((σ[v]?).getD none)) τ)[i]? = σ[i]? ∧ (ws.foldr (fun v s => s.set v ((σ[v]?).getD none)) τ).length = σ.length := by
    intro ws
    induction ws with
    | nil => intro τ hl h i; exact ⟨h i (by simp), hl⟩
    | cons w ws ih =>
      intro τ hl h i
      have lenA : ∀ (us : List Nat), (us.foldr (fun v s => s.set v ((σ[v]?).getD none)) τ).length = σ.length := by
        intro us
        induction us with
        | nil => exact hl
        | cons u us ih2 => rw [List.foldr_cons, List.length_set]; exact ih2
      have gen : ∀ (us : List Nat) (i : Nat), i ∈ us ∨ i ∉ us → (us.foldr (fun v s => s.set v ((σ[v]?).getD none)) τ)[i]? = if i ∈ us then σ[i]? else τ[i]? := by
        intro us
        induction us with
        | nil => intro i _; simp
        | cons u us ih2 =>
          intro i _
          rw [List.foldr_cons]
          by_cases hu : u = i
          · subst hu
            rw [if_pos (by simp)]
            by_cases hlt : u < σ.length
            · rw [List.getElem?_set_self (by rw [lenA]; exact hlt), List.getElem?_eq_getElem hlt]
              rfl
            · rw [List.getElem?_eq_none (by rw [List.length_set, lenA]; omega), List.getElem?_eq_none (by omega)]
          · rw [List.getElem?_set_ne hu, ih2 i (Classical.em _)]
            by_cases hm : i ∈ us
            · rw [if_pos hm, if_pos (List.mem_cons_of_mem _ hm)]
            · rw [if_neg hm, if_neg (fun z => (List.mem_cons.mp z).elim (fun e => hu e.symm) hm)]
      refine ⟨?_, lenA _⟩
      rw [gen _ i (Classical.em _)]
      by_cases hm : i ∈ w :: ws
      · rw [if_pos hm]
      · rw [if_neg hm]
        exact h i hm
  exact (key vs (L2.wipe σ vs) (wipe_length σ vs) (fun i h => wipe_get h) i).1
theorem nos_av {g : G} {a : Addr} : ∀ {vs : List Nat}, (g.nos vs).Av a → g.Av a
  | [], h => h
  | v :: vs, h => by
    refine nos_av (vs := vs) ?_
    rcases h with h | ⟨i, h⟩ | h
    · exact .inl h
    · unfold G.nos G.no at h
      simp only at h
      split at h
      · cases h
      · exact .inr (.inl ⟨i, h⟩)
    · exact .inr (.inr h)
theorem nos_M {g : G} : ∀ vs : List Nat, (g.nos vs).M = g.M
  | [] => rfl
  | v :: vs => by unfold G.nos G.no; exact nos_M vs
end
section
variable {c0 : Gc} {β : BInv} {g g' : G} {H H' : Hp} {ρ : Env'} {σ : L2.St} {D : Addr}
theorem rep_updD {o : HO} {t : AV} {v : V} (hM : g.M D) (h : RepG c0 g (upd H D o) t v) : RepG c0 g H t v := h.imp (fun a ob q na => ⟨by
  by_cases e : a = D
  · subst e; exact absurd (.inl hM) na
  · rw [upd_ne e] at q; exact q, na⟩) fun _ h => h
theorem upd_av {o : HO} (hM : g.M D) : ∀ (a : Addr) (ob : HO), H a = some ob → ¬ g.Av a → upd H D o a = some ob ∧ ¬ g.Av a := fun a ob q na => ⟨by
  by_cases e : a = D
  · subst e; exact absurd (.inl hM) na
  · rw [upd_ne e]; exact q, na⟩
theorem rep_updL {o : HO} {t : List AV} {v : List V} (hM : g.M D) (h : RepsG c0 g H t v) : RepsG c0 g (upd H D o) t v := h.imp (upd_av hM) fun _ h => h
theorem Rel.updM {o : HO} (R : Rel c0 β g ρ σ H) (hM : g.M D) (ht : ∀ ws, o ≠ .tup ws := by exact fun _ z => by cases z) : Rel c0 β g ρ σ (L2.upd H D o) where
  len := R.len
  sl := fun i s hs => by
    have q := R.sl i s hs
    have hi := upd_av (H := H) (o := o) hM
    have hp : ∀ (p : Addr) (ob : HO), g.own i = some p → H p = some ob → L2.upd H D o p = some ob := fun p ob h1 h2 => by
      rw [upd_ne (fun e => (R.sep i p h1).1 (by rw [e]; exact hM))]; exact h2
    cases s with
    | un => exact q
    | fro t => obtain ⟨a, v, b, c⟩ := q; exact ⟨a, v, b, Rep.imp hi (fun _ h => h) c⟩
    | ml xs => obtain ⟨p, vs, e1, e2, e3, e4⟩ := q; exact ⟨p, vs, e1, e2, hp p _ e1 e3, RepL.imp hi (fun _ h => h) e4⟩
    | md kd kvs =>
      obtain ⟨p, ws, e1, e2, e3, e4⟩ := q
      refine ⟨p, ws, e1, e2, e3.imp hi fun _ h => h, ?_⟩
      rcases e4 with ⟨us, e4, e5⟩ | ⟨us, e4, e5⟩
      · exact .inl ⟨us, hp p _ e1 e4, e5⟩
      · exact .inr ⟨us, hp p _ e1 e4, e5⟩
    | slf c fs => obtain ⟨p, C, dx, vs, e1, e2, e3, e4, e5, e6, e7⟩ := q; exact ⟨p, C, dx, vs, e1, e2, e3, hp p _ e1 e4, e5, RepL.imp hi (fun _ h => h) e6, e7⟩
  out := R.out
  inj := R.inj
  alive := fun b h => by
    by_cases e : b = D
    · rw [e, upd_same]; exact fun z => by cases z
    · rw [upd_ne e]; exact R.alive b h
  nt := fun b h vs z => by
    by_cases e : b = D
    · rw [e, upd_same] at z; cases z; exact ht vs rfl
    · rw [upd_ne e] at z; exact R.nt b h vs z
  sep := R.sep
  mb := R.mb
  box := β.frame R.box fun b h => by rw [upd_ne (fun e => R.mb D hM (by rw [← e]; exact h))]
theorem ext_updB {o : HO} (e : Ext g g' H H') (hD : H D ≠ none) : Ext g g' (upd H D o) (upd H' D o) where
  keep := fun a ob h h1 h2 => by
    by_cases ea : a = D
    · rw [ea, upd_same] at h ⊢; exact h
    · rw [upd_ne ea] at h ⊢; exact e.keep a ob h h1 h2
  live := fun a h => by
    by_cases ea : a = D
    · rw [ea, upd_same]; exact fun z => by cases z
    · rw [upd_ne ea] at h ⊢; exact e.live a h
  m := e.m
  bsub := e.bsub
  bnew := fun a h => (e.bnew a h).imp id fun z => by rw [upd_ne (fun ea => hD (by rw [← ea]; exact z))]; exact z
  dsub := e.dsub
  own := fun i a h => (e.own i a h).imp id fun z => by rw [upd_ne (fun ea => hD (by rw [← ea]; exact z))]; exact z
  s := e.s
theorem ext_of_plusD {H1 : Hp} (e : Ext (g.plus D) g' (upd H1 D (.lst [])) (upd H' D (.lst []))) (hl : H' D ≠ none) (nD : H1 D = none) : Ext g (g'.setM g.M) H1 H' where
  keep := fun a o h h1 h2 => by
    have ne : a ≠ D := fun ea => by rw [ea, nD] at h; cases h
    have q := e.keep a o (by rw [upd_ne ne]; exact h) h1 h2
    rw [upd_ne ne] at q
    exact q
  live := fun a h => by
    by_cases ea : a = D
    · rw [ea]; exact hl
    · have q := e.live a (by rw [upd_ne ea]; exact h)
      rw [upd_ne ea] at q
      exact q
  m := rfl
  bsub := e.bsub
  bnew := fun a h => (e.bnew a h).imp id fun z => by
    by_cases ea : a = D
    · rw [ea]; exact nD
    · rw [upd_ne ea] at z; exact z
  dsub := e.dsub
  own := fun i a h => (e.own i a h).imp id fun z => by
    by_cases ea : a = D
    · rw [ea]; exact nD
    · rw [upd_ne ea] at z; exact z
  s := e.s
theorem nos_plus {H1 : Hp} (e : g'.M = (g.plus D).M) (vs : List Nat) : ((g'.setM g.M).nos vs).plus D = g'.nos vs := by
  have h1 : ∀ vs : List Nat, ((g'.setM g.M).nos vs).own = (g'.nos vs).own ∧ ((g'.setM g.M).nos vs).B = (g'.nos vs).B ∧ ((g'.setM g.M).nos vs).D = (g'.nos vs).D ∧ ((g'.setM g.M).nos vs).S = (g'.nos vs).S := by
    intro vs
    induction vs with
    | nil => exact ⟨rfl, rfl, rfl, rfl⟩
    | cons v vs ih =>
      unfold G.nos G.no
      exact ⟨by simp only [ih.1], ih.2.1, ih.2.2.1, ih.2.2.2⟩
  obtain ⟨h1, h2, h3, h6⟩ := h1 vs
  have h4 : ((g'.setM g.M).nos vs).M = g.M := nos_M vs
  have h5 : (g'.nos vs).M = (g.plus D).M := (nos_M vs).trans e
  generalize (g'.setM g.M).nos vs = x at *
  generalize g'.nos vs = y at *
  cases x
  cases y
  simp only at h1 h2 h3 h4 h5 h6
  subst h1 h2 h3 h4 h5 h6
  rfl
theorem backE_set {ρ0 : Env'} : ∀ (vs : List Nat) (ρ : Env') (w : Nat) (s : Slot), w ∈ vs → backE ρ0 (ρ.set w s) vs = backE ρ0 ρ vs
  | [], _, _, _, h => by simp at h
  | v :: vs, ρ, w, s, h => by
    unfold backE
    by_cases hw : w ∈ vs
    · rw [backE_set vs ρ w s hw]
    · have e : w = v := (List.mem_cons.mp h).resolve_right hw
      subst e
      have out : ∀ (us : List Nat) (ρ : Env'), w ∉ us → backE ρ0 (ρ.set w s) us = (backE ρ0 ρ us).set w s := by
        intro us
        induction us with
        | nil => intro ρ _; rfl
        | cons u us ih =>
          intro ρ hu
          unfold backE
          rw [ih ρ fun z => hu (List.mem_cons_of_mem _ z), List.set_comm _ _ (fun e => hu (by simp [e]))]
      rw [out vs ρ hw, List.set_set]
theorem backE_wipe {ρ0 : Env'} (vs : List Nat) (ρ : Env') : backE ρ0 (wipeE ρ vs) vs = backE ρ0 ρ vs := by
  have gen : ∀ us : List Nat, (∀ u ∈ us, u ∈ vs) → backE ρ0 (wipeE ρ us) vs = backE ρ0 ρ vs := by
    intro us
    induction us with
    | nil => intro _; rfl
    | cons u us ih =>
      intro h
      unfold wipeE
      rw [backE_set vs _ u _ (h u (by simp)), ih fun w hw => h w (List.mem_cons_of_mem _ hw)]
  exact gen vs fun _ h => h
theorem Rel.backD {g0 : G} {H0 : Hp} {σ' : L2.St} {ρ' : Env'} {o : HO} (R : Rel c0 β g0 ρ σ (L2.upd H0 D o)) (e : Ext g0 g' (L2.upd H0 D o) (L2.upd H' D o)) (R' : Rel c0 β g' ρ' σ' H') (hl : σ'.length = σ.length) (vs : List Nat) (hM : g'.M D) (ho : H' D ≠ none) (ht : ∀ ws, o ≠ .tup ws := by exact fun _ z => by cases z) :
    Rel c0 β (g'.nos vs) (backE ρ ρ' vs) (vs.foldr (fun v s => s.set v ((σ[v]?).getD none)) σ') H' := by
  have h1 := R.back e vs σ' (R'.updM hM ht) hl
  cases q : H' D with
  | none => exact absurd q ho
  | some ob =>
    have h2 := h1.updM (D := D) (o := ob) (by rw [nos_M]; exact hM) (fun ws z => R'.nt D hM ws (by rw [q, z]))
    rw [upd_upd] at h2
    have e : L2.upd H' D ob = H' := by
      funext b
      by_cases hb : b = D
      · subst hb; rw [upd_same, q]
      · rw [upd_ne hb]
    rw [e] at h2
    exact h2
def okD {α : Type} (D : Addr) (g : G) (H : Hp) (m : T α) (Q : G → Hp → α → Prop) : Prop := m.all (fun a => ∀ g' H', Ext g g' (upd H D (.lst [])) (upd H' D (.lst [])) → Q g' H' a) fun _ _ => False
def NoE {α : Type} (m : T α) : Prop := ∀ (Q : α → Prop) (E : Nat → List AV → Prop), m.all Q E → m.all Q fun _ _ => False
theorem noE_noExc {α : Type} (m : T α) : NoE (noExc m) := by
  intro Q E h
  induction m with
  | ret a => exact h
  | bad => exact h
  | exc c xs => exact h
  | draw n k ih => exact fun r hr => ih r (h r hr)
theorem NoE.bind {α γ : Type} {m : T α} {k : α → T γ} (h : NoE m) (hk : ∀ a, NoE (k a)) : NoE (m.bind k) := fun Q E q =>
  T.all_bind.mpr (T.all_mono (h _ _ (T.all_bind.mp q)) (fun a q => hk a Q E q) fun _ _ z => z)
theorem noE_ret {α : Type} (a : α) : NoE (T.ret a) := fun _ _ h => h
theorem lcL_noExc (vs : List Nat) (k : GSem) (tt : SemB) (el : Sem) : ∀ (xs acc : List AV) (ρ : Env'), NoE (lcL vs k tt el xs acc ρ)
  | [], _, _ => noE_ret _
  | _ :: xs, _, _ => (noE_noExc _).bind fun r => lcL_noExc vs k tt el xs r.1 r.2
theorem okD_of {Ex : XK} {α γ : Type} {g1 : G} {H1 : Hp} {m : T α} {k : α → T γ} {Q : G → Hp → γ → Prop} {R : G → Hp → α → Prop} (hn : NoE m) (h : okT c0 β Ex g H (m.bind k) Q)
    (hR : ∀ a, okT c0 β Ex g H (k a) Q → ∀ g' H', Ext g1 g' (upd H1 D (.lst [])) (upd H' D (.lst [])) → R g' H' a) : okD D g1 H1 m R :=
  T.all_mono (hn _ _ (T.all_bind.mp h)) (fun a q => hR a q) fun _ _ z => z
theorem okD_ext {α : Type} {g2 : G} {H2 : Hp} {m : T α} {Q : G → Hp → α → Prop} (h : okD D g H m Q) (e : Ext g g2 (upd H D (.lst [])) (upd H2 D (.lst []))) : okD D g2 H2 m Q :=
  T.all_mono h (fun a q g' H' e' => q g' H' (e.trans e')) fun _ _ z => z
theorem okD_ret {α : Type} {a : α} {Q : G → Hp → α → Prop} (h : okD D g H (.ret a) Q) : Q g H a := h g H (Ext.refl _ _)
theorem okT_of_noExc {Ex : XK} {α : Type} {m : T α} {Q : α → Prop} (h : (noExc m).all Q fun _ _ => False) {R : G → Hp → α → Prop} (hR : ∀ a, Q a → ∀ g' H', Ext g g' H H' → R g' H' a) : okT c0 β Ex g H m R := by
  induction m with
  | ret a => exact hR a h
  | bad => exact h
  | exc c xs => exact (show False from h).elim
  | draw n k ih => exact fun r hr => ih r (h r hr)
theorem okD_turn {Ex : XK} {α γ : Type} {m : T α} {k : α → T γ} {Q : G → Hp → γ → Prop} (h : okD D g H ((noExc m).bind k) Q) (hD : H D ≠ none) : okT c0 β Ex g H m fun g' H' a => okD D g' H' (k a) Q :=
  okT_of_noExc (T.all_bind.mp h) fun a q g' H' e => T.all_mono q (fun b q g2 H2 e2 => q g2 H2 ((ext_updB e hD).trans e2)) fun _ _ z => z
end
def JTs (X : Cx) (ct : CT) (β : BInv) (Ex : XK) (e : List Expr) (f : SemB) : Prop := PTs X e (rdB (gc X ct) β Ex f)
def fYes : SemB := fun ρ => .ret (true, ρ)
section
variable {X : Cx} {ct : CT} {β : BInv} {Ex : XK} {a c elt tg iter : Expr} {ifs : List Expr} {f : SemI} {k : GSem} {tt : SemB} {el : Sem} {pos : Pos} {scope : Scope} {own : List (Str × Nat)} {is : List Nat}
theorem jts_nil : JTs X ct β Ex [] fYes := ⟨fun pins s σ H Q I h => pts_nil.run pins s σ H Q I (by
  obtain ⟨g, ρ, R, h⟩ := h
  exact okT_ret h R)⟩
theorem jts_one (h : JT X ct β Ex c tt) : JTs X ct β Ex [c] tt := ⟨fun pins s σ H Q I q => (pts_one h).run pins s σ H Q I q⟩
theorem lc_ok {σ : L2.St} {H : Hp} {Q : VK} {vs : List Nat} (hown : ∀ i ∈ is, i ∈ vs) (h : rdN (gc X ct) β Ex (nLc vs f k tt el) σ H Q) : tLc (rdI (gc X ct) β Ex f) (rdG (gc X ct) β E0 is k) (rdB (gc X ct) β E0 tt) (rdE (gc X ct) β E0 el) vs σ H Q := by
  obtain ⟨g, ρ, R, h⟩ := h
  refine ⟨g, ρ, R, okT_bind0 h fun p q g1 H1 e1 J R1 wk D nD => ?_⟩
  obtain ⟨xs, ρ1⟩ := p
  have sD := same_upd (o := .lst []) nD
  have lD : (upd H1 D (.lst [])) D ≠ none := by rw [upd_same]; exact fun z => by cases z
  by_cases hbig : xs.length < big
  · have q : okT (gc X ct) β Ex g H ((lcL vs k tt el xs [] ρ1).bind fun r => .ret (r.1, backE ρ1 r.2 vs)) fun g' H' p => ∀ a vs, H a = none → ¬ g'.Av a → H' a = some (.lst vs) → Rel (gc X ct) β (g'.plus a) p.2 σ H' → RepsG (gc X ct) (g'.plus a) H' p.1 vs → Q (.ref a) H' := by
      have q' : okT (gc X ct) β Ex g H (if xs.length < big then _ else _) _ := q
      rw [if_pos hbig] at q'
      exact q'
    have RD : Rel (gc X ct) β (g1.plus D) ρ1 σ (upd H1 D (.lst [])) := R1.plus sD nD lD
    -- what the end asks, from the block's own point of view
    have start : okD D (g1.plus D) (upd H1 D (.lst [])) (lcL vs k tt el xs [] ρ1) (fun g' H' r => ∀ ws', H' D = some (.lst ws') → Rel (gc X ct) β g' (wipeE r.2 vs) (wipe σ vs) H' → RepsG (gc X ct) g' H' r.1 ws' → Q (.ref D) H') := by
      refine okD_of (lcL_noExc vs k tt el xs [] ρ1) q fun r hr g' H' e ws' hw R' r' => ?_
      have e := (show Ext (g1.plus D) g' (upd H1 D (.lst [])) (upd H' D (.lst [])) by rw [upd_upd] at e; exact e)
      have hl' : H' D ≠ none := by rw [hw]; exact fun z => by cases z
      have M' : g'.M D := by rw [e.m]; exact .inr rfl
      have e' : Ext g1 (g'.setM g1.M) H1 H' := ext_of_plusD e hl' nD
      have e2 : Ext g ((g'.setM g1.M).nos vs) H H' := (e1.trans e').trans (ext_nos _ _ vs)
      have gp : ((g'.setM g1.M).nos vs).plus D = g'.nos vs := nos_plus (H1 := H1) e.m vs
      refine okT_ret' hr e2 D ws' (none_back e1 nD) (fun z => ?_) hw ?_ ?_
      · rcases nos_av z with z | ⟨i, z⟩ | z
        · exact R1.alive D z nD
        · rcases e.own i D z with ⟨j, hj⟩ | hj
          · exact R1.ownLive (i := j) hj nD
          · exact lD hj
        · rcases e.bnew D z with z | z
          · exact β.live R1.box z nD
          · exact lD z
      · rw [gp]
        have hb := RD.backD e R' (wipe_length σ vs) vs M' hl'
        rw [restore_eq, backE_wipe] at hb
        exact hb
      · rw [gp]
        exact (ext_nos g' H' vs).reps r'
    refine ⟨fun i m H2 => m = xs.length - i ∧ i ≤ xs.length ∧ ∃ g2 ρ2 acc ws, Ext (g1.plus D) g2 (upd H1 D (.lst [])) (upd H2 D (.lst [])) ∧ Rel (gc X ct) β g2 (wipeE ρ2 vs) (wipe σ vs) H2 ∧ H2 D = some (.lst ws) ∧ RepsG (gc X ct) g2 H2 acc ws ∧ acc.length ≤ i ∧
      okD D g2 H2 (lcL vs k tt el (xs.drop i) acc ρ2) (fun g' H' r => ∀ ws', H' D = some (.lst ws') → Rel (gc X ct) β g' (wipeE r.2 vs) (wipe σ vs) H' → RepsG (gc X ct) g' H' r.1 ws' → Q (.ref D) H'),
      ⟨xs.length, by simp, Nat.zero_le _, (g1.plus D).nos vs, ρ1, [], [], by rw [upd_upd]; exact ext_nos _ _ vs, RD.wipe vs, upd_same, .nil, Nat.le_refl _, okD_ext start (by rw [upd_upd]; exact ext_nos _ _ vs)⟩, ?_⟩
    rintro i m H2 ⟨rfl, hi, g2, ρ2, acc, ws, e2, R2, hw, ra, hlen, h2⟩
    have M2 : g2.M D := by rw [e2.m]; exact .inr rfl
    have kp : Keeps (gc X ct) g1 g2 H1 H2 := fun t v r => rep_updD M2 (e2.rep (rep_plus r sD nD))
    by_cases hlt : i < xs.length
    · refine .inr ⟨wk.go _ _ _ kp hlt, _, fun H' n => ⟨xs.length - (i + 1), by omega, n⟩, fun x H3 hy => ?_⟩
      have ex : xs[i]? = some xs[i] := List.getElem?_eq_getElem hlt
      obtain ⟨sm, rx⟩ := wk.yld _ _ _ _ _ _ kp (fun _ h => R2.avLive h) ex hy
      rw [List.drop_eq_getElem_cons hlt] at h2
      have hD2 : H2 D ≠ none := by rw [hw]; exact fun z => by cases z
      have hD3 : H3 D = some (.lst ws) := sm D _ hw
      have hD3' : H3 D ≠ none := by rw [hD3]; exact fun z => by cases z
      have h3 := okD_turn (c0 := gc X ct) (β := β) (Ex := E0) (okD_ext h2 (ext_updB (Ext.same sm) hD2)) hD3'
      refine ⟨g2, wipeE ρ2 vs, xs[i], R2.same sm, rx, okT_mono (okT_bind h3) fun g4 H4 ρ4 e4 h4 σ4 ag R4 => ⟨(wipe_agree ag hown).trans wipe_wipe, g4, ρ4, R4, okT_mono (okT_bind h4) fun g5 H5 p e5 h5 R5 => ?_⟩⟩
      have e35 : Ext g2 g5 H3 H5 := e4.trans e5
      have eD : ∀ {g6 : G} {H6 : Hp}, Ext g2 g6 H3 H6 → H6 D = some (.lst ws) := fun e => e.keep D _ hD3 (fun i z => (R2.sep i D z).1 M2) (R2.mb D M2)
      have eT : ∀ {g6 : G} {H6 : Hp} (o : HO), Ext g2 g6 H3 H6 → Ext (g1.plus D) g6 (upd H1 D (.lst [])) (upd (upd H6 D o) D (.lst [])) := fun {g6 H6} o e => by
        rw [upd_upd]
        exact e2.trans ((ext_updB (Ext.same sm) hD2).trans (ext_updB e hD3'))
      by_cases hp : p.1 = true
      · dsimp only
        rw [if_pos hp] at h5 ⊢
        refine ⟨g5, p.2, R5, okT_mono (okT_bind h5) fun g6 H6 s e6 h6 y R6 ry => ?_⟩
        obtain ⟨g7, z, e7, R7, rz, h7⟩ := frz_ok R6 ry h6
        have e37 : Ext g2 g7 H3 H6 := (e35.trans e6).trans e7
        have M7 : g7.M D := by rw [e37.m]; exact M2
        refine ⟨ws, eD e37, ?_, rfl, hlt, g7.nos vs, z.2, acc ++ [z.1], ws ++ [y], (eT _ e37).trans (ext_nos _ _ vs), ?_, upd_same, ?_, by rw [List.length_append]; simp; omega, ?_⟩
        · have := ra.length
          have := big_line
          omega
        · have R8 := (R7.updM (o := .lst (ws ++ [y])) M7).wipe vs
          rw [wipe_agree ag hown, wipe_wipe] at R8
          exact R8
        · exact (ext_nos g7 _ vs).reps (rep_updL M7 ((((Ext.same sm).trans e37).reps ra).append (.one rz)))
        · exact okD_ext (okT_ret h7) (by rw [upd_upd]; exact ext_nos _ _ vs)
      · dsimp only
        rw [if_neg hp] at h5 ⊢
        refine ⟨rfl, hlt, g5.nos vs, p.2, acc, ws, ?_, ?_, eD e35, ?_, by omega, ?_⟩
        · have := eT (.lst ws) e35
          rw [upd_upd] at this
          exact this.trans (ext_nos _ _ vs)
        · have R8 := R5.wipe vs
          rw [wipe_agree ag hown, wipe_wipe] at R8
          exact R8
        · exact (ext_nos g5 _ vs).reps (((Ext.same sm).trans e35).reps ra)
        · exact okD_ext (okT_ret h5) (ext_nos _ _ vs)
    · have e : i = xs.length := by omega
      subst e
      rw [List.drop_length] at h2
      exact .inl ⟨wk.stop _ _ _ kp (Nat.le_refl _), okD_ret h2 ws hw R2 ra⟩
  · have q' : okT (gc X ct) β Ex g H (if xs.length < big then _ else _) _ := q
    rw [if_neg hbig] at q'
    exact (show False from q').elim
theorem jn_lc (hc : X.calm = true) (hN : X.N.Nodup) (ok : BlkOk X.N X.env.scope scope own) (hown : ∀ i ∈ is, i ∈ own.map (·.2)) (hi : JI X ct β Ex tg iter f)
    (hg : ∀ (s : Shared) (H : Hp) (C : Addr) (cl : List (Str × Addr)) (fp : List Addr), JG (X.blk s H scope (compEnvC scope cl C X.env) fp) ct β E0 tg is k) (ht : ∀ (s : Shared) (H : Hp) (C : Addr) (cl : List (Str × Addr)) (fp : List Addr), JTs (X.blk s H scope (compEnvC scope cl C X.env) fp) ct β E0 ifs tt)
    (he : ∀ (s : Shared) (H : Hp) (C : Addr) (cl : List (Str × Addr)) (fp : List Addr), JE (X.blk s H scope (compEnvC scope cl C X.env) fp) ct β E0 elt el) (hs : ∀ x, foldedSetIterable iter X.env x = pure x := by intro _; rfl) :
    JN X ct β Ex (.ListComp elt [⟨tg, iter, ifs, 0⟩] scope pos) (nLc (own.map (·.2)) f k tt el) := by
  exact PE.imp (pe_lc (g := rdG (gc X ct) β E0 is k) (tt := rdB (gc X ct) β E0 tt) (te := rdE (gc X ct) β E0 el) hc hN hi ok hg ht he hs) fun σ H Q h => lc_ok hown h
end
end Dn
set_option Elab.async false
set_option linter.all false
set_option maxRecDepth 100000
namespace PySem
namespace TrS
open PySem PySem.Spec PyProof.Rows SrtO
section
variable {prog : Program} {w : World} {A : Around} {E : Value → Shared → Prop} {s : Shared}
theorem collect_tup {t : Addr} {us : List Value} {Q : List Value → Shared → Prop} (ht : s.heap.IsTuple t us.toArray) (hz : us.length ≤ sizeLine)
    (hQ : Q us { s with heap := (s.heap.push (seqObj "list" #[] 0)).update s.heap.objs.size (Obj.mapSeq (· ++ us.toArray)) }) : wpAny (model prog w) A (collect (.ref t)) Q E s := by
  obtain ⟨o, ho, hc, n, hd⟩ := ht
  have ho2 : (s.heap.push (seqObj "list" #[] 0)).get? t = some o := Heap.get?_push_of_some _ ho
  have hn : (s.heap.push (seqObj "list" #[] 0)).get? s.heap.objs.size = some (seqObj "list" #[] 0) := Heap.get?_push_size _ rfl
  have two : (Value.type "tuple" == Value.type "list") = false := by decide +kernel
  have one : (Value.type "tuple" == Value.type "tuple") = true := by rfl
  have room : (#[] ++ us.toArray).size ≤ sizeLine + 1 := by
    simp only [Array.size_append, List.size_toArray, List.length_nil]
    omega
  unfold collect
  apply wpAny_bind
  apply wpAny_runValue
  apply codeAny_builtin entry_proto_collect'
  show wpAny _ _ (do again (.builtin "list.__iadd__" ⟨[← newList [], .ref t], []⟩)) _ _ s
  apply wpAny_bind
  refine wpAny_newList ?_ (Nat.zero_le _)
  refine wpAny_pure ⟨Code.quiet_builtin _ (by decide +kernel), codeAny_builtin entry_list_iadd' ?_⟩
  show wpAny _ _ (Builtin.List.listExtendWith (.ref s.heap.objs.size) (.ref t) (.ref s.heap.objs.size)) _ _ { s with heap := s.heap.push (seqObj "list" #[] 0) }
  unfold Builtin.List.listExtendWith
  apply wpAny_bind
  refine wpAny_typeOf (T := "tuple") ⟨o, ho2, hc⟩ ?_
  rw [if_pos (by rw [two, one]; simp)]
  apply wpAny_bind
  apply listItems_at ho2 hd
  apply wpAny_bind
  apply listItems_at (xs := #[]) (n := 0) hn rfl
  rw [if_neg (by simp)]
  apply wpAny_bind
  refine listUpdate_at (xs := #[]) (n := 0) hn rfl ?_ (Nat.zero_le _) room
  apply wpAny_pure
  show wpAny (model prog w) A (do
      match (← load s.heap.objs.size).data with
      | .seq xs _ => pure xs.toList
      | _ => unsupported "internal:collect") Q E { s with heap := (s.heap.push (seqObj "list" #[] 0)).update s.heap.objs.size (Obj.mapSeq (· ++ us.toArray)) }
  apply wpAny_bind
  apply wpAny_load (get?_update_seq hn _)
  show wpAny _ _ (pure ((#[] : Array Value) ++ us.toArray).toList) Q E _
  rw [show ((#[] : Array Value) ++ us.toArray).toList = us by simp]
  exact wpAny_pure hQ
theorem sorted_tup {t : Addr} {us : List Value} {lt : Value → Value → Bool} {Q : Value → Shared → Prop} (O : Swo lt) (ht : s.heap.IsTuple t us.toArray) (hz : us.length ≤ sizeLine)
    (hS : 2 ≤ us.length → ∀ (h₁ : Heap) (a : Addr), SortableO prog w A.in1.in1 { s with heap := h₁ } a us lt)
    (hQ : ∀ out : List Value, Srtd lt out → Stb lt out us → Q (.ref (s.heap.objs.size + 1)) { s with heap := sortedAll s.heap us out.toArray }) : wpAny (model prog w) A (call (.builtin "sorted") [.ref t]) Q E s := by
  apply Calls.call_function_entry kind_sorted plain_sorted entry_sorted (args_sorted1 _)
  unfold Builtin.«sorted»
  apply wpAny_bind (m := checkCount "sorted" 1 1 _)
  apply wpAny_pure
  apply wpAny_bind
  apply collect_tup ht hz
  apply wpAny_bind
  refine wpAny_newList ?_ hz
  have n1 : ((s.heap.push (seqObj "list" #[] 0)).update s.heap.objs.size (Obj.mapSeq (· ++ us.toArray))).objs.size = s.heap.objs.size + 1 := by rw [Heap.size_update, size_push']
  have at1 : (((s.heap.push (seqObj "list" #[] 0)).update s.heap.objs.size (Obj.mapSeq (· ++ us.toArray))).push (seqObj "list" us.toArray 0)).get? (s.heap.objs.size + 1) = some (seqObj "list" us.toArray 0) := by
    rw [← n1]
    exact Heap.get?_push_size _ rfl
  show wpAny _ _ _ _ _ { s with heap := ((s.heap.push (seqObj "list" #[] 0)).update s.heap.objs.size (Obj.mapSeq (· ++ us.toArray))).push (seqObj "list" us.toArray 0) }
  rw [n1]
  apply wpAny_bind
  apply wpAny_holding
  refine wpAny_call_entry slot_list_sort ⟨_, at1, rfl⟩ entry_list_sort (list_sort_ord O at1 hz (fun h2 => hS h2 _ _) fun out hs hb => ⟨_, rfl, ?_⟩) (args_list_sort _)
  exact wpAny_pure ⟨_, rfl, hQ out hs hb⟩
end
end TrS
end PySem
namespace Dn
open PySem PySem.Spec PyProof.Rows L2
def ins (x : Int) : List Int → List Int
  | [] => [x]
  | y :: r => if x ≤ y then x :: y :: r else y :: ins x r
def isort : List Int → List Int
  | [] => []
  | x :: r => ins x (isort r)
theorem ins_perm (x : Int) : ∀ l : List Int, (ins x l).Perm (x :: l)
  | [] => List.Perm.refl _
  | y :: r => by
    unfold ins
    split
    · exact List.Perm.refl _
    · exact (List.Perm.cons y (ins_perm x r)).trans (List.Perm.swap x y r)
theorem isort_perm : ∀ l : List Int, (isort l).Perm l
  | [] => List.Perm.refl _
  | x :: r => (ins_perm x (isort r)).trans (List.Perm.cons x (isort_perm r))
theorem ins_sorted (x : Int) : ∀ {l : List Int}, l.Pairwise (· ≤ ·) → (ins x l).Pairwise (· ≤ ·)
  | [], _ => List.pairwise_singleton _ _
  | y :: r, h => by
    have h1 := List.pairwise_cons.mp h
    unfold ins
    split
    · rename_i hx
      refine List.pairwise_cons.mpr ⟨fun z hz => ?_, h⟩
      rcases List.mem_cons.mp hz with e | e
      · rw [e]
        exact hx
      · exact Int.le_trans hx (h1.1 z e)
    · rename_i hx
      refine List.pairwise_cons.mpr ⟨fun z hz => ?_, ins_sorted x h1.2⟩
      rcases List.mem_cons.mp ((ins_perm x r).mem_iff.mp hz) with e | e
      · rw [e]
        omega
      · exact h1.1 z e
theorem isort_sorted : ∀ l : List Int, (isort l).Pairwise (· ≤ ·)
  | [] => List.Pairwise.nil
  | x :: r => ins_sorted x (isort_sorted r)
theorem isort_uniq : ∀ {l m : List Int}, l.Perm m → l.Pairwise (· ≤ ·) → m.Pairwise (· ≤ ·) → l = m
  | [], m, p, _, _ => by rw [List.nil_perm] at p; exact p.symm
  | x :: l, [], p, _, _ => by rw [List.perm_nil] at p; exact p
  | x :: l, y :: m, p, h1, h2 => by
    have a := List.pairwise_cons.mp h1
    have b := List.pairwise_cons.mp h2
    have e : x = y := by
      have hx := p.mem_iff.mp (List.mem_cons_self (a := x) (l := l))
      have hy := p.mem_iff.mpr (List.mem_cons_self (a := y) (l := m))
      rcases List.mem_cons.mp hx with e | e
      · exact e
      · rcases List.mem_cons.mp hy with e' | e'
        · exact e'.symm
        · have := a.1 y e'
          have := b.1 x e
          omega
    subst e
    rw [isort_uniq p.cons_inv a.2 b.2]
theorem cr_sortedT {X : Cx} : CallR X (.builtin "sorted") (fun vs H Q => ∃ (a : Addr) (ns : List Int), vs = [V.ref a] ∧ SqT X.K H a (ns.map V.int) ∧ ∀ (ns' : List Int) (p : Addr), ns'.Perm ns → ns'.Pairwise (· ≤ ·) → H p = none → Q (.ref p) (upd H p (.lst (ns'.map V.int)))) := by
  intro pins s σ H vs us Q I r h
  obtain ⟨a, ns, rfl, hs, q⟩ := h
  obtain ⟨its, rv, ht, hz⟩ := I.tuple hs
  rw [Vals.ref1 r]
  have hi := rv.ints
  have hlz : its.length ≤ sizeLine := by
    rw [← rv.length]
    exact hz
  refine PySem.TrS.sorted_tup SrtO.swo_int (show s.heap.IsTuple a its.toArray from ht) hlz (fun h2 h₁ a' => SrtO.ints_sortable hi h2) fun out h1 h2 => ?_
  obtain ⟨k1, k2, k3⟩ := SrtO.ints_out hi h1 h2
  obtain ⟨ep, at1⟩ := PyProof.Rows.sortedAll_at s.heap its out.toArray
  have hl : ((out.map SrtO.iv).map V.int).length ≤ sizeLine := by
    have z := hz
    rw [List.length_map] at z ⊢
    rw [k2.length_eq]
    exact z
  have J : L2.Inv X pins σ (upd H (s.heap.objs.size + 1) (.lst ((out.map SrtO.iv).map V.int))) { s with heap := sortedAll s.heap its out.toArray } := I.laid (t' := s.toks) (fun _ _ => PyProof.Rows.sortedAll_old (vs := its) (out := out.toArray)) (Nat.le_succ _) ⟨hl, out, ep, vals_of_ints k1, at1⟩
  exact ⟨.ref _, upd H (s.heap.objs.size + 1) (.lst ((out.map SrtO.iv).map V.int)), J, rfl, q _ _ k2 k3 (I.hok.fresh (Nat.le_succ _))⟩
def tLenSetT (K : PySem.W.Frag) (ta : TE) : TE := fun σ H Q => ta σ H fun x H1 => ∃ (l : Addr) (ns : List Int), x = .ref l ∧ SqT K H1 l (ns.map V.int) ∧ ns.Nodup ∧ ns.length ≤ 1000 ∧ Q (.int (ns.length : Nat)) H1
def rLenOwn (C : Addr) (sp : Sp) (E : XK) : List V → Hp → VK → Prop := fun xs H Q => ∃ a dx fs, xs = [V.ref a] ∧ H a = some (.ins C dx fs) ∧ sp [.ref a] H (fun z H' => ∃ i, z = .int i ∧ (0 ≤ i ∧ i < 2 ^ 63) ∧ Q (.int i) H') E
def tyName : AV → Option String
  | .non => some "NoneType"
  | .bl _ => some "bool"
  | .int _ => some "int"
  | .str _ => some "str"
  | .tup _ => some "tuple"
  | .lst _ => some "list"
  | _ => none
def subTy (t u : String) : Bool := t == u || (t == "bool" && u == "int")
def pIsi (u : String) (a : AV) : Option AV := (tyName a).map fun t => .bl (subTy t u)
def pIsi2 (u v : String) (a : AV) : Option AV := (tyName a).map fun t => .bl (subTy t u || subTy t v)
section
variable {X : Cx} {ct : CT} {β : BInv} {Ex : XK} {a b c e : Expr} {f k : Sem} {pos p p2 p3 p4 : Pos} {x : Str} {u v : String}
theorem tyX_of {c0 : Gc} {g : G} {H : Hp} {t : AV} {w : V} {n : String} (h : RepR c0 g H t w) (e : tyName t = some n) : TyX c0.K H w (.type n) := by
  cases t with
  | non => cases e; rw [h.non]; exact .base .non
  | bl b => cases e; rw [h.bl]; exact .base (.bl b)
  | int i => cases e; rw [h.int]; exact .base (.int i)
  | str s => cases e; rw [h.str]; exact .base (.str s)
  | tup xs =>
    cases e
    obtain ⟨q, vs, rfl, hs, _⟩ := h.tup
    rcases hs with (hs | ⟨o, hs⟩) | ⟨o, its, n, hs, hc, _⟩
    · exact .base (.tup hs)
    · exact .fTuple hs
    · exact .kTuple hs hc
  | lst xs =>
    cases e
    obtain ⟨q, vs, rfl, hs, _⟩ := h.lst'
    exact .base (.lst hs)
  | _ => cases e
def Kinds (u : String) : Prop := ∀ t ∈ ["NoneType", "bool", "int", "str", "tuple", "list"], kitB t u = some (subTy t u)
instance : Decidable (Kinds u) := by unfold Kinds; infer_instance
theorem kinds_int : Kinds "int" := by decide +kernel
theorem kinds_bool : Kinds "bool" := by decide +kernel
theorem kinds_list : Kinds "list" := by decide +kernel
theorem kinds_tuple : Kinds "tuple" := by decide +kernel
theorem tyName_in {t : AV} {n : String} (e : tyName t = some n) : n ∈ ["NoneType", "bool", "int", "str", "tuple", "list"] := by
  cases t <;> cases e <;> simp
theorem j_isi (K : Kinds u) (hg : Gl X "isinstance") (hm : X.mg "isinstance" = none) (hg2 : Gl X u) (hm2 : X.mg u = none) (hv : bootBuiltins (u : Str) = some (.type u)) (ha : JE X ct β Ex a f) (hn : (u : Str) ≠ "__name__" := by decide +kernel) (hdb : ((u : Str) == ("__debug__" : Str)) = false := by decide +kernel)
    (he : starEach [a, .Name u p2] X.env = (false, eval a X.env) :: starEach [.Name u p2] X.env := by rfl) (hpl : (backTo pos (starEach [.Name u p2] X.env)).any (·.1) = false := by rfl) : JE X ct β Ex (.Call (.Name "isinstance" p) [a, .Name u p2] [] pos) (fUn (pIsi u) f) := by
  refine PE.imp (pe_callB call_isi hg hm (by decide +kernel) (pa_cons ha (pa_cons (pe_bltn (v := .ty u) hg2 hm2 hv rfl hn hdb) pa_nil) he) (by decide +kernel) (by decide +kernel) he hpl) fun σ H Q h => ?_
  refine fUn_ok' (r := fun x H Q => rIsi X.K [x, .ty u] H Q) (fun g H a z x Q _ ra e q => ?_) h
  obtain ⟨n, en, rfl⟩ := map_some (o := tyName a) e
  exact ⟨x, .ty u, _, _, _, rfl, .ty u, tyX_of ra en, kit_ty (K n (tyName_in en)), q _ H (Same.refl H) rep_bl⟩
theorem j_isi2 (Ku : Kinds u) (Kv : Kinds v) (hg : Gl X "isinstance") (hm : X.mg "isinstance" = none) (hg2 : Gl X u) (hm2 : X.mg u = none) (hv2 : bootBuiltins (u : Str) = some (.type u)) (hg3 : Gl X v) (hm3 : X.mg v = none) (hv3 : bootBuiltins (v : Str) = some (.type v)) (ha : JE X ct β Ex a f) {kk : Nat}
    (hn : (u : Str) ≠ "__name__" := by decide +kernel) (hdb : ((u : Str) == ("__debug__" : Str)) = false := by decide +kernel) (hn3 : (v : Str) ≠ "__name__" := by decide +kernel) (hdb3 : ((v : Str) == ("__debug__" : Str)) = false := by decide +kernel)
    (he : starEach [a, .Tuple [.Name u p2, .Name v p3] kk p4] X.env = (false, eval a X.env) :: starEach [.Tuple [.Name u p2, .Name v p3] kk p4] X.env := by rfl) (hpl : (backTo pos (starEach [.Tuple [.Name u p2, .Name v p3] kk p4] X.env)).any (·.1) = false := by rfl) :
    JE X ct β Ex (.Call (.Name "isinstance" p) [a, .Tuple [.Name u p2, .Name v p3] kk p4] [] pos) (fUn (pIsi2 u v) f) := by
  refine PE.imp (pe_callB call_isiT hg hm (by decide +kernel) (pa_cons ha (pa_cons (pe_tup (pa_cons (pe_bltn (v := .ty u) hg2 hm2 hv2 rfl hn hdb) (pa_cons (pe_bltn (v := .ty v) hg3 hm3 hv3 rfl hn3 hdb3) pa_nil))) pa_nil) he) (by decide +kernel) (by decide +kernel) he hpl) fun σ H Q h => ?_
  obtain ⟨g, ρ, R, h⟩ := h
  refine ⟨g, ρ, R, okT_mono (okT_bind h) fun g1 H1 q e1 h1 x R1 rx => ?_⟩
  obtain ⟨t, et, h3⟩ := okT_lift h1
  obtain ⟨z, ez, h5⟩ := okT_lift h3
  obtain ⟨n, en, rfl⟩ := map_some (o := tyName t) ez
  refine ⟨by show 2 ≤ sizeLine; decide, fun l hl => ?_⟩
  have s := same_upd (o := .tup [V.ty u, V.ty v]) hl
  have rt : RepR (gc X ct) g1 (upd H1 l (.tup [V.ty u, V.ty v])) t x := by
    rcases rx.rs R1 et with r | ⟨xs, p, vs, e1, e2, e3, e4, e5⟩
    · exact .inl ((Ext.same s).rep r)
    · exact .inr ⟨xs, p, vs, e1, e2, e3, s _ _ e4, (Ext.same s).reps e5⟩
  refine ⟨x, l, [.ty u, .ty v], .type n, [.type u, .type v], _, rfl, upd_same, .cons (.ty u) (.cons (.ty v) .nil), tyX_of rt en, ?_, okT_ret' h5 (Ext.same s) _ (R1.same s) (rh_val (rep_bl (b := subTy n u || subTy n v)))⟩
  have k1 := kit_ty (K := X.K) (Ku n (tyName_in en))
  have k2 := kit_ty (K := X.K) (Kv n (tyName_in en))
  cases hu : subTy n u with
  | true => rw [hu] at k1; exact kitAny_cons (b := true) k1 (fun z => nomatch z) fun _ => rfl
  | false =>
    rw [hu] at k1
    refine kitAny_cons (b := false) k1 (fun _ => ?_) fun z => nomatch z
    cases hv : subTy n v with
    | true => rw [hv] at k2; exact kitAny_cons (b := true) k2 (fun z => nomatch z) fun _ => rfl
    | false => rw [hv] at k2; exact kitAny_cons (b := false) k2 (fun _ => rfl) fun z => nomatch z
def pLenSet (a : AV) : Option AV := (seqOf a).bind fun xs => (intsOf xs).bind fun ns => if ns.Nodup ∧ ns.length ≤ 1000 then some (.int ns.length) else none
def pSorted (a : AV) : Option AV := (seqOf a).bind fun xs => (intsOf xs).bind fun ns => if ns.length ≤ big then some (.lst ((isort ns).map AV.int)) else none
def tLenSetA (K : PySem.W.Frag) (ta : TE) : TE := fun σ H Q => ta σ H fun x H1 => ∃ (l : Addr) (ns : List Int), x = .ref l ∧ (SqL K H1 l (ns.map V.int) ∨ SqT K H1 l (ns.map V.int)) ∧ ns.Nodup ∧ ns.length ≤ 1000 ∧ Q (.int (ns.length : Nat)) H1
theorem cr_sortedA {X : Cx} : CallR X (.builtin "sorted") (fun vs H Q => ∃ (a : Addr) (ns : List Int), vs = [V.ref a] ∧ (SqL X.K H a (ns.map V.int) ∨ SqT X.K H a (ns.map V.int)) ∧ ∀ (ns' : List Int) (p : Addr), ns'.Perm ns → ns'.Pairwise (· ≤ ·) → H p = none → Q (.ref p) (upd H p (.lst (ns'.map V.int)))) := by
  intro pins s σ H vs us Q I r h
  obtain ⟨a, ns, e, hs | hs, q⟩ := h
  · exact cr_sortedI pins s σ H vs us Q I r ⟨a, ns, e, hs, q⟩
  · exact cr_sortedT pins s σ H vs us Q I r ⟨a, ns, e, hs, q⟩
theorem o_sorted : Op1' X ct (fun x H Q => ∃ (a : Addr) (ns : List Int), [x] = [V.ref a] ∧ (SqL X.K H a (ns.map V.int) ∨ SqT X.K H a (ns.map V.int)) ∧ ∀ (ns' : List Int) (p : Addr), ns'.Perm ns → ns'.Pairwise (· ≤ ·) → H p = none → Q (.ref p) (upd H p (.lst (ns'.map V.int)))) pSorted := by
  intro g H a z x Q live ra e q
  unfold pSorted at e
  cases e1 : seqOf a with
  | none => rw [e1] at e; cases e
  | some xs =>
    rw [e1] at e
    cases e2 : intsOf xs with
    | none => simp [e2] at e
    | some ns =>
      have e3 : (if ns.length ≤ big then some (AV.lst ((isort ns).map AV.int)) else none) = some z := by simpa [e2] using e
      obtain ⟨h, rfl⟩ := ifp_some e3
      obtain ⟨l, vs, rfl, hs, r⟩ := seq_sq ra e1
      rw [intsOf_eq e2] at r
      have ev := reps_ints r
      subst ev
      refine ⟨l, ns, rfl, hs, fun ns' p hp hq hn => ?_⟩
      have e4 : ns' = isort ns := isort_uniq (hp.trans (isort_perm ns).symm) hq (isort_sorted ns)
      subst e4
      have s := same_upd (o := .lst ((isort ns).map V.int)) hn
      exact q _ _ s (rep_lst_new (fun z => live p z hn) upd_same (.ints' _))
def nListRange (f : Sem) : SemN := fun ρ => (f ρ).bind fun p => (lift (rs p.1 p.2)).bind fun a => (lift (intOf a)).bind fun j => if 0 ≤ j ∧ below j 24 = true then .ret (rangeL 0 j.toNat, p.2) else .bad
theorem rep_range {c0 : Gc} {A D : Addr → Prop} {H : Hp} {j : Int} : RepL c0 A D H (rangeL 0 j.toNat) (rgV 0 j) := by
  refine .of (by rw [rgV_length]; unfold rangeL; rw [List.length_map, List.length_range]; simp) fun i x v e1 e2 => ?_
  unfold rangeL at e1
  unfold rgV at e2
  rw [List.getElem?_map] at e1 e2
  have e3 : (j - 0).toNat = j.toNat := by rw [Int.sub_zero]
  rw [e3] at e2
  cases q : (List.range j.toNat)[i]? with
  | none => rw [q] at e1; cases e1
  | some m => rw [q] at e1 e2; cases e1; cases e2; rw [Rep]
theorem jn_listRange (hc : X.calm = true) (hg : Gl X "list") (hm : X.mg "list" = none) (hg2 : Gl X "range") (hm2 : X.mg "range" = none) (ha : JE X ct β Ex a f) (na : starEach [a] X.env = (false, eval a X.env) :: starEach [] X.env := by rfl)
    (nb : starEach [.Call (.Name "range" p2) [a] [] p3] X.env = (false, eval (.Call (.Name "range" p2) [a] [] p3) X.env) :: starEach [] X.env := by rfl) : JN X ct β Ex (.Call (.Name "list" p) [.Call (.Name "range" p2) [a] [] p3] [] pos) (nListRange f) := by
  refine PE.imp (pe_listRg hc hg hm (prg_1 hg2 hm2 ha na) nb) fun σ H Q h => ?_
  obtain ⟨g, ρ, R, h⟩ := h
  refine ⟨g, ρ, R, okT_bind0 h fun p q g1 H1 e v R1 rv => ?_⟩
  obtain ⟨u, eu, h2⟩ := okT_lift q
  obtain ⟨j, ej, h3⟩ := okT_lift h2
  have := intOf_eq ej
  subst this
  have ev := (rv.rs R1 eu).int
  subst ev
  by_cases hb : 0 ≤ j ∧ below j 24 = true
  · rw [if_pos hb] at h3
    have hb2 : j ≤ 16777216 := by have := below_iff.mp hb.2; omega
    refine ⟨j, rfl, RgOk.of_le (a := 0) (b := j) (Int.le_refl 0) hb2 (by decide) hb.1, fun l hl => ?_⟩
    have s := same_upd (o := .lst (rgV 0 j)) hl
    exact okT_ret' h3 (e.trans (Ext.same s)) l _ (none_back e hl) (R1.freshAv hl) upd_same (R1.plus s hl (by rw [upd_same]; exact fun z => by cases z)) rep_range
  · rw [if_neg hb] at h3
    exact (show False from h3).elim
def idxOf (i : Int) : List Int → Option Nat
  | [] => none
  | x :: xs => if x = i then some 0 else (idxOf i xs).map (· + 1)
def fIndex (f k : Sem) : Sem := fun ρ => (f ρ).bind fun p => (lift (rs p.1 p.2)).bind fun a0 => (lift (lstOf a0)).bind fun _ => (k p.2).bind fun q => (lift (rs p.1 q.2)).bind fun a => (lift (lstOf a)).bind fun xs => (lift (rs q.1 q.2)).bind fun b => (lift (intOf b)).bind fun i =>
  (lift (intsOf xs)).bind fun ns => (lift (idxOf i ns)).bind fun j => .ret (.val (.int j), q.2)
def sBad : SSem := fun _ => .bad
end
end Dn
set_option Elab.async false
set_option linter.all false
set_option maxRecDepth 100000
namespace Dn
open PySem PySem.Spec PyProof.Rows L2
section
variable {c0 : Gc} {β : BInv} {g : G} {H : Hp} {ρ : Env'} {σ : L2.St}
theorem plus_swap (g : G) (a b : Addr) : (g.plus a).plus b = (g.plus b).plus a := by
  unfold G.plus
  congr 1
  funext x
  exact propext ⟨fun h => h.elim (fun h => h.elim (fun h => .inl (.inl h)) .inr) fun h => .inl (.inr h), fun h => h.elim (fun h => h.elim (fun h => .inl (.inl h)) .inr) fun h => .inl (.inr h)⟩
theorem set_over {j : Nat} {v : Option V} (h : ¬ j < ρ.length) (R : Rel c0 β g ρ σ H) : σ.set j v = σ := List.set_eq_of_length_le (by rw [R.len]; omega)
theorem Rel.nil {j : Nat} {p : Addr} (R : Rel c0 β (g.plus p) ρ σ H) (hp : H p = some (.lst [])) (na : ¬ g.Av p) (hj : j < ρ.length) : Rel c0 β (g.own1 j p) (ρ.set j (.ml [])) (σ.set j (some (.ref p))) H := R.take hj hp na .nil
end
def sPar (i j : Nat) (m : SemL) : SSem := fun ρ => (m ρ).bind fun p => match p.1 with
  | [t, u] => .ret (.nx ((p.2.set i (.fro t)).set j (.fro u)))
  | _ => .bad
def sPar3 (i j l : Nat) (m : SemL) : SSem := fun ρ => (m ρ).bind fun p => match p.1 with
  | [t, u, w] => .ret (.nx (((p.2.set i (.fro t)).set j (.fro u)).set l (.fro w)))
  | _ => .bad
def sParE (i j : Nat) (f : Sem) : SSem := fun ρ => (f ρ).bind fun p => (frz p).bind fun q => if i < q.2.length ∧ j < q.2.length then .ret (.nx ((q.2.set i (.fro q.1)).set j (.ml []))) else .bad
def sParN (i j : Nat) (f : SemN) : SSem := fun ρ => (f ρ).bind fun q => if i < q.2.length ∧ j < q.2.length then .ret (.nx ((q.2.set i (.ml q.1)).set j (.ml []))) else .bad
def sParNN (i j l : Nat) (f : SemN) : SSem := fun ρ => (f ρ).bind fun q => if i < q.2.length ∧ j < q.2.length ∧ l < q.2.length then .ret (.nx (((q.2.set i (.ml q.1)).set j (.ml [])).set l (.ml []))) else .bad
section
variable {X : Cx} {ct : CT} {β : BInv} {Ex : XK} {a b c : Expr} {f k : Sem} {fn : SemN} {m : SemL} {pos px py pz pt pt2 pl pl2 : Pos} {kt k2 : Nat} {x y z : Str} {i j l : Nat}
theorem Rel.setFro' {c0 : Gc} {g : G} {ρ : Env'} {σ : L2.St} {H : Hp} {j : Nat} {t : AV} {v : V} (R : Rel c0 β g ρ σ H) (r : RepG c0 g H t v) : ∃ g', Ext g g' H H ∧ Rel c0 β g' (ρ.set j (.fro t)) (σ.set j (some v)) H := by
  by_cases hj : j < ρ.length
  · exact ⟨_, ext_no g j H, R.setFro r hj⟩
  · rw [set_ge hj, set_over hj R]
    exact ⟨g, .refl g H, R⟩
theorem js_par (i j : Nat) (hc : X.calm = true) (hN : X.N.Nodup) (ha : JL X ct β Ex [a, b] m) (hi : X.N[i]? = some x := by rfl) (hj : X.N[j]? = some y := by rfl) (hij : i ≠ j := by decide) (hx : X.env.scope.names.lookup x = some .local := by rfl) (hy : X.env.scope.names.lookup y = some .local := by rfl)
    (hw : swappedStores [.Tuple [.Name x px, .Name y py] kt pt] (.Tuple [a, b] k2 pt2) X.env = pure (some [x, y]) := by rfl) (hs : swapsWithSole [.Tuple [.Name x px, .Name y py] kt pt] (.Tuple [a, b] k2 pt2) pos.line X.env = pure false := by rfl) :
    JS X ct β Ex (.Assign [.Tuple [.Name x px, .Name y py] kt pt] (.Tuple [a, b] k2 pt2) pos) (sPar i j m) := by
  refine PS.imp (ps_par hc hN hi hj hij hx hy ha hw hs) fun D σ H h => ?_
  obtain ⟨g, ρ, R, h⟩ := h
  refine ⟨g, ρ, R, okT_mono (okT_bind h) fun g1 H1 p e1 h1 vs R1 rv => ?_⟩
  obtain ⟨ts, ρ1⟩ := p
  match ts, rv, h1 with
  | [t, u], rv, h1 =>
    rw [RepsG, RepL] at rv
    obtain ⟨v, r1, rfl, rt, rv⟩ := rv
    rw [RepL] at rv
    obtain ⟨w, r2, rfl, ru, rv⟩ := rv
    rw [RepL] at rv
    subst rv
    refine ⟨v, w, rfl, ?_⟩
    obtain ⟨g2, e2, R2⟩ := R1.setFro' (j := i) rt
    obtain ⟨g3, e3, R3⟩ := R2.setFro' (j := j) (e2.rep ru)
    exact okT_ret' h1 (e2.trans e3) _ R3
  | [], _, h1 => exact (show False from h1).elim
  | [_], _, h1 => exact (show False from h1).elim
  | _ :: _ :: _ :: _, _, h1 => exact (show False from h1).elim
def Wants2 (X : Cx) (ct : CT) (β : BInv) (Ex : XK) (i j : Nat) (t : TA) (s : SSem) : Prop := ∀ (D : Ends) (σ : L2.St) (H : Hp), rdS (gc X ct) β Ex s D σ H → t σ H fun vs H1 => ∃ v w, vs = [v, w] ∧ ∀ H2, Same H1 H2 → D.nx ((σ.set i (some v)).set j (some w)) H2
theorem js_par2 {ta : TA} {s : SSem} (hc : X.calm = true) (hN : X.N.Nodup) (ha : PA X [a, b] ta) (hW : Wants2 X ct β Ex i j ta s) (hi : X.N[i]? = some x) (hj : X.N[j]? = some y) (hij : i ≠ j) (hx : X.env.scope.names.lookup x = some .local) (hy : X.env.scope.names.lookup y = some .local)
    (mono : ∀ σ H (Q Q' : List V → Hp → Prop), (∀ vs H, Q vs H → Q' vs H) → ta σ H Q → ta σ H Q')
    (hw : swappedStores [.Tuple [.Name x px, .Name y py] kt pt] (.Tuple [a, b] k2 pt2) X.env = pure (some [x, y])) (hs : swapsWithSole [.Tuple [.Name x px, .Name y py] kt pt] (.Tuple [a, b] k2 pt2) pos.line X.env = pure false) :
    JS X ct β Ex (.Assign [.Tuple [.Name x px, .Name y py] kt pt] (.Tuple [a, b] k2 pt2) pos) s := by
  refine PS.imp (ps_par hc hN hi hj hij hx hy ha hw hs) fun D σ H h => ?_
  exact mono σ H _ _ (fun vs H1 ⟨v, w, e, q⟩ => ⟨v, w, e, q H1 (Same.refl H1)⟩) (hW D σ H h)
theorem mono_E {t : TE} {es : List Expr} (ht : ∀ σ H (Q Q' : VK), (∀ v H, Q v H → Q' v H) → t σ H Q → t σ H Q') : ∀ σ H (Q Q' : List V → Hp → Prop), (∀ vs H, Q vs H → Q' vs H) → tCons t (tCons (tLst tNil) tNil) σ H Q → tCons t (tCons (tLst tNil) tNil) σ H Q' :=
  fun σ H Q Q' h q => ht σ H _ _ (fun v H1 ⟨z, q⟩ => ⟨z, fun p hp => h _ _ (q p hp)⟩) q
theorem okT_wk {c0 : Gc} {α : Type} {g : G} {H : Hp} {mm : T α} {Q Q' : G → Hp → α → Prop} (h : okT c0 β Ex g H mm Q) (hQ : ∀ g' H' a, Q g' H' a → Q' g' H' a) : okT c0 β Ex g H mm Q' := okT_mono h fun g' H' a _ => hQ g' H' a
theorem mono_rdE : ∀ σ H (Q Q' : VK), (∀ v H, Q v H → Q' v H) → rdE (gc X ct) β Ex f σ H Q → rdE (gc X ct) β Ex f σ H Q' := fun σ H Q Q' h q => by
  obtain ⟨g, ρ, R, q⟩ := q
  exact ⟨g, ρ, R, okT_wk q fun g' H' p q v R' rv => h _ _ (q v R' rv)⟩
theorem mono_rdN : ∀ σ H (Q Q' : VK), (∀ v H, Q v H → Q' v H) → rdN (gc X ct) β Ex fn σ H Q → rdN (gc X ct) β Ex fn σ H Q' := fun σ H Q Q' h q => by
  obtain ⟨g, ρ, R, q⟩ := q
  exact ⟨g, ρ, R, okT_wk q fun g' H' p q a vs h1 h2 h3 R' r => h _ _ (q a vs h1 h2 h3 R' r)⟩
theorem wants_E : Wants2 X ct β Ex i j (tCons (rdE (gc X ct) β Ex f) (tCons (tLst tNil) tNil)) (sParE i j f) := by
  intro D σ H h
  obtain ⟨g, ρ, R, h⟩ := h
  refine ⟨g, ρ, R, okT_bind0 h fun p q g1 H1 e v R1 rv => ⟨Nat.zero_le _, fun l hl => ⟨v, .ref l, rfl, fun H2 s2 => ?_⟩⟩⟩
  -- from the start: the value frozen, then the new list
  obtain ⟨hd, ρ1⟩ := p
  have q' : okT (gc X ct) β Ex g H ((frz (hd, ρ1)).bind fun q => if i < q.2.length ∧ j < q.2.length then .ret (.nx ((q.2.set i (.fro q.1)).set j (.ml []))) else .bad) (endOk (gc X ct) β D) := q
  have q2 : okT (gc X ct) β Ex g1 H1 ((frz (hd, ρ1)).bind fun q => if i < q.2.length ∧ j < q.2.length then .ret (.nx ((q.2.set i (.fro q.1)).set j (.ml []))) else .bad) (fun g' H' o => ∀ g2 H2, Ext g g2 H H2 → endOk (gc X ct) β D g2 H2 o) :=
    T.all_mono q' (fun o r g' H' _ g2 H2 e2 => r g2 H2 e2) fun c xs r g' H' C d vs e2 => r g' H' C d vs (e.trans e2)
  obtain ⟨g2, s, e2, Rz, rz, h2⟩ := frz_ok R1 rv q2
  obtain ⟨t, ρ2⟩ := s
  by_cases hb : i < ρ2.length ∧ j < ρ2.length
  · have h2' : okT (gc X ct) β Ex g2 H1 (if i < ρ2.length ∧ j < ρ2.length then .ret (.nx ((ρ2.set i (.fro t)).set j (.ml []))) else .bad) (fun g' H' o => ∀ g2 H2, Ext g g2 H H2 → endOk (gc X ct) β D g2 H2 o) := h2
    rw [if_pos hb] at h2'
    have s3 := same_upd (o := .lst []) hl
    have hln : H l = none := none_back e hl
    have Ra := (Rz.plus s3 hl (by rw [upd_same]; exact fun z => by cases z)).same s2
    have Rb := Ra.setFro (j := i) ((Ext.same s2).rep (rep_plus rz s3 hl)) hb.1
    have Rc := Rel.nil (g := g2.no i) (j := j) Rb (s2 _ _ upd_same) (fun z => Rz.freshAv hl (by
      rcases z with z | ⟨k, z⟩ | z
      · exact .inl z
      · by_cases hk : k = i
        · subst hk; rw [own_no] at z; cases z
        · rw [own_no_ne hk] at z; exact .inr (.inl ⟨k, z⟩)
      · exact .inr (.inr z))) (by rw [List.length_set]; exact hb.2)
    exact okT_ret h2' _ _ (ext_own1 (((e.trans e2).trans (ext_no g2 i H1)).trans (Ext.same (s3.trans s2))) hln) _ Rc
  · have h2' : okT (gc X ct) β Ex g2 H1 (if i < ρ2.length ∧ j < ρ2.length then .ret (.nx ((ρ2.set i (.fro t)).set j (.ml []))) else .bad) (fun g' H' o => ∀ g2 H2, Ext g g2 H H2 → endOk (gc X ct) β D g2 H2 o) := h2
    rw [if_neg hb] at h2'
    exact (show False from h2').elim
theorem wants_N : Wants2 X ct β Ex i j (tCons (rdN (gc X ct) β Ex fn) (tCons (tLst tNil) tNil)) (sParN i j fn) := by
  intro D σ H h
  obtain ⟨g, ρ, R, h⟩ := h
  refine ⟨g, ρ, R, okT_bind0 h fun p q g1 H1 e a ws hn na ho R1 r => ⟨Nat.zero_le _, fun l hl => ⟨.ref a, .ref l, rfl, fun H2 s2 => ?_⟩⟩⟩
  obtain ⟨xs, ρ2⟩ := p
  by_cases hb : i < ρ2.length ∧ j < ρ2.length
  · have q' : okT (gc X ct) β Ex g H (if i < ρ2.length ∧ j < ρ2.length then .ret (.nx ((ρ2.set i (.ml xs)).set j (.ml []))) else .bad) (endOk (gc X ct) β D) := q
    rw [if_pos hb] at q'
    have s3 := same_upd (o := .lst []) hl
    have hln : H l = none := none_back e hl
    have hal : a ≠ l := fun z => by rw [z, hl] at ho; cases ho
    have Ra := (R1.plus s3 hl (by rw [upd_same]; exact fun z => by cases z)).same s2
    rw [plus_swap] at Ra
    have na2 : ¬ (g1.plus l).Av a := fun z => (plus_av.mp z).elim na hal
    have rr := (Ext.same s2).reps (reps_plus r s3 hl)
    rw [plus_swap] at rr
    have Rb := Ra.take (j := i) hb.1 (s2 _ _ (s3 _ _ ho)) na2 rr
    have Rc := Rel.nil (g := g1.own1 i a) (j := j) Rb (s2 _ _ upd_same) (fun z => R1.freshAv hl (own1_av z)) (by rw [List.length_set]; exact hb.2)
    exact okT_ret' q' (ext_own1 (ext_own1 (e.trans (Ext.same (s3.trans s2))) hn) hln) _ Rc
  · have q' : okT (gc X ct) β Ex g H (if i < ρ2.length ∧ j < ρ2.length then .ret (.nx ((ρ2.set i (.ml xs)).set j (.ml []))) else .bad) (endOk (gc X ct) β D) := q
    rw [if_neg hb] at q'
    exact (show False from q').elim
end
end Dn
set_option Elab.async false
set_option linter.all false
set_option maxRecDepth 100000
namespace Dn
open PySem PySem.Spec PyProof.Rows L2
def sFldSet (j c i : Nat) (f : Sem) : SSem := fun ρ => (f ρ).bind fun p => (frz p).bind fun q => match q.2[j]? with
  | some (.slf c' fs) => if c' = c ∧ fs.length = i then .ret (.nx (q.2.set j (.slf c (fs ++ [q.1])))) else .bad
  | _ => .bad
theorem putF_zip : ∀ {fl : List Str} {vs : List V} {f : Str} {y : V}, fl.Nodup → fl[vs.length]? = some f → putF f y (fl.zip vs) = fl.zip (vs ++ [y])
  | [], vs, _, _, _, h => by simp at h
  | g :: fl, [], f, y, _, h => by
    simp at h
    subst h
    simp [putF]
  | g :: fl, v :: vs, f, y, nd, h => by
    have h1 : fl[vs.length]? = some f := by simpa using h
    have ne : g ≠ f := fun e => (List.nodup_cons.mp nd).1 (e ▸ List.mem_of_getElem? h1)
    show putF f y ((g, v) :: fl.zip vs) = (g, v) :: fl.zip (vs ++ [y])
    unfold putF
    rw [if_neg ne, putF_zip (List.nodup_cons.mp nd).2 h1]
section
variable {c0 : Gc} {β : BInv} {g : G} {H : Hp} {ρ : Env'} {σ : L2.St}
theorem Rel.updS {j c : Nat} {p C dx : Addr} {fs : List AV} {ws : List V} (R : Rel c0 β g ρ σ H) (hj : j < ρ.length) (ho : g.own j = some p) (hσ : σ[j]? = some (some (.ref p))) (hm : c0.mg (c0.ct c).1 = some (.ref C)) (hl : ws.length ≤ (c0.ct c).2.length) (r : RepsG c0 g H fs ws) (hS : g.S = some p) :
    Rel c0 β g (ρ.set j (.slf c fs)) σ (L2.upd H p (.ins C dx ((c0.ct c).2.zip ws))) := by
  have e : Ext g g H (L2.upd H p (.ins C dx ((c0.ct c).2.zip ws))) := ext_upd ho
  refine R.put e rfl (fun _ _ => rfl) hj (fun _ _ => rfl) (fun i a o hi h1 h2 => ?_) ?_ ?_ fun a h => ?_
  · rw [upd_ne (fun z => hi (R.inj i j a h1 (by rw [z]; exact ho)))]
    exact h2
  · refine β.frame R.box fun a h => ?_
    rw [upd_ne (fun z => (R.sep j p ho).2 (by rw [← z]; exact h))]
  · exact ⟨p, C, dx, ws, ho, hσ, hm, upd_same, hl, e.reps r, hS⟩
  · rw [ho] at h
    cases h
    exact ⟨(R.sep j p ho).1, (R.sep j p ho).2, fun i hi h => hi (R.inj i j p h ho)⟩
end
section
variable {X : Cx} {ct : CT} {β : BInv} {Ex : XK} {a b e : Expr} {es : List Expr} {f k : Sem} {m : SemL} {pos p p2 : Pos} {x n : Str} {j c i : Nat}
theorem js_fld (j : Nat) (F : FldOk X ct c i n) (ha : JE X ct β Ex a f) (hfew : (ct c).2.length < 1000) (hN : X.N[j]? = some x := by rfl) (hv : Vis X.env.scope x := by first | exact Or.inl rfl | exact Or.inr (Or.inl rfl) | exact Or.inr (Or.inr rfl)) (hd : (x == ("__debug__" : Str)) = false := by decide +kernel) (hcd : (x == ("__classdict__" : Str)) = false := by decide +kernel)
    (hs : swapsWith a (some (.Attribute (.Name x p) n p2)) pos.line X.env = pure false := by rfl) : JS X ct β Ex (.Assign [.Attribute (.Name x p) n p2] a pos) (sFldSet j c i f) := by
  refine PS.imp (ps_fld (pe_var (i := j) hN hv hd hcd) ha hs) fun D σ H h => ?_
  obtain ⟨g, ρ, R, h⟩ := h
  refine ⟨g, ρ, R, okT_mono (okT_bind h) fun g1 H1 p e1 h1 y R1 ry => ?_⟩
  obtain ⟨g2, s, e2, R2, rs, h2⟩ := frz_ok R1 ry h1
  obtain ⟨t, ρ2⟩ := s
  have R2 : Rel (gc X ct) β g2 ρ2 σ H1 := R2
  cases hs : ρ2[j]? with
  | none => simp only [hs] at h2; exact (show False from h2).elim
  | some sl =>
    simp only [hs] at h2
    cases sl with
    | slf c' fs =>
      by_cases hc : c' = c ∧ fs.length = i
      · have h3 : okT (gc X ct) β Ex g2 H1 (if c' = c ∧ fs.length = i then .ret (.nx (ρ2.set j (.slf c (fs ++ [t])))) else .bad) (endOk (gc X ct) β D) := h2
        rw [if_pos hc] at h3
        obtain ⟨rfl, rfl⟩ := hc
        obtain ⟨q, C, dx, vs, ho, hσ, hm, hq, hl, r, hS⟩ := R2.sl j _ hs
        obtain ⟨k1, k2⟩ := F.cls C hm
        have hlen := r.length
        have hlt : fs.length < (ct c').2.length := (List.getElem?_eq_some_iff.mp F.at_).1
        refine ⟨.ref q, hσ, q, C, dx, _, rfl, hq, k1, k2, ?_, ?_⟩
        · rw [List.length_zip, hlen]
          have : min (ct c').2.length fs.length ≤ (ct c').2.length := Nat.min_le_left _ _
          show min (ct c').2.length fs.length < 1000
          omega
        · rw [show putF n y ((ct c').2.zip vs) = (ct c').2.zip (vs ++ [y]) from putF_zip F.nd (by rw [hlen]; exact F.at_)]
          exact okT_ret' h3 (ext_upd ho) _ (R2.updS (List.getElem?_eq_some_iff.mp hs).1 ho hσ hm (by rw [List.length_append, hlen]; simp; show fs.length + 1 ≤ (ct c').2.length; omega) (r.append (.one rs)) hS)
      · have h3 : okT (gc X ct) β Ex g2 H1 (if c' = c ∧ fs.length = i then .ret (.nx (ρ2.set j (.slf c (fs ++ [t])))) else .bad) (endOk (gc X ct) β D) := h2
        rw [if_neg hc] at h3
        exact (show False from h3).elim
    | _ => exact (show False from h2).elim
end
def outI (c nf : Nat) : Out → T AV
  | .nx ρ => match (ρ[0]? : Option Slot) with
    | some (Slot.slf c' fs) => if c' = c ∧ fs.length = nf then .ret (.ins c fs) else .bad
    | _ => .bad
  | _ => .bad
def fnInit (np n c nf : Nat) (body : SSem) : List AV → T AV := fun ts => if ts.length = np then (body (.slf c [] :: (ts.map Slot.fro ++ List.replicate (n - (np + 1)) .un))).bind (outI c nf) else .bad
theorem fnInit_len {np n c nf : Nat} {body : SSem} (ts : List AV) (h : T.all (fun _ => True) (fun _ _ => True) (fnInit np n c nf body ts)) : ts.length = np := by
  unfold fnInit at h
  by_cases hl : ts.length = np
  · exact hl
  · rw [if_neg hl] at h; exact h.elim
def G.self (g : G) (a : Addr) : G := { g with own := fun i => if i = 0 then some a else none, S := some a }
def spI (c0 : Gc) (β : BInv) (n c : Nat) (fn : List AV → T AV) : Sp := fun vs H Q E => ∃ (g : G) (ts : List AV) (a C dx : Addr) (ws : List V), vs = .ref a :: ws ∧ H a = some (.ins C dx []) ∧ c0.mg (c0.ct c).1 = some (.ref C) ∧ (∀ i, g.own i = none) ∧ (∀ b, g.M b → H b ≠ none ∧ ∀ ws, H b ≠ some (.tup ws)) ∧ (∀ b, g.M b → ¬ g.B b) ∧ β.I g.B g.D H ∧ ¬ g.Av a ∧ RepsG c0 (g.plus a) H ts ws ∧ ts.length = n ∧
  okT c0 β E (g.self a) H (fn ts) fun g' H' t => ∀ g2 : G, g2 = { g' with own := fun i => if i = 0 then none else g'.own i } → β.I g'.B g'.D H' → RepG c0 g2 H' t (.ref a) → Q .non H'
section
variable {P : Program} {w : World} {K : PySem.W.Frag} {mg : Str → Option Value} {base : Heap} {ct : CT} {β : BInv}
theorem rel_startI {c0 : Gc} {g : G} {H : Hp} {ts : List AV} {vs : List V} {N : List Str} {np c : Nat} {a C dx : Addr} (hcl : H a = some (.ins C dx [])) (hcm : c0.mg (c0.ct c).1 = some (.ref C)) (ho : ∀ i, g.own i = none) (hm : ∀ b, g.M b → H b ≠ none ∧ ∀ ws, H b ≠ some (.tup ws)) (hmb : ∀ b, g.M b → ¬ g.B b) (hb : β.I g.B g.D H) (na : ¬ g.Av a)
    (r : RepsG c0 (g.plus a) H ts vs) (hl : ts.length = np) (hN : np + 1 ≤ N.length) : Rel c0 β (g.self a) (.slf c [] :: (ts.map Slot.fro ++ List.replicate (N.length - (np + 1)) .un)) (L2.start N (.ref a :: vs)) H := by
  have hav : ∀ b, (g.self a).Av b → (g.plus a).Av b := fun b h => plus_av.mpr (by
    rcases h with h | ⟨i, h⟩ | h
    · exact .inl (.inl h)
    · unfold G.self at h
      simp only at h
      split at h
      · cases h; exact .inr rfl
      · cases h
    · exact .inl (.inr (.inr h)))
  have st : L2.start N (.ref a :: vs) = some (V.ref a) :: (vs.map some ++ List.replicate (N.length - (np + 1)) none) := by
    unfold L2.start
    rw [List.map_cons, List.length_cons, r.length, hl]
    rfl
  rw [st]
  refine ⟨?_, fun i s hi => ?_, fun i hi => ?_, fun i j b h1 h2 => ?_, fun b h => (hm b h).1, fun b h => (hm b h).2, fun i b h => ?_, hmb, hb⟩
  · simp [r.length]
  · cases i with
    | zero =>
      cases hi
      exact ⟨a, C, dx, [], rfl, rfl, hcm, by rw [List.zip_nil_right]; exact hcl, Nat.zero_le _, .nil, rfl⟩
    | succ i =>
      have hi : (ts.map Slot.fro ++ List.replicate (N.length - (np + 1)) .un)[i]? = some s := by simpa using hi
      have ow : (g.self a).own (i + 1) = none := rfl
      rw [ow]
      by_cases h : i < ts.length
      · rw [List.getElem?_append_left (by rw [List.length_map]; exact h), List.getElem?_map] at hi
        cases e : ts[i]? with
        | none => rw [e] at hi; cases hi
        | some t =>
          rw [e] at hi
          cases hi
          obtain ⟨v, ev, rv⟩ := r.get' e
          refine ⟨rfl, v, ?_, rv.imp (fun b o q nb => ⟨q, fun z => nb (hav b z)⟩) fun _ h => h⟩
          rw [List.getElem?_cons_succ, List.getElem?_append_left (by rw [List.length_map, r.length]; exact h), List.getElem?_map, ev]
          rfl
      · rw [List.getElem?_append_right (by rw [List.length_map]; omega), List.getElem?_replicate] at hi
        split at hi
        · cases hi; rfl
        · cases hi
  · cases i with
    | zero => simp at hi
    | succ i => rfl
  · have own1 : ∀ k, (g.self a).own k = some b → k = 0 := fun k h => by
      unfold G.self at h
      simp only at h
      split at h
      · assumption
      · cases h
    rw [own1 i h1, own1 j h2]
  · unfold G.self at h
    simp only at h
    split at h
    · cases h
      exact ⟨fun z => na (.inl z), fun z => na (.inr (.inr z))⟩
    · cases h
theorem init_def {x qual : Str} {st : Stmt} {f : Addr} {fd : FuncData} {N ps : List Str} {k c : Nat} {body : SSem} (F : Fun K x qual st f fd) (S : FnScope N ps (defScope st)) (hl : ps.length ≤ N.length) (hp : 0 < ps.length)
    (hb : ∀ (cdv : Value) (A : Around) (outer : List Env) (s : Shared) (H : Hp) (E : XK), Room k (A.deeper (envOfC qual (defScope st) s.heap.objs.size f cdv)) → JSs (cxOf (L2.CX P w) P w K mg base N qual (defScope st) f cdv A outer s H E) ct β E (defBody st) body) :
    FnOk P w K mg base (L2.CX P w) (k + 1) f fd ps (spI ⟨K, mg, ct⟩ β (ps.length - 1) c (fnInit (ps.length - 1) N.length c (ct c).2.length body)) := by
  refine F.okX S (fun vs H Q E h => ?_) fun cdv A outer s H vs Q E hr h => ?_
  · obtain ⟨g, ts, a, C, dx, ws, rfl, _, _, _, _, _, _, _, r, e, _⟩ := h
    rw [List.length_cons, r.length, e]
    omega
  · obtain ⟨g, ts, a, C, dx, ws, rfl, hcl, hcm, ho, hm, hmb, hbx, na, r, e, h⟩ := h
    refine ⟨_, hb cdv A outer s H E hr, g.self a, _, rel_startI hcl hcm ho hm hmb hbx na r e (by omega), ?_⟩
    unfold fnInit at h
    rw [if_pos e] at h
    refine okT_mono (okT_bind h) fun g' H' o e q => ?_
    cases o with
    | nx ρ =>
      intro σ R
      cases h0 : ρ[0]? with
      | none => simp only [outI, h0] at q; exact (show False from q).elim
      | some sl =>
        cases sl with
        | slf c' fs =>
          by_cases hc : c' = c ∧ fs.length = (ct c).2.length
          · simp only [outI, h0] at q
            rw [if_pos hc] at q
            obtain ⟨rfl, hn⟩ := hc
            obtain ⟨p, C', dx', vs, h1, h2, h3, h4, h5, h6, h7⟩ := R.sl 0 _ h0
            have hpa : p = a := by
              have z : g'.S = some a := e.s
              rw [h7] at z
              cases z
              rfl
            subst hpa
            have nx := okT_ret q
            refine nx _ rfl R.box ?_
            rw [RepG, Rep]
            refine ⟨p, C', dx', vs, rfl, fun z => ?_, h3, h4, by rw [h6.length]; exact hn, h6.imp (fun b o q nb => ⟨q, fun z => nb ?_⟩) fun _ h => h⟩
            · rcases z with z | ⟨i, z⟩ | z
              · exact (R.sep 0 p h1).1 z
              · simp only at z
                split at z
                · cases z
                · rename_i hi
                  exact hi (R.inj i 0 p z h1)
              · exact (R.sep 0 p h1).2 z
            · rcases z with z | ⟨i, z⟩ | z
              · exact .inl z
              · simp only at z
                split at z
                · cases z
                · exact .inr (.inl ⟨i, z⟩)
              · exact .inr (.inr z)
          · simp only [outI, h0] at q
            rw [if_neg hc] at q
            exact (show False from q).elim
        | _ => simp only [outI, h0] at q; exact (show False from q).elim
    | rt t => exact (show False from q).elim
    | bk ρ => exact (show False from q).elim
    | ct ρ => exact (show False from q).elim
end
end Dn
set_option Elab.async false
set_option linter.all false
set_option maxRecDepth 100000
namespace Dn
open PySem PySem.Spec PyProof.Rows L2
theorem passE0 {P : Program} {w : World} {X : Cx} : Passes (L2.CX P w) X E0 := fun _ _ _ _ _ _ _ h => by
  obtain ⟨_, _, _, _, _, _, _, _, _, _, _, _, z⟩ := h
  exact z.elim
structure Df (P : Program) (w : World) (K : PySem.W.Frag) (mg : Str → Option Value) (base : Heap) (ct : CT) (β : BInv) (lv : Nat) (x : Str) (n : Nat) (ps : List Str) (fn : List AV → T AV) : Prop where
  ex : ∃ fa fd, FnOk P w K mg base (L2.CX P w) lv fa fd ps (spM ⟨K, mg, ct⟩ β n fn) ∧ mg x = some (.ref fa) ∧ PySem.W.keepIn K (.ref fa) = true ∧ Binds K fd ps []
  len : ∀ ts : List AV, T.all (fun _ => True) (fun _ _ => True) (fn ts) → ts.length = n
section
variable {P : Program} {w : World} {K : PySem.W.Frag} {mg : Str → Option Value} {base : Heap} {ct : CT} {β : BInv} {lv n : Nat} {x : Str} {ps : List Str} {fn : List AV → T AV}
theorem imp0 {fa : Addr} {fd : FuncData} {sp sp' : Sp} (F : FnOk P w K mg base CX0 lv fa fd ps sp) (h : ∀ vs H Q E, sp' vs H Q E → sp vs H Q E0) : FnOk P w K mg base (L2.CX P w) lv fa fd ps sp' :=
  ⟨fun vs H Q E q => F.len vs H Q E0 (h _ _ _ _ q), fun A outer s H args us vs Q E hr e b v q => codeAny_mono (F.run A outer s H args us vs Q E0 hr e b v (h _ _ _ _ q)) fun r s' z => by
    cases r with
    | error e => exact (show False from z).elim
    | ok f => cases f <;> exact z⟩
theorem deft0 {c0 : Gc} : Deft c0 [] [] := fun _ _ => .nil
end
section
variable {X : Cx} {ct : CT} {β : BInv} {Ex : XK} {e : Expr} {es : List Expr} {m : SemL} {pos p : Pos} {x : Str} {lv n c : Nat} {ps : List Str} {fn : List AV → T AV}
theorem j_callD (D : Df X.prog X.w X.K X.mg X.base ct β lv x n ps fn) (hr : Room lv X.A) (hx : Passes (L2.CX X.prog X.w) X Ex) (ha : JL X ct β Ex (e :: es) m) (hg : Gl X x := by rfl) (hdb : (x == ("__debug__" : Str)) = false := by decide +kernel)
    (he : starEach (e :: es) X.env = (false, eval e X.env) :: starEach es X.env := by rfl) (hpl : (backTo pos (starEach es X.env)).any (·.1) = false := by rfl) : JE X ct β Ex (.Call (.Name x p) (e :: es) [] pos) (fCall fn [] m) := by
  obtain ⟨fa, fd, F, h1, h2, h3⟩ := D.ex
  exact j_call F D.len hr h1 h2 h3 .nil deft0 hx ha hg hdb he hpl
def fMake (fn : List AV → T AV) (k : SemL) : Sem := fun ρ => (k ρ).bind fun p => (fn p.1).bind fun t => .ret (.val t, p.2)
structure Cf (P : Program) (w : World) (K : PySem.W.Frag) (mg : Str → Option Value) (base : Heap) (ct : CT) (β : BInv) (lv : Nat) (x : Str) (c n : Nat) (ps : List Str) (fn : List AV → T AV) : Prop where
  ex : ∃ C fa fd, Mk K C fa ∧ FnOk P w K mg base (L2.CX P w) lv fa fd ps (spI ⟨K, mg, ct⟩ β n c fn) ∧ mg x = some (.ref C) ∧ Binds K fd ps []
  nm : (ct c).1 = x
  len : ∀ ts : List AV, T.all (fun _ => True) (fun _ _ => True) (fn ts) → ts.length = n
end
def sParE3 (i j l : Nat) (f : Sem) : SSem := fun ρ => (f ρ).bind fun p => (frz p).bind fun q => if i < q.2.length ∧ j < q.2.length ∧ l < q.2.length ∧ j ≠ l then .ret (.nx (((q.2.set i (.fro q.1)).set j (.ml [])).set l (.ml []))) else .bad
def Wants3 (X : Cx) (ct : CT) (β : BInv) (Ex : XK) (i j l : Nat) (t : TA) (s : SSem) : Prop := ∀ (D : Ends) (σ : L2.St) (H : Hp), rdS (gc X ct) β Ex s D σ H → t σ H fun vs H1 => ∃ u v w, vs = [u, v, w] ∧ ∀ H2, Same H1 H2 → D.nx (((σ.set i (some u)).set j (some v)).set l (some w)) H2
section
variable {X : Cx} {ct : CT} {β : BInv} {Ex : XK} {a b c : Expr} {f : Sem} {pos px py pz pt pt2 pl pl2 : Pos} {kt k2 : Nat} {x y z : Str} {i j l : Nat}
end
section
variable {X : Cx} {ct : CT} {β : BInv} {Ex : XK} {elt tg iter : Expr} {ifs : List Expr} {f : SemI} {k : GSem} {tt : SemB} {el : Sem} {pos spos py : Pos} {scope : Scope} {own : List (Str × Nat)} {is : List Nat} {i : Nat} {y : Str}
theorem js_setLc (i : Nat) (hc : X.calm = true) (hN : X.N.Nodup) (ok : BlkOk X.N X.env.scope scope own) (hown : ∀ i ∈ is, i ∈ own.map (·.2)) (hi : JI X ct β Ex tg iter f)
    (hg : ∀ (s : Shared) (H : Hp) (C : Addr) (cl : List (Str × Addr)) (fp : List Addr), JG (X.blk s H scope (compEnvC scope cl C X.env) fp) ct β E0 tg is k) (ht : ∀ (s : Shared) (H : Hp) (C : Addr) (cl : List (Str × Addr)) (fp : List Addr), JTs (X.blk s H scope (compEnvC scope cl C X.env) fp) ct β E0 ifs tt)
    (he : ∀ (s : Shared) (H : Hp) (C : Addr) (cl : List (Str × Addr)) (fp : List Addr), JE (X.blk s H scope (compEnvC scope cl C X.env) fp) ct β E0 elt el)
    (hy : X.N[i]? = some y := by rfl) (hyl : X.env.scope.names.lookup y = some .local := by rfl) (hsw : swapsWith (.ListComp elt [⟨tg, iter, ifs, 0⟩] scope pos) (some (.Name y py)) spos.line X.env = pure true := by rfl) (hs : ∀ x, foldedSetIterable iter X.env x = pure x := by intro _; rfl) :
    JS X ct β Ex (.Assign [.Name y py] (.ListComp elt [⟨tg, iter, ifs, 0⟩] scope pos) spos) (sSet i (fNew (nLc (own.map (·.2)) f k tt el))) := by
  refine PS.imp (ps_setLc (g := rdG (gc X ct) β E0 is k) (tt := rdB (gc X ct) β E0 tt) (te := rdE (gc X ct) β E0 el) hc hN hy hyl hsw hi ok hg ht he hs) fun D σ H h => lc_ok (Ex := Ex) (Q := fun x H1 => gName i x σ H1 D.nx) hown ?_
  obtain ⟨g, ρ, R, h⟩ := h
  refine ⟨g, ρ, R, okT_bind0 (show okT (gc X ct) β Ex g H ((nLc (own.map (·.2)) f k tt el ρ).bind fun p => .ret (.nx (p.2.set i (.fro (.lst p.1))))) (endOk (gc X ct) β D) from ?_) fun p q g' H' e a vs hn na ho R' r => ?_⟩
  · have e : sSet i (fNew (nLc (own.map (·.2)) f k tt el)) ρ = (nLc (own.map (·.2)) f k tt el ρ).bind fun p => .ret (.nx (p.2.set i (.fro (.lst p.1)))) := by
      show ((nLc (own.map (·.2)) f k tt el ρ).bind _).bind _ = _
      rw [T.bind_assoc]
      rfl
    rw [← e]
    exact h
  · show D.nx (σ.set i (some (.ref a))) H'
    have R0 := R'.minus
    have rp : RepG (gc X ct) g' H' (.lst p.1) (.ref a) := rep_lst_new na ho (plus_reps r)
    by_cases hj : i < p.2.length
    · exact okT_ret' q (e.trans (ext_no g' i H')) _ (R0.setFro rp hj)
    · have q2 := okT_ret' q e
      rw [set_ge hj] at q2
      have : σ.set i (some (V.ref a)) = σ := List.set_eq_of_length_le (by rw [R0.len]; omega)
      rw [this]
      exact q2 σ R0
end
end Dn
set_option Elab.async false
set_option linter.all false
set_option maxRecDepth 100000
namespace Dn
open PySem PySem.Spec PyProof.Rows L2
abbrev NoX : Nat → List AV → Prop := fun _ _ => False
theorem bind_ret' {α γ : Type} {a : α} {f : α → T γ} : (T.ret a).bind f = f a := rfl
theorem lift_some {α : Type} {a : α} : lift (some a) = T.ret a := rfl
theorem all_noExc {α : Type} {Q : α → Prop} {E : Nat → List AV → Prop} {m : T α} (h : m.all Q NoX) : (noExc m).all Q E := by
  induction m with
  | ret a => exact h
  | bad => exact h
  | exc c xs => exact h
  | draw n k ih => exact fun r hr => ih r (h r hr)
theorem forL_all {k : GSem} {body : SSem} {Q : Out → Prop} {E : Nat → List AV → Prop} (I : Nat → Env' → Prop) {xs : List AV} {ρ : Env'} (h0 : I 0 ρ)
    (step : ∀ (i : Nat) (x : AV) (ρ : Env'), xs[i]? = some x → I i ρ → (k x ρ).all (fun ρ1 => (body ρ1).all (fun o => match o with | .nx ρ' => I (i + 1) ρ' | .ct ρ' => I (i + 1) ρ' | .bk ρ' => Q (.nx ρ') | .rt t => Q (.rt t)) E) E)
    (hend : ∀ ρ, I xs.length ρ → Q (.nx ρ)) : (forL k body xs ρ).all Q E := by
  have key : ∀ (n i : Nat) (ρ : Env'), xs.length - i = n → i ≤ xs.length → I i ρ → (forL k body (xs.drop i) ρ).all Q E := by
    intro n
    induction n with
    | zero =>
      intro i ρ hn hi h
      have e : i = xs.length := by omega
      subst e
      rw [List.drop_length]
      exact hend ρ h
    | succ n ih =>
      intro i ρ hn hi h
      have hlt : i < xs.length := by omega
      rw [List.drop_eq_getElem_cons hlt]
      show ((k xs[i] ρ).bind _).all Q E
      refine T.all_bind.mpr (T.all_mono (step i xs[i] ρ (List.getElem?_eq_getElem hlt) h) (fun ρ1 h1 => ?_) fun _ _ z => z)
      refine T.all_bind.mpr (T.all_mono h1 (fun o h2 => ?_) fun _ _ z => z)
      cases o with
      | nx ρ' => exact ih (i + 1) ρ' (by omega) (by omega) h2
      | ct ρ' => exact ih (i + 1) ρ' (by omega) (by omega) h2
      | bk ρ' => exact h2
      | rt t => exact h2
  have := key xs.length 0 ρ rfl (Nat.zero_le _) h0
  rwa [List.drop_zero] at this
theorem lcL_all {vs : List Nat} {k : GSem} {tt : SemB} {el : Sem} {E : Nat → List AV → Prop} (w : Env') (I : Nat → List AV → Prop) {xs : List AV} {ρ : Env'} (h0 : I 0 []) (hw : wipeE ρ vs = w)
    (step : ∀ (i : Nat) (x : AV) (acc : List AV), xs[i]? = some x → I i acc → (k x w).all (fun ρ1 => (tt ρ1).all (fun p => if p.1 = true then (el p.2).all (fun q => (frz q).all (fun z => wipeE z.2 vs = w ∧ I (i + 1) (acc ++ [z.1])) NoX) NoX else wipeE p.2 vs = w ∧ I (i + 1) acc) NoX) NoX) :
    (lcL vs k tt el xs [] ρ).all (fun r => wipeE r.2 vs = w ∧ I xs.length r.1) E := by
  have key : ∀ (n i : Nat) (acc : List AV) (ρ : Env'), xs.length - i = n → i ≤ xs.length → I i acc → wipeE ρ vs = w → (lcL vs k tt el (xs.drop i) acc ρ).all (fun r => wipeE r.2 vs = w ∧ I xs.length r.1) E := by
    intro n
    induction n with
    | zero =>
      intro i acc ρ hn hi h hw
      have e : i = xs.length := by omega
      subst e
      rw [List.drop_length]
      exact ⟨hw, h⟩
    | succ n ih =>
      intro i acc ρ hn hi h hw
      have hlt : i < xs.length := by omega
      rw [List.drop_eq_getElem_cons hlt]
      refine T.all_bind.mpr (all_noExc (T.all_bind.mpr ?_))
      rw [hw]
      refine T.all_mono (step i xs[i] acc (List.getElem?_eq_getElem hlt) h) (fun ρ1 h1 => ?_) fun _ _ z => z
      refine T.all_bind.mpr (T.all_mono h1 (fun p h2 => ?_) fun _ _ z => z)
      by_cases hp : p.1 = true
      · rw [if_pos hp] at h2 ⊢
        refine T.all_bind.mpr (T.all_mono h2 (fun q h3 => ?_) fun _ _ z => z)
        refine T.all_bind.mpr (T.all_mono h3 (fun z h4 => ?_) fun _ _ z => z)
        exact T.all_mono (ih (i + 1) _ _ (by omega) (by omega) h4.2 h4.1) (fun _ z => z) fun _ _ z => z
      · rw [if_neg hp] at h2 ⊢
        exact T.all_mono (ih (i + 1) _ _ (by omega) (by omega) h2.2 h2.1) (fun _ z => z) fun _ _ z => z
  have := key xs.length 0 [] ρ rfl (Nat.zero_le _) h0 hw
  rwa [List.drop_zero] at this
theorem backE_eq {ρ0 r : Env'} (vs : List Nat) (h : wipeE r vs = wipeE ρ0 vs) : backE ρ0 r vs = backE ρ0 ρ0 vs := by
  rw [← backE_wipe vs r, h, backE_wipe]
theorem nLc_all {vs : List Nat} {it : SemI} {k : GSem} {tt : SemB} {el : Sem} {Q : List AV × Env' → Prop} {E : Nat → List AV → Prop} {xs : List AV} {ρ ρ' : Env'} (I : Nat → List AV → Prop) (hit : it ρ = .ret (xs, ρ')) (hb : xs.length < big) (hback : backE ρ' ρ' vs = ρ') (h0 : I 0 [])
    (step : ∀ (i : Nat) (x : AV) (acc : List AV), xs[i]? = some x → I i acc → (k x (wipeE ρ' vs)).all (fun ρ1 => (tt ρ1).all (fun p => if p.1 = true then (el p.2).all (fun q => (frz q).all (fun z => wipeE z.2 vs = wipeE ρ' vs ∧ I (i + 1) (acc ++ [z.1])) NoX) NoX else wipeE p.2 vs = wipeE ρ' vs ∧ I (i + 1) acc) NoX) NoX)
    (hQ : ∀ ys, I xs.length ys → Q (ys, ρ')) : (nLc vs it k tt el ρ).all Q E := by
  unfold nLc
  rw [hit, bind_ret', if_pos hb]
  refine T.all_bind.mpr (T.all_mono (lcL_all (wipeE ρ' vs) I h0 rfl step) (fun r h => ?_) fun _ _ z => z)
  show Q (r.1, backE ρ' r.2 vs)
  rw [backE_eq vs h.1, hback]
  exact hQ _ h.2
end Dn
set_option Elab.async false
set_option linter.all false
set_option maxRecDepth 100000
namespace Dn
open PySem PySem.Spec PyProof.Rows L2
def maxL (x : Int) (r : List Int) : Int := r.foldl max x
def minL (x : Int) (r : List Int) : Int := r.foldl min x
def pMax1 (a : AV) : Option AV := match a with
  | .lst xs => match intsOf xs with
    | some (x :: r) => some (.int (maxL x r))
    | _ => none
  | _ => none
def pMin1 (a : AV) : Option AV := match a with
  | .lst xs => match intsOf xs with
    | some (x :: r) => some (.int (minL x r))
    | _ => none
  | _ => none
def pLcm (a b : AV) : Option AV := match a, b with
  | .int i, .int j => if 0 ≤ i ∧ below i 63 = true ∧ 0 ≤ j ∧ below j 63 = true then some (.int ((Nat.lcm i.natAbs j.natAbs : Nat) : Int)) else none
  | _, _ => none
section
variable {X : Cx} {ct : CT} {β : BInv} {Ex : XK} {a b e tg : Expr} {f k : Sem} {pos p p2 apos tpos : Pos} {x : Str} {id : String}
end
theorem reps_flat {c0 : Gc} {A D : Addr → Prop} {H : Hp} {xs : List AV} {vs : List V} (r : RepL c0 A D H xs vs) : ∀ k : Nat, RepL c0 A D H (List.replicate k xs).flatten (List.replicate k vs).flatten
  | 0 => .nil
  | k + 1 => by
    rw [List.replicate_succ, List.replicate_succ, List.flatten_cons, List.flatten_cons]
    exact r.append (reps_flat r k)
abbrev rMulA (K : PySem.W.Frag) : R2 := fun x y H Q => ((rI CMulX fun i j => .int (i * j)) x y H Q ∨ rRep x y H Q) ∨ rRepT K x y H Q
section
variable {X : Cx} {ct : CT} {β : BInv} {Ex : XK}
theorem op_mulA : OpR X (binaryOp .Mult) (rMulA X.K) := (op_mulX.or op_rep).or op_repT
theorem o_mul : Op2' X ct (rMulA X.K) pMul := by
  intro g H a b z x y Q live ra rb e q
  cases a <;> cases b <;> first | (simp [pMul] at e; done) | skip
  · obtain ⟨h, rfl⟩ := ifp_some e
    refine .inl (.inl ⟨_, _, ra.int, rb.int, mulx_ok Nat.lt_log2_self Nat.lt_log2_self (by omega), q _ H (Same.refl H) rep_int⟩)
  · rename_i xs i
    obtain ⟨h, rfl⟩ := ifp_some e
    obtain ⟨a', vs, rfl, h1, r1⟩ := ra.tup
    refine .inr ⟨a', _, vs, rfl, rb.int, h1, fun z => ?_, h.2.1, h.2.2.1, by rw [r1.length]; exact h.2.2.2, fun p hp => ?_⟩
    · have := reps_nil r1 z
      rw [this] at h
      exact absurd h.1 (by simp)
    · have s := same_upd (o := .tup (List.replicate i.toNat vs).flatten) hp
      exact q _ _ s (rep_tup_new (fun z => live p z hp) upd_same ((Ext.same s).reps (reps_flat r1 _)))
  · rename_i xs i
    obtain ⟨h, rfl⟩ := ifp_some e
    obtain ⟨a', vs, rfl, h1, r1⟩ := ra.lst'
    refine .inl (.inr ⟨a', _, vs, rfl, rb.int, h1, by omega, by omega, by rw [r1.length]; exact Nat.le_trans h.2.1 big_line, fun p hp => ?_⟩)
    have s := same_upd (o := .lst (List.replicate i.toNat vs).flatten) hp
    exact q _ _ s (rep_lst_new (fun z => live p z hp) upd_same ((Ext.same s).reps (reps_flat r1 _)))
end
def DR (c0 : Gc) (A D : Addr → Prop) (H : Hp) : List (AV × AV) → List (Key × V) → Prop := Paired fun a u => keyOf1 a.1 = some u.1 ∧ Rep c0 A D H a.2 u.2
def dFind (kvs : List (AV × AV)) (k : Key) : Option AV := (kvs.find? fun q => decide (keyOf1 q.1 = some k)).map (·.2)
def dPut (kvs : List (AV × AV)) (ka : AV) (k : Key) (v : AV) : List (AV × AV) :=
  if (kvs.any fun q => decide (keyOf1 q.1 = some k)) = true then kvs.map (fun q => if keyOf1 q.1 = some k then (q.1, v) else q) else kvs ++ [(ka, v)]
def dDrop (kvs : List (AV × AV)) (k : Key) : List (AV × AV) := kvs.filter fun q => decide (keyOf1 q.1 ≠ some k)
section
variable {c0 : Gc} {A D A' D' : Addr → Prop} {H H' : Hp}
theorem dr_of : ∀ {kvs : List (AV × AV)} {ws : List (AV × V)} {us : List (Key × V)}, KVs c0 A D H kvs ws → DicK ws us → DR c0 A D H kvs us
  | [], ws, us, h, h' => by
    have e : ws = [] := h
    subst e
    cases h'
    exact .nil
  | (ka, xa) :: r, ws, us, h, h' => by
    obtain ⟨v, ws', e, h1, h2⟩ := h
    subst e
    cases h' with
    | cons q t =>
      refine .cons ⟨q.1, ?_⟩ (dr_of h2 t)
      have e2 := q.2
      rw [← e2]
      exact h1
theorem DR.length {kvs : List (AV × AV)} {us : List (Key × V)} (h : DR c0 A D H kvs us) : kvs.length = us.length := Paired.length h
theorem DR.val {kvs : List (AV × AV)} {us : List (Key × V)} (r : DR c0 A D H kvs us) (k : Key) : (dFind kvs k = none ∧ valV us k = none) ∨ ∃ t v, dFind kvs k = some t ∧ valV us k = some v ∧ Rep c0 A D H t v := by
  unfold DR at r
  induction r with
  | nil => exact .inl ⟨rfl, rfl⟩
  | @cons q u ps us h t ih =>
    by_cases e : u.1 = k
    · refine .inr ⟨q.2, u.2, ?_, valV_pos e, h.2⟩
      unfold dFind
      rw [List.find?_cons, show decide (keyOf1 q.1 = some k) = true from decide_eq_true (by rw [h.1, e])]
      rfl
    · have e2 : dFind (q :: ps) k = dFind ps k := by
        unfold dFind
        rw [List.find?_cons, show decide (keyOf1 q.1 = some k) = false from decide_eq_false (by rw [h.1]; exact fun z => e (Option.some.inj z))]
      rw [e2, valV_neg e]
      exact ih
theorem dAny (k : Key) : ∀ kvs : List (AV × AV), (kvs.any fun q => decide (keyOf1 q.1 = some k)) = (dFind kvs k).isSome
  | [] => rfl
  | q :: r => by
    unfold dFind
    rw [List.any_cons, List.find?_cons]
    by_cases e : keyOf1 q.1 = some k
    · rw [show decide (keyOf1 q.1 = some k) = true from decide_eq_true e]; rfl
    · rw [show decide (keyOf1 q.1 = some k) = false from decide_eq_false e, Bool.false_or]; exact dAny k r
theorem DR.put {kvs : List (AV × AV)} {us : List (Key × V)} {ka va : AV} {k : Key} {v : V} (r : DR c0 A D H kvs us) (hk : keyOf1 ka = some k) (rv : Rep c0 A D H va v) : DR c0 A D H (dPut kvs ka k va) (putK us k v) := by
  have e : (kvs.any fun q => decide (keyOf1 q.1 = some k)) = (us.any fun u => decide (u.1 = k)) := by
    rw [dAny, valV_any]
    rcases r.val k with ⟨h1, h2⟩ | ⟨t, w, h1, h2, _⟩
    · rw [h1, h2]; rfl
    · rw [h1, h2]; rfl
  unfold dPut putK
  rw [e]
  by_cases q : (us.any fun u => decide (u.1 = k)) = true
  · rw [if_pos q, if_pos q]
    clear q e
    unfold DR at r ⊢
    induction r with
    | nil => exact .nil
    | @cons q u ps us h t ih =>
      rw [List.map_cons, List.map_cons]
      refine .cons ?_ ih
      by_cases e : u.1 = k
      · rw [if_pos e, if_pos (by rw [h.1, e])]; exact ⟨h.1, rv⟩
      · rw [if_neg e, if_neg (by rw [h.1]; exact fun z => e (Option.some.inj z))]; exact h
  · rw [if_neg q, if_neg q]
    exact Paired.snoc r ⟨hk, rv⟩
theorem DR.drop {kvs : List (AV × AV)} {us : List (Key × V)} (k : Key) (r : DR c0 A D H kvs us) : DR c0 A D H (dDrop kvs k) (dropK us k) := by
  unfold DR at r ⊢
  unfold dDrop dropK
  induction r with
  | nil => exact .nil
  | @cons q u ps us h t ih =>
    rw [List.filter_cons, List.filter_cons]
    by_cases e : u.1 = k
    · rw [if_neg (show ¬ decide (keyOf1 q.1 ≠ some k) = true by simp [h.1, e]), if_neg (show ¬ decide (u.1 ≠ k) = true by simp [e])]
      exact ih
    · rw [if_pos (show decide (keyOf1 q.1 ≠ some k) = true by simp [h.1, e]), if_pos (show decide (u.1 ≠ k) = true by simp [e])]
      exact .cons h ih
theorem rep_key {g : G} {t : AV} {k : Key} (h : keyOf1 t = some k) : RepG c0 g H t (kV k) := by
  cases t with
  | int i => cases h; exact rep_int
  | str s => cases h; exact rep_str
  | _ => cases h
theorem DR.keys {g : G} {kvs : List (AV × AV)} {us : List (Key × V)} (r : DR c0 A D H kvs us) : RepsG c0 g H' (kvs.map (·.1)) (us.map fun u => kV u.1) := by
  unfold DR at r
  induction r with
  | nil => exact .nil
  | cons h t ih => exact .cons (rep_key h.1) ih
end
def isMd (ρ : Env') (j : Nat) : Option (List (AV × AV)) := match ρ[j]? with
  | some (.md true kvs) => some kvs
  | _ => none
section
variable {c0 : Gc} {β : BInv} {g : G} {H : Hp} {ρ : Env'} {σ : L2.St} {a : Addr}
theorem Rel.md {j : Nat} {kvs : List (AV × AV)} (R : Rel c0 β g ρ σ H) (h : ρ[j]? = some (.md true kvs)) : ∃ p us, g.own j = some p ∧ σ[j]? = some (some (.ref p)) ∧ H p = some (.dK us) ∧ DR c0 g.Av g.D H kvs us := by
  obtain ⟨p, ws, e1, e2, e3, e4⟩ := R.sl j _ h
  rcases e4 with ⟨us, e4, e5, _⟩ | ⟨_, _, _, e⟩
  · exact ⟨p, us, e1, e2, e4, dr_of e3 e5⟩
  · cases e
theorem DR.ext {g' : G} {H' : Hp} {kvs : List (AV × AV)} {us : List (Key × V)} (e : Ext g g' H H') (r : DR c0 g.Av g.D H kvs us) : DR c0 g'.Av g'.D H' kvs us := Paired.mapP r fun _ _ q => ⟨q.1, q.2.imp (fun _ _ q n => e.av q n) e.dsub⟩
end
theorem okT_ext {c0 : Gc} {β : BInv} {Ex : XK} {α : Type} {g g1 : G} {H H1 : Hp} {m : T α} {Q : G → Hp → α → Prop} (h : okT c0 β Ex g H m Q) (e : Ext g g1 H H1) : okT c0 β Ex g1 H1 m Q :=
  T.all_mono h (fun _ q g' H' e' => q g' H' (e.trans e')) fun c xs q g' H' C d vs e' => q g' H' C d vs (e.trans e')
def nAdd (f k : Sem) : SemN := fun ρ => (f ρ).bind fun p => (k p.2).bind fun q => (lift (rs p.1 q.2)).bind fun a => (lift (lstOf a)).bind fun xs => (lift (rs q.1 q.2)).bind fun b => (lift (lstOf b)).bind fun ys => if xs.length + ys.length ≤ big then .ret (xs ++ ys, q.2) else .bad
section
variable {X : Cx} {ct : CT} {β : BInv} {Ex : XK} {a b : Expr} {f k : Sem} {pos : Pos}
end
def sDnew (i : Nat) : SSem := fun ρ => .ret (.nx (ρ.set i (.md true [])))
def tDin (j : Nat) (f : Sem) : SemB := fun ρ => (f ρ).bind fun p => (lift (rs p.1 p.2)).bind fun a => (lift (keyOf1 a)).bind fun k => (lift (isMd p.2 j)).bind fun kvs => .ret ((dFind kvs k).isSome, p.2)
def tDnotIn (j : Nat) (f : Sem) : SemB := fun ρ => (f ρ).bind fun p => (lift (rs p.1 p.2)).bind fun a => (lift (keyOf1 a)).bind fun k => (lift (isMd p.2 j)).bind fun kvs => .ret (!(dFind kvs k).isSome, p.2)
def sDput (j : Nat) (fk fv : Sem) : SSem := fun ρ => (fv ρ).bind fun p => (frz p).bind fun q => (lift (isMd q.2 j)).bind fun _ => (fk q.2).bind fun r => (lift (rs r.1 r.2)).bind fun a => (lift (keyOf1 a)).bind fun k => (lift (isMd r.2 j)).bind fun kvs =>
  if kvs.length < big then .ret (.nx (r.2.set j (.md true (dPut kvs a k q.1)))) else .bad
def fDget (j : Nat) (fk : Sem) : Sem := fun ρ => (lift (isMd ρ j)).bind fun _ => (fk ρ).bind fun r => (lift (rs r.1 r.2)).bind fun a => (lift (keyOf1 a)).bind fun k => (lift (isMd r.2 j)).bind fun kvs => (lift (dFind kvs k)).bind fun v => .ret (.val v, r.2)
def sDdel (j : Nat) (fk : Sem) : SSem := fun ρ => (lift (isMd ρ j)).bind fun _ => (fk ρ).bind fun r => (lift (rs r.1 r.2)).bind fun a => (lift (keyOf1 a)).bind fun k => (lift (isMd r.2 j)).bind fun kvs => (lift (dFind kvs k)).bind fun _ => .ret (.nx (r.2.set j (.md true (dDrop kvs k))))
def fDlist (j : Nat) : Sem := fun ρ => (lift (isMd ρ j)).bind fun kvs => .ret (.val (.lst (kvs.map (·.1))), ρ)
section
variable {X : Cx} {ct : CT} {β : BInv} {Ex : XK} {a b e tg value : Expr} {f k fk fv : Sem} {pos pos' p p2 apos tpos : Pos} {x : Str} {id : String}
end
section
variable {X : Cx} {ct : CT} {β : BInv} {Ex : XK} {a b e tg value : Expr} {f k fk fv : Sem} {pos pos' p p2 apos tpos : Pos} {x : Str} {id : String}
def rLcm : List V → Hp → VK → Prop := fun vs H Q => ∃ a b : Int, vs = [.int a, .int b] ∧ (0 ≤ a ∧ a < 2 ^ 63) ∧ (0 ≤ b ∧ b < 2 ^ 63) ∧ Q (.int ((Nat.lcm a.natAbs b.natAbs : Nat) : Int)) H
end
def enumL : Nat → List AV → List AV
  | _, [] => []
  | i, x :: xs => .tup [.int (i : Nat), x] :: enumL (i + 1) xs
def iEnumL (f : Sem) : SemI := fun ρ => (f ρ).bind fun p => (frz p).bind fun q => (lift (lstOf q.1)).bind fun xs => .ret (enumL 0 xs, q.2)
section
variable {X : Cx} {ct : CT} {β : BInv} {Ex : XK} {e : Expr} {f : Sem} {p pos tpos : Pos} {elts : List Expr} {kk : Nat}
end
end Dn
namespace Dn
open PySem PySem.Spec PyProof.Rows L2
section
variable {X : Cx} {ct : CT} {β : BInv} {Ex : XK} {e : Expr} {es : List Expr} {m : SemL} {pos p : Pos} {x : Str} {lv n c : Nat} {ps : List Str} {fn : List AV → T AV}
end
def g0 : G := ⟨fun _ => False, fun _ => none, fun _ => False, fun _ => False, none⟩
def spLaw (K : PySem.W.Frag) : Sp := fun vs H Q _ => ∃ (a : Addr) (ns : List Int), vs = [.ref a] ∧ SqL K H a (ns.map V.int) ∧ ns.length ≤ 63 ∧ ∀ H', Q (.bl true) H'
theorem law_end {P : Program} {w : World} {K : PySem.W.Frag} {mg : Str → Option Value} {base : Heap} {ct : CT} {β : BInv} {lv : Nat} {fa : Addr} {fd : FuncData} {x : Str} {fn : List AV → T AV} (F : FnOk P w K mg base (L2.CX P w) lv fa fd [x] (spM ⟨K, mg, ct⟩ β 1 fn))
    (hb : ∀ H, β.I (fun _ => False) (fun _ => False) H) (h : ∀ ns : List Int, ns.length ≤ 63 → (fn [.scr ns]).all (fun t => t = .bl true) NoX) : FnOk P w K mg base (L2.CX P w) lv fa fd [x] (spLaw K) := by
  refine F.imp fun vs H Q E hs => ?_
  obtain ⟨a, ns, rfl, hS, hl, q⟩ := hs
  refine ⟨g0, [.scr ns], fun _ => rfl, fun _ z => z.elim, fun _ z => z.elim, hb H, .one ?_, rfl, ?_⟩
  · rw [Rep]
    refine ⟨a, rfl, ?_⟩
    rcases hS with z | z
    · exact .inl ⟨fun z => z.elim (fun z => z) fun z => z.elim (fun ⟨_, z⟩ => by cases z) fun z => z, z⟩
    · exact .inr fun H' => .inr z
  · refine T.all_mono (h ns hl) (fun t et g' H' _ v _ rv => ?_) fun _ _ z => z.elim
    subst et
    rw [RepG, Rep] at rv
    subst rv
    exact q H'
end Dn
namespace Dn
open PySem PySem.Spec PyProof.Rows L2
def isTrue : T AV → Bool
  | .ret (.bl b) => b
  | _ => false
end Dn
namespace Dn
open PySem PySem.Spec PyProof.Rows L2
theorem cx_none {P : Program} (w : World) (H : Hp) (s : Shared) (e : Value) (s' : Shared) (h : L2.CX P w [] H s (fun _ _ _ => False) e s') : False := by
  obtain ⟨_, _, _, _, _, _, _, _, _, _, _, _, z⟩ := h
  exact z
end Dn
set_option Elab.async false
set_option linter.all false
set_option maxRecDepth 100000
namespace Dn
open PySem PySem.Spec PyProof.Rows L2
def BoxI (ok : List V → Prop) : BInv where
  I := fun B D H => (∀ a, B a → ∃ vs, H a = some (.lst vs) ∧ ok vs) ∧ ∀ a, D a → B a
  live := fun h b => by
    obtain ⟨vs, e, _⟩ := h.1 _ b
    rw [e]
    exact fun z => by cases z
  nt := fun h b ws z => by
    obtain ⟨vs, e, _⟩ := h.1 _ b
    rw [e] at z
    cases z
  top := fun h d => h.2 _ d
  frame := fun h k => ⟨fun a b => by
    obtain ⟨vs, e, q⟩ := h.1 a b
    exact ⟨vs, by rw [k a b]; exact e, q⟩, h.2⟩
def sRetBox (test : List AV → Bool) (f : SemN) : SSem := fun ρ => (f ρ).bind fun p => if test p.1 then .ret (.rt .box) else .bad
section
variable {X : Cx} {ct : CT} {ok : List V → Prop} {Ex : XK} {a : Expr} {f : SemN} {pos : Pos} {test : List AV → Bool}
end
def spDraw (ok : List V → Prop) : Sp := fun vs H Q _ => ∃ (D : Addr) (b : Int) (l : List V), vs = [.ref D, .int b] ∧ H D = some (.lst l) ∧ ok l ∧ 1 ≤ b ∧ b < 2 ^ 64 ∧ ∀ (digit : Int) (l' : List V), 0 ≤ digit → digit < b → ok l' → Q (.int digit) (upd H D (.lst l'))
def fDraw : List AV → T AV
  | [.box, .int b] => if 1 ≤ b ∧ below b 64 = true then .draw b.toNat fun r => .ret (.int r) else .bad
  | _ => .bad
theorem fDraw_len (ts : List AV) (h : T.all (fun _ => True) (fun _ _ => True) (fDraw ts)) : ts.length = 2 := by
  unfold fDraw at h
  split at h
  · rfl
  · exact h.elim
theorem draw_of {P : Program} {w : World} {K : PySem.W.Frag} {mg : Str → Option Value} {base : Heap} {ct : CT} {ok : List V → Prop} {lv : Nat} {fa : Addr} {fd : FuncData} {ps : List Str} (F : FnOk P w K mg base CX0 lv fa fd ps (spDraw ok)) :
    FnOk P w K mg base (L2.CX P w) lv fa fd ps (spM ⟨K, mg, ct⟩ (BoxI ok) 2 fDraw) := by
  refine imp0 F fun vs H Q E h => ?_
  obtain ⟨g, ts, ho, hm, hmb, hb, r, hl, h⟩ := h
  have done : ∀ {ts : List AV}, okT ⟨K, mg, ct⟩ (BoxI ok) E g H (fDraw ts) (fun g' H' t => ∀ v, (BoxI ok).I g'.B g'.D H' → RepG ⟨K, mg, ct⟩ g' H' t v → Q v H') → ∃ b, ts = [.box, .int b] ∧ 1 ≤ b ∧ b < 2 ^ 64 ∧ ∀ r, r < b.toNat → ∀ g' H', Ext g g' H H' → ∀ v, (BoxI ok).I g'.B g'.D H' → RepG ⟨K, mg, ct⟩ g' H' (.int r) v → Q v H' := fun {ts} h => by
    unfold fDraw at h
    split at h
    · rename_i b
      by_cases hb : 1 ≤ b ∧ below b 64 = true
      · rw [if_pos hb] at h
        exact ⟨b, rfl, hb.1, by have := below_iff.mp hb.2; omega, h⟩
      · rw [if_neg hb] at h
        exact (show False from h).elim
    · exact (show False from h).elim
  obtain ⟨b, rfl, h1, h2, h3⟩ := done h
  rw [RepsG, RepL] at r
  obtain ⟨v, r1, rfl, hv, r⟩ := r
  rw [RepL] at r
  obtain ⟨v2, r2, rfl, hv2, r⟩ := r
  rw [RepL] at r
  subst r
  have hv : ∃ a, v = .ref a ∧ g.D a := by
    rw [Rep] at hv
    exact hv
  have hv2 : v2 = .int b := by
    rw [Rep] at hv2
    exact hv2
  obtain ⟨D, rfl, hD⟩ := hv
  subst hv2
  have hB := (BoxI ok).top hb hD
  obtain ⟨l, el, ol⟩ := hb.1 D hB
  refine ⟨D, b, l, rfl, el, ol, h1, h2, fun digit l' d0 d1 o' => ?_⟩
  have lD : H D ≠ none := by rw [el]; exact fun z => by cases z
  have e : Ext g g H (upd H D (.lst l')) := ⟨fun a o q _ nb => by rw [upd_ne (fun z => nb (by rw [z]; exact hB))]; exact q, fun a q => by
    by_cases z : a = D
    · rw [z, upd_same]; exact fun z => by cases z
    · rw [upd_ne z]; exact q, rfl, fun _ h => h, fun _ h => .inl h, fun _ h => h, fun i a h => .inl ⟨i, h⟩, rfl⟩
  have ed : ((digit.toNat : Nat) : Int) = digit := by omega
  have := h3 digit.toNat (by omega) g _ e (.int digit) ⟨fun a ha => ?_, hb.2⟩ (by rw [ed]; exact rep_int)
  · exact this
  · by_cases z : a = D
    · exact ⟨l', by rw [z, upd_same], o'⟩
    · rw [upd_ne z]
      exact hb.1 a ha
def okB (vs : List V) : Prop := ∃ c s : Int, vs = [.int c, .int s] ∧ 0 ≤ c ∧ 0 ≤ s ∧ s ≤ 2147483647
def testB : List AV → Bool
  | [.int c, .int s] => decide (0 ≤ c ∧ 0 ≤ s ∧ s ≤ 2147483647)
  | _ => false
end Dn
namespace Dn
open PySem PySem.Spec PyProof.Rows L2
def pRepr (a : AV) : Option AV := match a with
  | .int i => if i.natAbs.log2 < 1920 then some (.str (toString i)) else none
  | _ => none
end Dn
set_option Elab.async false
set_option linter.all false
set_option maxRecDepth 100000
namespace PySem
namespace TrE
open Sem (wp)
open AutoSeq1 (wpAny_loadPart')
end TrE
end PySem
namespace Dn
open PySem PySem.Spec PyProof.Rows L2
def IteT (K : PySem.W.Frag) (a : Addr) (n : Nat) : It :=
  ⟨fun i H => ∃ (xs : List V) (x : V), SqT K H a xs ∧ xs.length = n ∧ xs[i]? = some x, fun i H v H' => ∃ p x, v = .ref p ∧ H p = none ∧ H' = upd H p (.tup [.int (i : Nat), x]) ∧ ∀ xs, SqT K H a xs → xs[i]? = some x, fun i H => (∃ xs : List V, SqT K H a xs ∧ xs.length = n) ∧ n ≤ i⟩
def iEnA (K : PySem.W.Frag) (ta : TA) : TI := fun σ H R => ta σ H fun vs H1 => ∃ a xs, vs = [.ref a] ∧ ((SqL K H1 a xs ∧ R (Ite K a) H1) ∨ (SqT K H1 a xs ∧ R (IteT K a xs.length) H1))
def iEnum (f : Sem) : SemI := fun ρ => (f ρ).bind fun p => (frz p).bind fun q => (lift (seqOf q.1)).bind fun xs => .ret (enumL 0 xs, q.2)
end Dn
set_option Elab.async false
set_option linter.all false
set_option maxRecDepth 100000
namespace Dn
open PySem PySem.Spec PyProof.Rows L2
section
variable {Q : Out → Prop} {E : Nat → List AV → Prop} {ρ : Env'} {f k : SSem} {fe : Sem} {fn : SemN} {fb : SemB} {i : Nat}
def Nx (R : Env' → Prop) (Q : Out → Prop) : Out → Prop
  | .nx ρ => R ρ
  | o => Q o
theorem range_len (lo : Int) (n : Nat) : (rangeL lo n).length = n := by
  unfold rangeL
  rw [List.length_map, List.length_range]
theorem range_get {lo : Int} {n i : Nat} {x : AV} (h : (rangeL lo n)[i]? = some x) : i < n ∧ x = .int (lo + (i : Int)) := by
  unfold rangeL at h
  rw [List.getElem?_map] at h
  by_cases hi : i < n
  · rw [List.getElem?_range hi] at h
    cases h
    exact ⟨hi, rfl⟩
  · rw [List.getElem?_eq_none (by rw [List.length_range]; omega)] at h
    cases h
theorem fnOf_all {np n : Nat} {body : SSem} {ts : List AV} {R : AV → Prop} (hl : ts.length = np) (h : (body (ts.map Slot.fro ++ List.replicate (n - np) .un)).all (fun o => match o with | .rt t => R t | .nx _ => R .non | _ => False) E) : (fnOf np n body ts).all R E := by
  unfold fnOf
  rw [if_pos hl]
  refine T.all_bind.mpr (T.all_mono h (fun o q => ?_) fun _ _ z => z)
  cases o <;> exact q
def NxI (I : Env' → Prop) : Out → Prop
  | .nx ρ => I ρ
  | _ => False
end
end Dn
set_option Elab.async false
set_option linter.all false
set_option maxRecDepth 100000
namespace Dn
open PySem PySem.Spec PyProof.Rows L2
@[irreducible] def T.Al {α : Type} (m : T α) (Q : α → Prop) (E : Nat → List AV → Prop) : Prop := m.all Q E
theorem al_iff {α : Type} {m : T α} {Q : α → Prop} {E : Nat → List AV → Prop} : m.Al Q E ↔ m.all Q E := by
  unfold T.Al
  exact Iff.rfl
section
variable {α γ : Type} {Q : Out → Prop} {E : Nat → List AV → Prop} {ρ : Env'} {f k : SSem} {fe : Sem} {fn : SemN} {fb : SemB} {i : Nat}
theorem al_mono {m : T α} {P P' : α → Prop} (h : m.Al P E) (hp : ∀ a, P a → P' a) : m.Al P' E := al_iff.mpr (T.all_mono (al_iff.mp h) hp fun _ _ z => z)
theorem al_bind {m : T α} {g : α → T γ} {P : α → Prop} {R : γ → Prop} (h : m.Al P E) (h2 : ∀ a, P a → (g a).Al R E) : (m.bind g).Al R E := al_iff.mpr (T.all_bind.mpr (T.all_mono (al_iff.mp h) (fun a z => al_iff.mp (h2 a z)) fun _ _ z => z))
theorem aFn {np n : Nat} {body : SSem} {ts : List AV} {R : AV → Prop} (hl : ts.length = np) (h : (body (ts.map Slot.fro ++ List.replicate (n - np) .un)).Al (fun o => match o with | .rt t => R t | .nx _ => R .non | _ => False) E) : (fnOf np n body ts).Al R E := al_iff.mpr (fnOf_all hl (al_iff.mp h))
end
end Dn
namespace Dn
open PySem PySem.Spec PyProof.Rows L2
def pIs (a b : AV) : Option AV := match b with
  | .non => pIsN a .non
  | .bl k => match a with
    | .bl j => some (.bl (decide (j = k)))
    | _ => none
  | _ => none
def pNotIs (a b : AV) : Option AV := match b with
  | .non => pNotN a .non
  | .bl k => match a with
    | .bl j => some (.bl (!decide (j = k)))
    | _ => none
  | _ => none
section
variable {X : Cx} {ct : CT}
theorem op_isA : OpR X (compareOp .Is) (fun x y H Q => (y = .non ∧ Q (.bl (decide (x = .non))) H) ∨ (∃ a b, x = .bl a ∧ y = .bl b ∧ Q (.bl (decide (a = b))) H)) := op_isN.or op_is_bl
theorem op_isnotA : OpR X (compareOp .IsNot) (fun x y H Q => (y = .non ∧ Q (.bl (!decide (x = .non))) H) ∨ (∃ a b, x = .bl a ∧ y = .bl b ∧ Q (.bl (!decide (a = b))) H)) := op_notN.or op_isnot_bl
theorem o_isA : Op2p X ct (fun x y H Q => (y = .non ∧ Q (.bl (decide (x = .non))) H) ∨ (∃ a b, x = .bl a ∧ y = .bl b ∧ Q (.bl (decide (a = b))) H)) pIs := by
  intro g H a b z x y Q ra rb e q
  cases b with
  | non => exact .inl (o_isN g H a .non z x y Q ra rb e q)
  | bl k =>
    cases a with
    | bl j =>
      cases e
      exact .inr ⟨j, k, ra.bl, rb.bl, q _ rep_bl⟩
    | _ => cases e
  | _ => cases e
theorem o_isnotA : Op2p X ct (fun x y H Q => (y = .non ∧ Q (.bl (!decide (x = .non))) H) ∨ (∃ a b, x = .bl a ∧ y = .bl b ∧ Q (.bl (!decide (a = b))) H)) pNotIs := by
  intro g H a b z x y Q ra rb e q
  cases b with
  | non => exact .inl (o_notN g H a .non z x y Q ra rb e q)
  | bl k =>
    cases a with
    | bl j =>
      cases e
      exact .inr ⟨j, k, ra.bl, rb.bl, q _ rep_bl⟩
    | _ => cases e
  | _ => cases e
def rRepS : List V → Hp → VK → Prop := fun xs H Q => (∃ i, xs = [.int i] ∧ i.natAbs.log2 < 1920 ∧ Q (.str (toString i)) H) ∨ (∃ b, xs = [.bl b] ∧ Q (.str (if b then "True" else "False")) H) ∨ (xs = [.non] ∧ Q (.str "None") H)
def pReprS (a : AV) : Option AV := match a with
  | .int i => if i.natAbs.log2 < 1920 then some (.str (toString i)) else none
  | .bl b => some (.str (if b then "True" else "False"))
  | .non => some (.str "None")
  | _ => none
end
end Dn
set_option Elab.async false
set_option linter.all false
set_option maxRecDepth 100000
namespace Dn
open PySem PySem.Spec PyProof.Rows L2
structure FnG (P : Program) (w : World) (K : PySem.W.Frag) (mg : Str → Option Value) (base : Heap) (cx : CXT) (lv : Nat) (fa : Addr) (fd : FuncData) (ps : List Str) (sp : Sp) : Prop where
  len : ∀ vs H Q E, sp vs H Q E → vs.length = ps.length
  go : ∀ (A : Around), A.guards = some [] → Room lv A → ∀ (out : List Env) (s : Shared) (H : Hp) (ar : Args) (us : List Value) (vs : List V) (Q : VK) (E : XK), Env0 P w K mg base A out s H → BindsTo s fd ar (ps.zip us) → Vals vs us → sp vs H Q E → codeAny (model P w) A (.call (.ref fa) ar) (CR cx out P w H s Q E) s
section
variable {P : Program} {w : World} {K : PySem.W.Frag} {mg : Str → Option Value} {base : Heap} {cx : CXT} {lv : Nat} {fa : Addr} {fd : FuncData} {ps : List Str} {sp sp' : Sp}
theorem FnG.of (F : FnOk P w K mg base cx lv fa fd ps sp) : FnG P w K mg base cx lv fa fd ps sp := ⟨F.len, fun A _ r out s H ar us vs Q E e b v q => F.run A out s H ar us vs Q E r e b v q⟩
theorem FnG.imp (F : FnG P w K mg base cx lv fa fd ps sp) (h : ∀ vs H Q E, sp' vs H Q E → sp vs H Q E) : FnG P w K mg base cx lv fa fd ps sp' := ⟨fun vs H Q E q => F.len vs H Q E (h _ _ _ _ q), fun A g r out s H ar us vs Q E e b v q => F.go A g r out s H ar us vs Q E e b v (h _ _ _ _ q)⟩
end
section
variable {X : Cx} {cx : CXT} {lv : Nat} {fa : Addr} {fd : FuncData} {ps : List Str} {sp : Sp} {dvs : List V} {ds : List Value} {E : XK} {x : Str} {p pos : Pos} {e : Expr} {es : List Expr} {t : TA}
end
end Dn
set_option Elab.async false
set_option linter.all false
set_option maxRecDepth 100000
namespace Dn
open PySem PySem.Spec PyProof.Rows L2
section
variable {P : Program} {w : World} {K : PySem.W.Frag} {mg mb : Str → Option Value} {cx : CXT} {lv : Nat} {fa a : Addr} {fd : FuncData} {x : Str} {sp : Sp} {s1 : Shared} {us : List Value} {ns : List Int}
end
end Dn
set_option Elab.async false
set_option linter.all false
set_option maxRecDepth 100000
namespace Dn
open PySem PySem.Spec PyProof.Rows L2
structure DfG (P : Program) (w : World) (K : PySem.W.Frag) (mg : Str → Option Value) (base : Heap) (ct : CT) (β : BInv) (lv : Nat) (x : Str) (n : Nat) (ps : List Str) (fn : List AV → T AV) : Prop where
  ex : ∃ fa fd, FnG P w K mg base (L2.CX P w) lv fa fd ps (spM ⟨K, mg, ct⟩ β n fn) ∧ mg x = some (.ref fa) ∧ PySem.W.keepIn K (.ref fa) = true ∧ Binds K fd ps []
  len : ∀ ts : List AV, T.all (fun _ => True) (fun _ _ => True) (fn ts) → ts.length = n
section
variable {P : Program} {w : World} {K : PySem.W.Frag} {mg : Str → Option Value} {base : Heap} {ct : CT} {β : BInv}
theorem Df.g {lv n : Nat} {x : Str} {ps : List Str} {fn : List AV → T AV} (D : Df P w K mg base ct β lv x n ps fn) : DfG P w K mg base ct β lv x n ps fn := by
  obtain ⟨fa, fd, F, h1, h2, h3⟩ := D.ex
  exact ⟨⟨fa, fd, FnG.of F, h1, h2, h3⟩, D.len⟩
end
section
variable {X : Cx} {ct : CT} {β : BInv} {Ex : XK} {e : Expr} {es : List Expr} {m : SemL} {pos p : Pos} {x : Str} {lv n c : Nat} {ps : List Str} {fn : List AV → T AV}
end
def rReprD (K : PySem.W.Frag) : List V → Hp → VK → Prop := fun xs H Q => ∃ x d, xs = [x] ∧ Dp K H x d ∧ d.canLay0 = true ∧ d.depth ≤ 12 ∧ d.showable = true ∧ d.shown.length ≤ sizeLine ∧ Q (.str d.shown) H
def pReprD (a : AV) : Option AV := if dat DEP a && (toD DEP a).showable && decide ((toD DEP a).shown.length ≤ big) then some (.str (toD DEP a).shown) else none
end Dn
set_option Elab.async false
set_option linter.all false
set_option maxRecDepth 100000
namespace Dn
open PySem PySem.Spec PyProof.Rows L2
def sDrop (j : Nat) (s : SSem) : SSem := fun ρ => (s ρ).bind fun o => match o with
  | .nx ρ' => .ret (.nx (ρ'.set j .un))
  | o => .ret o
theorem same_new {H : Hp} {p : Addr} {o : HO} (h : H p = none) : Same H (upd H p o) := same_upd h
theorem at_int {α : Type} {xs : List α} {z : Int} {v : α} (h0 : 0 ≤ z) (h : xs[z.toNat]? = some v) : atI xs z = some v := by
  obtain ⟨k, rfl⟩ := Int.eq_ofNat_of_zero_le h0
  exact atI_nat h
def boxV (c s t : Int) : List V := [.int c, .int s, .int t]
structure BoxIs (c s t : Int) : Prop where
  c0 : 0 ≤ c
  s1 : 1 ≤ s
  s2 : s ≤ 2147483629
def okA (vs : List V) : Prop := ∃ c s t : Int, vs = boxV c s t ∧ BoxIs c s t
def spBoxS (K : PySem.W.Frag) (ok : List V → Prop) : Sp := fun vs H Q _ => ∃ (a : Addr) (k o : Int) (ns : List Int), vs = [.ref a, .int k, .int o] ∧ SqL K H a (ns.map V.int) ∧ 0 ≤ k ∧ 0 ≤ o ∧ ∀ (D : Addr) (H' : Hp), H D = none → Same H H' → (∃ l, H' D = some (.lst l) ∧ ok l) → Q (.ref D) H'
def fBox : List AV → T AV
  | [.scr _, .int k, .int o] => if 0 ≤ k ∧ 0 ≤ o then .ret .box else .bad
  | _ => .bad
theorem fBox_len (ts : List AV) (h : T.all (fun _ => True) (fun _ _ => True) (fBox ts)) : ts.length = 3 := by
  unfold fBox at h
  split at h
  · rfl
  · exact h.elim
theorem box_of {P : Program} {w : World} {K : PySem.W.Frag} {mg : Str → Option Value} {base : Heap} {ct : CT} {ok : List V → Prop} {lv : Nat} {fa : Addr} {fd : FuncData} {ps : List Str} (F : FnOk P w K mg base CX0 lv fa fd ps (spBoxS K ok)) :
    FnOk P w K mg base (L2.CX P w) lv fa fd ps (spM ⟨K, mg, ct⟩ (BoxI ok) 3 fBox) := by
  refine imp0 F fun vs H Q E h => ?_
  obtain ⟨g, ts, ho, hm, hmb, hb, r, hl, h⟩ := h
  have done : ∀ {ts : List AV}, okT ⟨K, mg, ct⟩ (BoxI ok) E g H (fBox ts) (fun g' H' t => ∀ v, (BoxI ok).I g'.B g'.D H' → RepG ⟨K, mg, ct⟩ g' H' t v → Q v H') → ∃ ns k o, ts = [.scr ns, .int k, .int o] ∧ 0 ≤ k ∧ 0 ≤ o ∧ ∀ g' H', Ext g g' H H' → ∀ v, (BoxI ok).I g'.B g'.D H' → RepG ⟨K, mg, ct⟩ g' H' .box v → Q v H' := fun {ts} h => by
    unfold fBox at h
    split at h
    · rename_i ns k o
      by_cases hb : 0 ≤ k ∧ 0 ≤ o
      · rw [if_pos hb] at h
        exact ⟨ns, k, o, rfl, hb.1, hb.2, h⟩
      · rw [if_neg hb] at h
        exact (show False from h).elim
    · exact (show False from h).elim
  obtain ⟨ns, k, o, rfl, h1, h2, h3⟩ := done h
  rw [RepsG, RepL] at r
  obtain ⟨v, r1, rfl, hv, r⟩ := r
  rw [RepL] at r
  obtain ⟨v2, r2, rfl, hv2, r⟩ := r
  rw [RepL] at r
  obtain ⟨v3, r3, rfl, hv3, r⟩ := r
  rw [RepL] at r
  subst r
  obtain ⟨a, rfl, q⟩ := RepR.scr (.inl hv)
  have hv2 : v2 = .int k := by
    rw [Rep] at hv2
    exact hv2
  have hv3 : v3 = .int o := by
    rw [Rep] at hv3
    exact hv3
  subst hv2 hv3
  refine ⟨a, k, o, ns, rfl, q, h1, h2, fun D H' nD s ⟨l, e, ol⟩ => ?_⟩
  refine h3 { g with B := fun b => g.B b ∨ b = D, D := fun b => g.D b ∨ b = D } H' ?_ (.ref D) ⟨fun b z => ?_, fun b z => z.elim (fun z => .inl (hb.2 b z)) .inr⟩ ?_
  · exact { keep := fun a o q _ _ => s a o q, live := fun a q => by
              cases e : H a with
              | none => exact absurd e q
              | some o => rw [s a o e]; exact fun z => by cases z
            m := rfl, bsub := fun b z => .inl z, dsub := fun b z => .inl z, own := fun i a h => .inl ⟨i, h⟩, s := rfl, bnew := fun b z => z.elim .inl fun z => .inr (by rw [z]; exact nD) }
  · rcases z with z | z
    · obtain ⟨l', e', o'⟩ := hb.1 b z
      exact ⟨l', s _ _ e', o'⟩
    · rw [z]
      exact ⟨l, e, ol⟩
  · rw [RepG, Rep]
    exact ⟨D, rfl, .inr rfl⟩
structure Mf (P : Program) (w : World) (K : PySem.W.Frag) (mg : Str → Option Value) (base : Heap) (ct : CT) (β : BInv) (lv : Nat) (c : Nat) (x : Str) (n : Nat) (ps : List Str) (fn : List AV → T AV) : Prop where
  ex : ∃ C fa fd, FnOk P w K mg base (L2.CX P w) lv fa fd ps (spM ⟨K, mg, ct⟩ β n fn) ∧ Binds K fd ps [] ∧ Cls K C ∧ Meth K C x fa ∧ mg (ct c).1 = some (.ref C)
  no : x ∉ (ct c).2
  len : ∀ ts : List AV, T.all (fun _ => True) (fun _ _ => True) (fn ts) → ts.length = n
section
variable {X : Cx} {ct : CT} {β : BInv} {Ex : XK} {a e : Expr} {es : List Expr} {f : Sem} {m : SemL} {pos p apos : Pos} {mt : Str} {lv n c : Nat} {ps : List Str} {fn : List AV → T AV}
def rLenO (C : Addr) (sp : Sp) (E : XK) : List V → Hp → VK → Prop := fun xs H Q => ∃ a dx fs, xs = [V.ref a] ∧ H a = some (.ins C dx fs) ∧ sp [.ref a] H (fun z H' => ∃ i, z = .int i ∧ (0 ≤ i ∧ i < 2 ^ 63) ∧ Q (.int i) H') E
def intU : AV → Option Int
  | .int i => if 0 ≤ i ∧ below i 62 = true then some i else none
  | _ => none
def fLenOwn (c : Nat) (fn : List AV → T AV) (f : Sem) : Sem := fun ρ => (f ρ).bind fun q => (frz q).bind fun s => match s.1 with
  | .ins c' xs => if c' = c then (fn [.ins c' xs]).bind fun t => (lift (intU t)).bind fun i => .ret (.val (.int i), s.2) else .bad
  | _ => .bad
end
noncomputable def isTrueD (t : T AV) : Bool := T.rec (motive := fun _ => Bool) (fun a => match a with | .bl b => b | _ => false) false (fun _ _ => false) (fun n _ ih => (List.range n).all ih) t
end Dn
set_option Elab.async false
set_option linter.all false
set_option maxRecDepth 100000
namespace Dn
open PySem PySem.Spec PyProof.Rows L2
def lcL2 (vs vs1 : List Nat) (k : GSem) (tt : SemB) (it1 : SemI) (k1 : GSem) (tt1 : SemB) (el : Sem) : List AV → List AV → Env' → T (List AV × Env')
  | [], acc, ρ => .ret (acc, ρ)
  | x :: xs, acc, ρ => (noExc ((k x (wipeE ρ vs)).bind fun ρ1 => (tt ρ1).bind fun p => if p.1 then (it1 p.2).bind fun q => if acc.length + q.1.length < big then lcL vs1 k1 tt1 el q.1 acc q.2 else .bad else .ret (acc, p.2))).bind fun r => lcL2 vs vs1 k tt it1 k1 tt1 el xs r.1 r.2
def nLc2 (vs vs1 : List Nat) (it : SemI) (k : GSem) (tt : SemB) (it1 : SemI) (k1 : GSem) (tt1 : SemB) (el : Sem) : SemN := fun ρ => (it ρ).bind fun p => (lcL2 vs vs1 k tt it1 k1 tt1 el p.1 [] p.2).bind fun r => .ret (r.1, backE p.2 r.2 vs)
section
variable {X : Cx} {ct : CT} {β : BInv} {Ex : XK} {a c elt tg iter tg1 iter1 : Expr} {ifs ifs1 : List Expr} {f it1 : SemI} {k k1 : GSem} {tt tt1 : SemB} {el : Sem} {pos : Pos} {scope : Scope} {own : List (Str × Nat)} {is is1 : List Nat}
end
end Dn
set_option Elab.async false
set_option linter.all false
set_option maxRecDepth 100000
namespace Dn
open PySem PySem.Spec PyProof.Rows L2
mutual
def eqA : AV → AV → Bool
  | .non, .non => true
  | .bl a, .bl b => a == b
  | .int a, .int b => decide (a = b)
  | .str a, .str b => decide (a = b)
  | .tup a, .tup b => eqAs a b
  | .lst a, .lst b => eqAs a b
  | .ins c a, .ins d b => decide (c = d) && eqAs a b
  | .box, .box => true
  | .any, .any => true
  | _, _ => false
def eqAs : List AV → List AV → Bool
  | [], [] => true
  | a :: as, b :: bs => eqA a b && eqAs as bs
  | _, _ => false
end
mutual
theorem eqA_eq : ∀ (a b : AV), eqA a b = true → a = b
  | .non, b, h => by cases b <;> first | rfl | (unfold eqA at h; cases h)
  | .bl x, b, h => by
    cases b with
    | bl y => rw [eqA] at h; rw [eq_of_beq h]
    | _ => unfold eqA at h; cases h
  | .int x, b, h => by
    cases b with
    | int y => rw [eqA] at h; rw [of_decide_eq_true h]
    | _ => unfold eqA at h; cases h
  | .str x, b, h => by
    cases b with
    | str y => rw [eqA] at h; rw [of_decide_eq_true h]
    | _ => unfold eqA at h; cases h
  | .tup x, b, h => by
    cases b with
    | tup y => rw [eqA] at h; rw [eqAs_eq x y h]
    | _ => unfold eqA at h; cases h
  | .lst x, b, h => by
    cases b with
    | lst y => rw [eqA] at h; rw [eqAs_eq x y h]
    | _ => unfold eqA at h; cases h
  | .ins c x, b, h => by
    cases b with
    | ins d y => rw [eqA, Bool.and_eq_true] at h; rw [of_decide_eq_true h.1, eqAs_eq x y h.2]
    | _ => unfold eqA at h; cases h
  | .box, b, h => by cases b <;> first | rfl | (unfold eqA at h; cases h)
  | .any, b, h => by cases b <;> first | rfl | (unfold eqA at h; cases h)
  | .scr ns, b, h => by cases b <;> (unfold eqA at h; cases h)
theorem eqAs_eq : ∀ (a b : List AV), eqAs a b = true → a = b
  | [], b, h => by cases b with
    | nil => rfl
    | cons _ _ => unfold eqAs at h; cases h
  | x :: xs, b, h => by cases b with
    | nil => unfold eqAs at h; cases h
    | cons y ys => rw [eqAs, Bool.and_eq_true] at h; rw [eqA_eq x y h.1, eqAs_eq xs ys h.2]
end
def eqP : List (AV × AV) → List (AV × AV) → Bool
  | [], [] => true
  | (a, b) :: xs, (c, d) :: ys => eqA a c && (eqA b d && eqP xs ys)
  | _, _ => false
def eqS : Slot → Slot → Bool
  | .un, .un => true
  | .fro a, .fro b => eqA a b
  | .ml a, .ml b => eqAs a b
  | .md a b, .md c d => a == c && eqP b d
  | _, _ => false
def eqE : Env' → Env' → Bool
  | [], [] => true
  | a :: as, b :: bs => eqS a b && eqE as bs
  | _, _ => false
def nxIs (m : T Out) (ρ : Env') : Bool := match m with
  | .ret (.nx ρ') => eqE ρ' ρ
  | _ => false
def eachB (k : Nat → T Out) : List Env' → Nat → Bool
  | [], _ => true
  | ρ :: ρs, i => nxIs (k i) ρ && eachB k ρs (i + 1)
def drIs (m : T Out) (ρs : List Env') : Bool := match m with
  | .draw n k => decide (n = ρs.length) && eachB k ρs 0
  | _ => false
def AllT (m : T Out) : Prop := (m.bind outV).Al (fun t => t = .bl true) NoX
theorem law_endA {P : Program} {w : World} {K : PySem.W.Frag} {mg : Str → Option Value} {base : Heap} {ct : CT} {β : BInv} {lv : Nat} {fa : Addr} {fd : FuncData} {x : Str} {fn : List AV → T AV} (F : FnOk P w K mg base (L2.CX P w) lv fa fd [x] (spM ⟨K, mg, ct⟩ β 1 fn))
    (hb : ∀ H, β.I (fun _ => False) (fun _ => False) H) (h : ∀ ns : List Int, ns.length ≤ 63 → (fn [.scr ns]).Al (fun t => t = .bl true) NoX) : FnOk P w K mg base (L2.CX P w) lv fa fd [x] (spLaw K) := law_end F hb fun ns hl => al_iff.mp (h ns hl)
end Dn
set_option Elab.async false
set_option linter.all false
set_option maxRecDepth 100000
set_option maxHeartbeats 0
namespace Dn
open PySem PySem.Spec PyProof.Rows L2
theorem lg {i : Int} (h : i.natAbs < 2 ^ 200) : i.natAbs.log2 < 200 := by
  by_cases z : i.natAbs = 0
  · rw [z]; decide
  · exact (Nat.log2_lt z).mpr h
def il (l : List Int) : List AV := l.map AV.int
theorem il_len (l : List Int) : (il l).length = l.length := List.length_map ..
def far (due : List Int) (p : Int) (n : Nat) : Int := (n : Int) / (due.length : Int) * p + due.getD (n % due.length) 0
theorem atI_nat' {xs : List AV} {i : Nat} (h : i < xs.length) : atI xs (i : Int) = xs[i]? := by
  unfold atI ixN
  rw [if_pos (Int.natCast_nonneg i), if_pos (by omega)]
  simp
def gterms (due : List Int) (p : Int) (m : Nat) : Nat → List Int → List Int
  | _, [] => []
  | i, d :: r => (far due p (i + m + 1) - d) :: gterms due p m (i + 1) r
def top1 : List Int → Int
  | [] => 0
  | x :: r => maxL x r
def gap (due : List Int) (p : Int) (m : Nat) : Int := top1 (gterms due p m 0 due)
def seen (l : List Int) : List (AV × AV) := l.map fun d => (AV.int d, AV.bl true)
def runmax (a : Int) (l : List Int) : Int := l.foldl (fun x y => if x < y then y else x) a
def InR (p : Int) (ds : List Int) : Prop := ds.Nodup ∧ ∀ d ∈ ds, 0 ≤ d ∧ d < p
def DaysI (p most : Int) (i : Nat) (ρ : Env') : Prop := ∃ ds s4 s5, ρ = [.fro .box, .fro (.int p), .fro (.int most), .ml (il ds), s4, s5] ∧ InR p ds ∧ ds.length ≤ i ∧ (0 < i → 0 < ds.length)
def DaysR (p : Int) (t : AV) : Prop := ∃ ds, t = .lst (il ds) ∧ InR p ds ∧ 0 < ds.length ∧ ds.length ≤ 60
def ShufR (xs : List AV) (t : AV) : Prop := ∃ ys, t = .lst ys ∧ ys.Perm xs
def ShufI (xs : List AV) (i : Nat) (ρ : Env') : Prop := ∃ rest found s4, ρ = [.fro .box, .fro (.lst xs), .ml rest, .ml found, s4] ∧ (found ++ rest).Perm xs ∧ found.length = i
theorem perm_pop {α : Type} : ∀ {l : List α} {n : Nat} {x : α}, l[n]? = some x → (x :: l.eraseIdx n).Perm l
  | [], n, x, h => by simp at h
  | y :: l, 0, x, h => by
    simp at h
    subst h
    exact List.Perm.refl _
  | y :: l, n + 1, x, h => by
    have ih := perm_pop (l := l) (n := n) (x := x) (by simpa using h)
    rw [List.eraseIdx_cons_succ]
    exact (List.Perm.swap y x _).trans (List.Perm.cons y ih)
def Good (p : Int) (due : List Int) : Prop := due.Pairwise (· ≤ ·) ∧ (∀ d ∈ due, 0 ≤ d ∧ d < p) ∧ 0 < due.length
def least (p : Int) (n m : Nat) : Int := -(-((m : Int) + 1) * p / (n : Int))
def evn (p : Int) (n i : Nat) : Int := -(-(i : Int) * p / (n : Int))
def Best (due : List Int) (p : Int) : Prop := (List.range due.length).map (gap due p) = (List.range due.length).map (least p due.length)
instance (due : List Int) (p : Int) : Decidable (Best due p) := by unfold Best; infer_instance
def NLn (D O : List Int) (p : Int) (n : Nat) : Prop := ∀ i, i < n → gap D p i ≤ gap O p i
instance (D O : List Int) (p : Int) (n : Nat) : Decidable (NLn D O p n) := by unfold NLn; infer_instance
def sumTo (f : Nat → Int) : Nat → Int
  | 0 => 0
  | n + 1 => sumTo f n + f n
def E (p : Int) (n : Nat) (t : Nat) : Int := -(-((t : Int) * p) / (n : Int))
end Dn
set_option Elab.async false
set_option linter.all false
set_option maxRecDepth 100000
set_option maxHeartbeats 0
namespace Dn
open PySem PySem.Spec PyProof.Rows L2
abbrev Rw := List Int × List Nat
def nl (l : List Nat) : List AV := l.map fun k : Nat => AV.int (k : Int)
def rwAt (rows : List Rw) (d : Nat) : Rw := rows.getD (d % rows.length) ([], [])
def sg (rows : List Rw) (w : Nat) : Nat → Nat
  | 0 => w
  | d + 1 => (rwAt rows d).2.getD (sg rows w d) 0
structure WR (n : Nat) (rows : List Rw) : Prop where
  n0 : 0 < n
  n1 : n ≤ 100
  r0 : 0 < rows.length
  r1 : rows.length ≤ 100
  mv : ∀ r ∈ rows, r.2.length = n ∧ r.2.Nodup ∧ ∀ x ∈ r.2, x < n
  tn : ∀ r ∈ rows, r.1.Nodup ∧ ∀ x ∈ r.1, 0 ≤ x ∧ x < (n : Int)
theorem nl_len (l : List Nat) : (nl l).length = l.length := List.length_map ..
theorem nl_get {l : List Nat} {i : Nat} (h : i < l.length) : (nl l)[i]? = some (.int (l.getD i 0 : Nat)) := by
  unfold nl
  rw [List.getElem?_map, List.getElem?_eq_getElem h, List.getD_eq_getElem?_getD, List.getElem?_eq_getElem h]
  rfl
theorem nl_il (l : List Nat) : nl l = il (l.map fun k : Nat => (k : Int)) := by
  unfold nl il
  rw [List.map_map]
  rfl
theorem nl_app (a b : List Nat) : nl (a ++ b) = nl a ++ nl b := List.map_append ..
theorem nodup_le : ∀ (n : Nat) (l : List Nat), l.Nodup → (∀ x ∈ l, x < n) → l.length ≤ n
  | 0, l, _, h => by
    cases l with
    | nil => exact Nat.le_refl _
    | cons x r => exact absurd (h x (by simp)) (Nat.not_lt_zero _)
  | n + 1, l, hn, h => by
    have h1 := nodup_le n (l.erase n) (hn.erase n) fun x hx => by
      have a := h x (List.mem_of_mem_erase hx)
      have b : x ≠ n := fun z => by
        rw [z] at hx
        exact hn.not_mem_erase hx
      omega
    rw [List.length_erase] at h1
    split at h1 <;> omega
section
variable {n : Nat} {rows : List Rw} {u w d : Nat}
def ord (n : Nat) (rows : List Rw) (w : Nat) : Nat := match (List.range n).find? (fun k => sg rows w (rows.length * (k + 1)) == w) with
  | some k => k + 1
  | none => 1
def per (n : Nat) (rows : List Rw) (w : Nat) : Nat := rows.length * ord n rows w
def dueb (rows : List Rw) (w d : Nat) : Bool := decide (((sg rows w d : Nat) : Int) ∈ (rwAt rows d).1)
def cnt (rows : List Rw) (w d : Nat) : Nat := ((List.range d).filter (dueb rows w)).length
def dys (n : Nat) (rows : List Rw) (w : Nat) : List Nat := (List.range (per n rows w)).filter (dueb rows w)
def dysI (n : Nat) (rows : List Rw) (w : Nat) : List Int := (dys n rows w).map fun k : Nat => (k : Int)
def fd (n : Nat) (rows : List Rw) (w i : Nat) : Nat := per n rows w * (i / cnt rows w (per n rows w)) + (dys n rows w).getD (i % cnt rows w (per n rows w)) 0
end
def rowV (r : Rw) : AV := .tup [.tup (il r.1), .tup (nl r.2)]
def rotaV (n : Nat) (rows : List Rw) : AV := .ins 0 [.int (n : Int), .tup (rows.map rowV)]
theorem nl_snoc (l : List Nat) (k : Nat) : nl l ++ [AV.int (k : Int)] = nl (l ++ [k]) := (nl_app l [k]).symm
theorem pNe_int (a b : Int) : pNe (.int a) (.int b) = some (.bl (!decide (a = b))) := rfl
theorem pEq_int (a b : Int) : pEq (.int a) (.int b) = some (.bl (decide (a = b))) := rfl
end Dn
set_option Elab.async false
set_option linter.all false
set_option maxRecDepth 100000
set_option maxHeartbeats 0
namespace Dn
open PySem PySem.Spec PyProof.Rows L2
def LoopQ (I : Env' → Prop) (P : Out → Prop) : Out → Prop
  | .nx ρ => I ρ
  | .ct ρ => I ρ
  | .bk ρ => P (.nx ρ)
  | .rt t => P (.rt t)
def FnQ (R : AV → Prop) : Out → Prop
  | .rt t => R t
  | .nx _ => R .non
  | _ => False
section
variable {α γ : Type} {Q : Out → Prop} {E : Nat → List AV → Prop} {ρ : Env'} {f k : SSem} {P : α → Prop}
theorem all_congr {m : T α} {P' : α → Prop} (h : ∀ a, P a ↔ P' a) : m.all P E ↔ m.all P' E := ⟨fun z => T.all_mono z (fun a => (h a).mp) fun _ _ z => z, fun z => T.all_mono z (fun a => (h a).mpr) fun _ _ z => z⟩
theorem al_bindI {m : T α} {g : α → T γ} {R : γ → Prop} : (m.bind g).Al R E ↔ m.Al (fun a => (g a).Al R E) E := by
  rw [al_iff, T.all_bind, al_iff]
  exact all_congr fun a => al_iff.symm
theorem al_retI {a : α} : (T.ret a).Al P E ↔ P a := al_iff
theorem al_drawI {n : Nat} {g : Nat → T α} : (T.draw n g).Al P E ↔ ∀ r, r < n → (g r).Al P E := by
  rw [al_iff]
  exact ⟨fun h r hr => al_iff.mpr (h r hr), fun h r hr => al_iff.mp (h r hr)⟩
theorem al_seq : (sSeq f k ρ).Al Q E ↔ (f ρ).Al (Nx (fun ρ' => (k ρ').Al Q E) Q) E := by
  unfold sSeq
  rw [al_bindI, al_iff, al_iff]
  refine all_congr fun o => ?_
  cases o
  · exact Iff.rfl
  · exact al_retI
  · exact al_retI
  · exact al_retI
theorem nx_nx {R : Env' → Prop} : Nx R Q (.nx ρ) ↔ R ρ := Iff.rfl
theorem lq_nx {I : Env' → Prop} : LoopQ I Q (.nx ρ) ↔ I ρ := Iff.rfl
theorem aFnQ {np n : Nat} {body : SSem} {ts : List AV} {R : AV → Prop} (hl : ts.length = np) (h : (body (ts.map Slot.fro ++ List.replicate (n - np) .un)).Al (FnQ R) E) : (fnOf np n body ts).Al R E := by
  refine aFn hl (al_mono h fun o q => ?_)
  cases o <;> exact q
theorem al_forL {g : GSem} {body : SSem} {xs : List AV} (I : Nat → Env' → Prop) (h0 : I 0 ρ) (step : ∀ (i : Nat) (x : AV) (ρ : Env'), xs[i]? = some x → I i ρ → (g x ρ).Al (fun ρ1 => (body ρ1).Al (LoopQ (I (i + 1)) Q) E) E) (hend : ∀ ρ, I xs.length ρ → Q (.nx ρ)) : (forL g body xs ρ).Al Q E := by
  refine al_iff.mpr (forL_all I h0 (fun i x ρ hx hI => T.all_mono (al_iff.mp (step i x ρ hx hI)) (fun ρ1 q => T.all_mono (al_iff.mp q) (fun o q => ?_) fun _ _ z => z) fun _ _ z => z) hend)
  cases o <;> exact q
end
def lcRun (k : GSem) (tt : SemB) (el : Sem) (x : AV) (w : Env') : T (Option AV × Env') := (k x w).bind fun ρ1 => (tt ρ1).bind fun p => if p.1 = true then (el p.2).bind fun q => (frz q).bind fun s => .ret (some s.1, s.2) else .ret (none, p.2)
theorem lcL_pure {α : Type} {vs : List Nat} {k : GSem} {tt : SemB} {el : Sem} {w : Env'} {enc : α → AV} {h : α → Option AV} : ∀ {l : List α} {acc : List AV} {ρ : Env'}, wipeE ρ vs = w →
    (∀ b ∈ l, ∃ ρ2, lcRun k tt el (enc b) w = .ret (h b, ρ2) ∧ wipeE ρ2 vs = w) → ∃ ρ2, lcL vs k tt el (l.map enc) acc ρ = .ret (acc ++ l.filterMap h, ρ2) ∧ wipeE ρ2 vs = w
  | [], acc, ρ, hw, _ => ⟨ρ, by rw [List.filterMap_nil, List.append_nil]; rfl, hw⟩
  | b :: l, acc, ρ, hw, hs => by
    obtain ⟨ρ2, e, hw2⟩ := hs b (by simp)
    have z : ((k (enc b) (wipeE ρ vs)).bind fun ρ1 => (tt ρ1).bind fun p => if p.1 = true then (el p.2).bind fun q => (frz q).bind fun s => .ret (acc ++ [s.1], s.2) else .ret (acc, p.2)) = .ret (match h b with | some y => acc ++ [y] | none => acc, ρ2) := by
      rw [hw]
      have := congrArg (fun m : T (Option AV × Env') => m.bind fun s => T.ret (match s.1 with | some y => acc ++ [y] | none => acc, s.2)) e
      unfold lcRun at this
      simp only [T.bind_assoc] at this
      refine Eq.trans ?_ this
      congr 1
      funext ρ1
      congr 1
      funext p
      by_cases hp : p.1 = true
      · simp only [hp, if_true, T.bind_assoc]
        rfl
      · rw [if_neg hp, if_neg hp]
        rfl
    show ∃ ρ2, (noExc _).bind _ = _ ∧ _
    rw [z]
    cases q : h b with
    | some y =>
      obtain ⟨ρ3, e3, hw3⟩ := lcL_pure (acc := acc ++ [y]) hw2 fun c hc => hs c (List.mem_cons_of_mem _ hc)
      refine ⟨ρ3, ?_, hw3⟩
      rw [List.filterMap_cons, q]
      show lcL vs k tt el (l.map enc) (acc ++ [y]) ρ2 = _
      rw [e3, List.append_assoc]
      rfl
    | none =>
      obtain ⟨ρ3, e3, hw3⟩ := lcL_pure (acc := acc) hw2 fun c hc => hs c (List.mem_cons_of_mem _ hc)
      refine ⟨ρ3, ?_, hw3⟩
      rw [List.filterMap_cons, q]
      exact e3
theorem nLc_T {α : Type} {vs : List Nat} {it : SemI} {k : GSem} {tt : SemB} {el : Sem} {ρ ρ' : Env'} {l : List α} (enc : α → AV) (h : α → Option AV) (hit : it ρ = .ret (l.map enc, ρ')) (hb : l.length < big) (hback : backE ρ' ρ' vs = ρ')
    (hs : ∀ b ∈ l, ∃ ρ2, lcRun k tt el (enc b) (wipeE ρ' vs) = .ret (h b, ρ2) ∧ wipeE ρ2 vs = wipeE ρ' vs) : nLc vs it k tt el ρ = .ret (l.filterMap h, ρ') := by
  unfold nLc
  rw [hit, bind_ret', if_pos (by rw [List.length_map]; exact hb)]
  obtain ⟨ρ2, e, hw⟩ := lcL_pure (acc := []) rfl hs
  rw [e, bind_ret', backE_eq vs hw, hback, List.nil_append]
theorem nLc_M {α : Type} {vs : List Nat} {it : SemI} {k : GSem} {tt : SemB} {el : Sem} {ρ ρ' : Env'} {l : List α} (enc : α → AV) (h : α → AV) (hit : it ρ = .ret (l.map enc, ρ')) (hb : l.length < big) (hback : backE ρ' ρ' vs = ρ')
    (hs : ∀ b ∈ l, ∃ ρ2, lcRun k tt el (enc b) (wipeE ρ' vs) = .ret (some (h b), ρ2) ∧ wipeE ρ2 vs = wipeE ρ' vs) : nLc vs it k tt el ρ = .ret (l.map h, ρ') := by
  rw [nLc_T enc (fun b => some (h b)) hit hb hback hs, ← List.filterMap_eq_map]
  rfl
theorem below62' {i : Int} (h : -4611686018427387904 < i ∧ i < 4611686018427387904) : below i 62 = true := below_of (by omega)
theorem below24' {i : Int} (h : 0 ≤ i ∧ i < 16777216) : below i 24 = true := below_of (by omega)
theorem below64' {i : Int} (h : -18446744073709551616 < i ∧ i < 18446744073709551616) : below i 64 = true := below_of (by omega)
theorem below29' {i : Int} (h : 0 ≤ i ∧ i < 536870912) : below i 29 = true := below_of (by omega)
theorem mul_ok {i j : Int} (hi : i.natAbs < 2 ^ 200) (hj : j.natAbs < 2 ^ 200) : pMul (.int i) (.int j) = some (.int (i * j)) := by
  unfold pMul
  have a := lg hi
  have b := lg hj
  exact if_pos (by omega)
theorem div_ok {i j : Int} (h0 : 0 < j) (hj : j < 2 ^ 200) : pDiv (.int i) (.int j) = some (.int (i / j)) := by
  unfold pDiv
  have b := lg (i := j) (by omega)
  exact if_pos ⟨h0, by omega⟩
theorem mod_ok {i j : Int} (h0 : 0 < j) : pMod (.int i) (.int j) = some (.int (i % j)) := if_pos h0
theorem pow_ok {i : Int} {j : Nat} (hi : -18446744073709551616 < i ∧ i < 18446744073709551616) (hj : j ≤ 1000000) : pPow (.int i) (.int (j : Int)) = some (.int (i ^ j)) := by
  have e : (if 0 ≤ (j : Int) ∧ (j : Int) ≤ 1000000 ∧ below i 64 = true then some (AV.int (i ^ (j : Int).toNat)) else none) = some (.int (i ^ j)) := by
    rw [if_pos ⟨by omega, by omega, below64' hi⟩, Int.toNat_natCast]
  exact e
theorem take_ok {b : Int} (h1 : 1 ≤ b) (h2 : b < 18446744073709551616) : fDraw [.box, .int b] = T.draw b.toNat fun r => T.ret (AV.int (r : Int)) := by
  unfold fDraw
  exact if_pos ⟨h1, below64' (by omega)⟩
theorem al_rd {α : Type} {m : T α} {P : α → Prop} {E : Nat → List AV → Prop} (m' : T α) (h : m.bind .ret = m') (k : m'.Al P E) : m.Al P E := by
  rw [T.bind_ret] at h
  rw [h]
  exact k
theorem t_eq {α : Type} {m m' : T α} (h : m.bind .ret = m') : m = m' := (T.bind_ret m).symm.trans h
theorem al_nx {R : Env' → Prop} {Q : Out → Prop} {E : Nat → List AV → Prop} {ρ : Env'} (h : R ρ) : (T.ret (Out.nx ρ)).Al (Nx R Q) E := al_retI.mpr h
theorem al_endL {I : Env' → Prop} {Q : Out → Prop} {E : Nat → List AV → Prop} {ρ : Env'} (h : I ρ) : (sNil ρ).Al (LoopQ I Q) E := al_retI.mpr h
theorem al_rtF {R : Env' → Prop} {S : AV → Prop} {E : Nat → List AV → Prop} {t : AV} (h : S t) : (T.ret (Out.rt t)).Al (Nx R (FnQ S)) E := al_retI.mpr h
theorem al_cut {R : Env' → Prop} {Q : Out → Prop} {E : Nat → List AV → Prop} {m : T Out} (I : Env' → Prop) (h : m.Al (Nx I (fun _ => False)) E) (k : ∀ ρ, I ρ → R ρ) : m.Al (Nx R Q) E := by
  refine al_mono h fun o ho => ?_
  cases o with
  | nx ρ => exact k ρ ho
  | _ => exact (show False from ho).elim
theorem al_nLcD {vs : List Nat} {it : SemI} {k : GSem} {tt : SemB} {el : Sem} {E : Nat → List AV → Prop} {ρ : Env'} (I : Nat → List AV → Prop) (xs : List AV) (hit : it ρ = .ret (xs, ρ)) (hb : xs.length < big) (hback : backE ρ ρ vs = ρ) (h0 : I 0 [])
    (step : ∀ (i : Nat) (x : AV) (acc : List AV), xs[i]? = some x → I i acc → (k x (wipeE ρ vs)).Al (fun ρ1 => (tt ρ1).Al (fun p => if p.1 = true then (el p.2).Al (fun q => (frz q).Al (fun z => wipeE z.2 vs = wipeE ρ vs ∧ I (i + 1) (acc ++ [z.1])) NoX) NoX else wipeE p.2 vs = wipeE ρ vs ∧ I (i + 1) acc) NoX) NoX) :
    (nLc vs it k tt el ρ).Al (fun q => q.2 = ρ ∧ I xs.length q.1) E := by
  refine al_iff.mpr (nLc_all (E := E) I hit hb hback h0 (fun i x acc hx hI => ?_) fun ys h => ⟨rfl, h⟩)
  refine T.all_mono (al_iff.mp (step i x acc hx hI)) (fun ρ1 q => T.all_mono (al_iff.mp q) (fun p q => ?_) fun _ _ z => z) fun _ _ z => z
  by_cases e : p.1 = true
  · rw [if_pos e] at q ⊢
    exact T.all_mono (al_iff.mp q) (fun s q => al_iff.mp q) fun _ _ z => z
  · rw [if_neg e] at q ⊢
    exact q
theorem perm_map {α β : Type} {f : α → β} {ys xs : List β} (h : ys.Perm xs) : ∀ l : List α, xs = l.map f → ∃ l' : List α, ys = l'.map f ∧ l'.Perm l := by
  induction h with
  | nil => intro l e; exact ⟨[], rfl, by cases l with | nil => exact .refl _ | cons _ _ => cases e⟩
  | cons x _ ih =>
    intro l e
    cases l with
    | nil => cases e
    | cons a l =>
      rw [List.map_cons] at e
      injection e with e1 e2
      obtain ⟨l', rfl, p⟩ := ih l e2
      exact ⟨a :: l', by rw [List.map_cons, e1], .cons a p⟩
  | swap x y _ =>
    intro l e
    match l, e with
    | a :: b :: l, e =>
      rw [List.map_cons, List.map_cons] at e
      injection e with e1 e2
      injection e2 with e2 e3
      exact ⟨b :: a :: l, by rw [List.map_cons, List.map_cons, e1, e2, e3], .swap a b l⟩
    | [], e => cases e
    | [_], e => simp at e
  | trans _ _ ih1 ih2 =>
    intro l e
    obtain ⟨l2, e2, p2⟩ := ih2 l e
    obtain ⟨l1, e1, p1⟩ := ih1 l2 e2
    exact ⟨l1, e1, p1.trans p2⟩
def rawV (r : Rw) : AV := .tup [.lst (il r.1), .lst (nl r.2)]
def srtR (r : Rw) : Rw := (Dn.isort r.1, r.2)
def RowOk (n : Nat) (r : Rw) : Prop := (r.2.length = n ∧ r.2.Nodup ∧ ∀ x ∈ r.2, x < n) ∧ r.1.Nodup ∧ ∀ x ∈ r.1, 0 ≤ x ∧ x < (n : Int)
theorem wr_of {n : Nat} {rows : List Rw} (n0 : 0 < n) (n1 : n ≤ 100) (r0 : 0 < rows.length) (r1 : rows.length ≤ 100) (h : ∀ r ∈ rows, RowOk n r) : WR n rows := ⟨n0, n1, r0, r1, fun r hr => (h r hr).1, fun r hr => (h r hr).2⟩
theorem WR.row {n : Nat} {rows : List Rw} (h : WR n rows) {r : Rw} (hr : r ∈ rows) : RowOk n r := ⟨h.mv r hr, h.tn r hr⟩
theorem rangeL_nl (n : Nat) : rangeL 0 n = nl (List.range n) := by
  unfold rangeL nl
  refine List.map_congr_left fun i _ => ?_
  rw [Int.zero_add]
theorem nl_il' (l : List Nat) : nl l = il (l.map fun k : Nat => (k : Int)) := nl_il l
def SeqIs (t : AV) (xs : List AV) : Prop := t = .lst xs ∨ t = .tup xs
def RowIs (t : AV) (r : Rw) : Prop := ∃ a b, t = .tup [a, b] ∧ SeqIs a (il r.1) ∧ SeqIs b (nl r.2)
theorem intsOf_il (l : List Int) : intsOf (il l) = some l := intsOf_map l
theorem al_dr {α : Type} {n : Nat} {g : Nat → T α} {P : α → Prop} {E : Nat → List AV → Prop} (h : ∀ r, r < n → (g r).Al P E) : (T.draw n g).Al P E := al_drawI.mpr h
theorem al_by {α γ : Type} {m : T α} {g : α → T γ} {R : α → Prop} {P : γ → Prop} {E : Nat → List AV → Prop} (h : m.Al R E) (k : ∀ a, R a → (g a).Al P E) : (m.bind g).Al P E := al_bind h k
theorem bind_bad' {α γ : Type} {f : α → T γ} : (T.bad : T α).bind f = .bad := rfl
theorem bind_exc' {α γ : Type} {c : Nat} {xs : List AV} {f : α → T γ} : (T.exc c xs : T α).bind f = .exc c xs := rfl
theorem bind_draw' {α γ : Type} {n : Nat} {k : Nat → T α} {f : α → T γ} : (T.draw n k).bind f = .draw n fun r => (k r).bind f := rfl
theorem lift_none' {α : Type} : lift (none : Option α) = T.bad := rfl
theorem fBin_b {γ : Type} {op : AV → AV → Option AV} {f k : Sem} {a0 : Slot} {l0 : Env'} {g : _ → T γ} : (fBin op f k (a0 :: l0)).bind g = (((f (a0 :: l0)).bind fun p => (k p.2).bind fun q => (lift (rs p.1 q.2)).bind fun a => (lift (rs q.1 q.2)).bind fun b => (lift (op a b)).bind fun z => .ret (.val z, q.2))).bind g := rfl
theorem fUn_b {γ : Type} {op : AV → Option AV} {f : Sem} {a0 : Slot} {l0 : Env'} {g : _ → T γ} : (fUn op f (a0 :: l0)).bind g = (((f (a0 :: l0)).bind fun p => (lift (rs p.1 p.2)).bind fun a => (lift (op a)).bind fun z => .ret (.val z, p.2))).bind g := rfl
theorem fTru_b {γ : Type} {f : Sem} {a0 : Slot} {l0 : Env'} {g : _ → T γ} : (fTru f (a0 :: l0)).bind g = (((f (a0 :: l0)).bind fun p => (lift (rs p.1 p.2)).bind fun a => (lift (tru a)).bind fun b => .ret (b, p.2))).bind g := rfl
theorem fBlT_b {γ : Type} {f : Sem} {a0 : Slot} {l0 : Env'} {g : _ → T γ} : (fBlT f (a0 :: l0)).bind g = (((f (a0 :: l0)).bind fun p => (lift (rs p.1 p.2)).bind fun a => (lift (blOf a)).bind fun b => .ret (b, p.2))).bind g := rfl
theorem fNotT_b {γ : Type} {f : SemB} {a0 : Slot} {l0 : Env'} {g : _ → T γ} : (fNotT f (a0 :: l0)).bind g = (((f (a0 :: l0)).bind fun p => .ret (!p.1, p.2))).bind g := rfl
theorem fOrT_b {γ : Type} {f k : SemB} {a0 : Slot} {l0 : Env'} {g : _ → T γ} : (fOrT f k (a0 :: l0)).bind g = (((f (a0 :: l0)).bind fun p => if p.1 then .ret (true, p.2) else k p.2)).bind g := rfl
theorem fAnd_b {γ : Type} {f k : Sem} {a0 : Slot} {l0 : Env'} {g : _ → T γ} : (fAnd f k (a0 :: l0)).bind g = (((f (a0 :: l0)).bind fun p => (lift (rs p.1 p.2)).bind fun a => (lift (blOf a)).bind fun b => if b then k p.2 else .ret (.val (.bl false), p.2))).bind g := rfl
theorem fNot_b {γ : Type} {f : Sem} {a0 : Slot} {l0 : Env'} {g : _ → T γ} : (fNot f (a0 :: l0)).bind g = (((f (a0 :: l0)).bind fun p => (lift (rs p.1 p.2)).bind fun a => (lift (blOf a)).bind fun b => .ret (.val (.bl (!b)), p.2))).bind g := rfl
theorem fIf_b {γ : Type} {t : SemB} {f k : Sem} {a0 : Slot} {l0 : Env'} {g : _ → T γ} : (fIf t f k (a0 :: l0)).bind g = (((t (a0 :: l0)).bind fun p => if p.1 then f p.2 else k p.2)).bind g := rfl
theorem lCons_b {γ : Type} {f : Sem} {k : SemL} {a0 : Slot} {l0 : Env'} {g : _ → T γ} : (lCons f k (a0 :: l0)).bind g = (((f (a0 :: l0)).bind fun p => (frz p).bind fun q => (k q.2).bind fun r => .ret (q.1 :: r.1, r.2))).bind g := rfl
theorem fTup_b {γ : Type} {k : SemL} {a0 : Slot} {l0 : Env'} {g : _ → T γ} : (fTup k (a0 :: l0)).bind g = (((k (a0 :: l0)).bind fun p => if p.1.length ≤ big then .ret (.val (.tup p.1), p.2) else .bad)).bind g := rfl
theorem fSl_b {γ : Type} {f : Sem} {l h : Option Sem} {a0 : Slot} {l0 : Env'} {g : _ → T γ} : (fSl f l h (a0 :: l0)).bind g = (((f (a0 :: l0)).bind fun p => (fPart l p.2).bind fun q => (fPart h q.2).bind fun r => (lift (rs p.1 r.2)).bind fun a => (lift (pCut a q.1 r.1)).bind fun z => .ret (.val z, r.2))).bind g := rfl
theorem fCall_b {γ : Type} {fn : List AV → T AV} {dts : List AV} {k : SemL} {a0 : Slot} {l0 : Env'} {g : _ → T γ} : (fCall fn dts k (a0 :: l0)).bind g = (((k (a0 :: l0)).bind fun p => (fn (p.1 ++ dts)).bind fun t => .ret (.val t, p.2))).bind g := rfl
theorem sSeq_b {γ : Type} {f k : SSem} {a0 : Slot} {l0 : Env'} {g : _ → T γ} : (sSeq f k (a0 :: l0)).bind g = (((f (a0 :: l0)).bind fun
  | .nx ρ' => k ρ'
  | o => .ret o)).bind g := rfl
theorem sExpr_b {γ : Type} {f : Sem} {a0 : Slot} {l0 : Env'} {g : _ → T γ} : (sExpr f (a0 :: l0)).bind g = (((f (a0 :: l0)).bind fun p => .ret (.nx p.2))).bind g := rfl
theorem sRet_b {γ : Type} {f : Sem} {a0 : Slot} {l0 : Env'} {g : _ → T γ} : (sRet f (a0 :: l0)).bind g = (((f (a0 :: l0)).bind fun p => (frz p).bind fun q => .ret (.rt q.1))).bind g := rfl
theorem sIf_b {γ : Type} {t : SemB} {f k : SSem} {a0 : Slot} {l0 : Env'} {g : _ → T γ} : (sIf t f k (a0 :: l0)).bind g = (((t (a0 :: l0)).bind fun p => if p.1 then f p.2 else k p.2)).bind g := rfl
theorem sSet_b {γ : Type} {i : Nat} {f : Sem} {a0 : Slot} {l0 : Env'} {g : _ → T γ} : (sSet i f (a0 :: l0)).bind g = (((f (a0 :: l0)).bind fun p => (frz p).bind fun q => .ret (.nx (q.2.set i (.fro q.1))))).bind g := rfl
theorem sAsg_b {γ : Type} {f : Sem} {k : GSem} {a0 : Slot} {l0 : Env'} {g : _ → T γ} : (sAsg f k (a0 :: l0)).bind g = (((f (a0 :: l0)).bind fun p => (frz p).bind fun q => (k q.1 q.2).bind fun ρ' => .ret (.nx ρ'))).bind g := rfl
theorem iSeq_b {γ : Type} {f : Sem} {a0 : Slot} {l0 : Env'} {g : _ → T γ} : (iSeq f (a0 :: l0)).bind g = (((f (a0 :: l0)).bind fun p => (frz p).bind fun q => (lift (seqOf q.1)).bind fun xs => .ret (xs, q.2))).bind g := rfl
theorem iRange1_b {γ : Type} {f : Sem} {a0 : Slot} {l0 : Env'} {g : _ → T γ} : (iRange1 f (a0 :: l0)).bind g = (((f (a0 :: l0)).bind fun p => (lift (rs p.1 p.2)).bind fun a => (lift (intOf a)).bind fun j => if below j 62 = true then .ret (rangeL 0 j.toNat, p.2) else .bad)).bind g := rfl
theorem sFor_b {γ : Type} {it : SemI} {k : GSem} {body : SSem} {a0 : Slot} {l0 : Env'} {g : _ → T γ} : (sFor it k body (a0 :: l0)).bind g = (((it (a0 :: l0)).bind fun p => forL k body p.1 p.2)).bind g := rfl
theorem fNew_b {γ : Type} {f : SemN} {a0 : Slot} {l0 : Env'} {g : _ → T γ} : (fNew f (a0 :: l0)).bind g = (((f (a0 :: l0)).bind fun p => .ret (.val (.lst p.1), p.2))).bind g := rfl
theorem nLst_b {γ : Type} {k : SemL} {a0 : Slot} {l0 : Env'} {g : _ → T γ} : (nLst k (a0 :: l0)).bind g = (((k (a0 :: l0)).bind fun p => if p.1.length ≤ big then .ret (p.1, p.2) else .bad)).bind g := rfl
theorem nList_b {γ : Type} {f : Sem} {a0 : Slot} {l0 : Env'} {g : _ → T γ} : (nList f (a0 :: l0)).bind g = (((f (a0 :: l0)).bind fun p => (lift (rs p.1 p.2)).bind fun a => (lift (seqOf a)).bind fun xs => .ret (xs, p.2))).bind g := rfl
theorem fAppend_b {γ : Type} {j : Nat} {f : Sem} {a0 : Slot} {l0 : Env'} {g : _ → T γ} : (fAppend j f (a0 :: l0)).bind g = (((lift (isMl (a0 :: l0) j)).bind fun _ => (f (a0 :: l0)).bind fun p => (frz p).bind fun q => (lift (isMl q.2 j)).bind fun xs => if xs.length < big then .ret (.val .non, q.2.set j (.ml (xs ++ [q.1]))) else .bad)).bind g := rfl
theorem fPopAt_b {γ : Type} {j : Nat} {f : Sem} {a0 : Slot} {l0 : Env'} {g : _ → T γ} : (fPopAt j f (a0 :: l0)).bind g = (((lift (isMl (a0 :: l0) j)).bind fun _ => (f (a0 :: l0)).bind fun p => (lift (rs p.1 p.2)).bind fun a => (lift (intOf a)).bind fun i => (lift (isMl p.2 j)).bind fun xs => if 0 ≤ i ∧ below i 62 = true then (lift xs[i.toNat]?).bind fun t => .ret (.val t, p.2.set j (.ml (xs.eraseIdx i.toNat))) else .bad)).bind g := rfl
theorem nLc_b {γ : Type} {vs : List Nat} {it : SemI} {k : GSem} {tt : SemB} {el : Sem} {a0 : Slot} {l0 : Env'} {g : _ → T γ} : (nLc vs it k tt el (a0 :: l0)).bind g = (((it (a0 :: l0)).bind fun p => if p.1.length < big then (lcL vs k tt el p.1 [] p.2).bind fun r => .ret (r.1, backE p.2 r.2 vs) else .bad)).bind g := rfl
theorem nListRange_b {γ : Type} {f : Sem} {a0 : Slot} {l0 : Env'} {g : _ → T γ} : (nListRange f (a0 :: l0)).bind g = (((f (a0 :: l0)).bind fun p => (lift (rs p.1 p.2)).bind fun a => (lift (intOf a)).bind fun j => if 0 ≤ j ∧ below j 24 = true then .ret (rangeL 0 j.toNat, p.2) else .bad)).bind g := rfl
theorem sPar_b {γ : Type} {i j : Nat} {m : SemL} {a0 : Slot} {l0 : Env'} {g : _ → T γ} : (sPar i j m (a0 :: l0)).bind g = (((m (a0 :: l0)).bind fun p => match p.1 with
  | [t, u] => .ret (.nx ((p.2.set i (.fro t)).set j (.fro u)))
  | _ => .bad)).bind g := rfl
theorem sParE_b {γ : Type} {i j : Nat} {f : Sem} {a0 : Slot} {l0 : Env'} {g : _ → T γ} : (sParE i j f (a0 :: l0)).bind g = (((f (a0 :: l0)).bind fun p => (frz p).bind fun q => if i < q.2.length ∧ j < q.2.length then .ret (.nx ((q.2.set i (.fro q.1)).set j (.ml []))) else .bad)).bind g := rfl
theorem sParN_b {γ : Type} {i j : Nat} {f : SemN} {a0 : Slot} {l0 : Env'} {g : _ → T γ} : (sParN i j f (a0 :: l0)).bind g = (((f (a0 :: l0)).bind fun q => if i < q.2.length ∧ j < q.2.length then .ret (.nx ((q.2.set i (.ml q.1)).set j (.ml []))) else .bad)).bind g := rfl
theorem sFldSet_b {γ : Type} {j c i : Nat} {f : Sem} {a0 : Slot} {l0 : Env'} {g : _ → T γ} : (sFldSet j c i f (a0 :: l0)).bind g = (((f (a0 :: l0)).bind fun p => (frz p).bind fun q => match q.2[j]? with
  | some (.slf c' fs) => if c' = c ∧ fs.length = i then .ret (.nx (q.2.set j (.slf c (fs ++ [q.1])))) else .bad
  | _ => .bad)).bind g := rfl
def lenK (c : Nat) (fn : List AV → T AV) (t : AV) (ρ : Env') : T (Hd × Env') := match t with
  | .ins c' xs => if c' = c then (fn [.ins c' xs]).bind fun t => (lift (intU t)).bind fun i => .ret (.val (.int i), ρ) else .bad
  | _ => .bad
theorem fC_b {γ : Type} {t : AV} {ρ : Env'} {g : Hd × Env' → T γ} : (fC t ρ).bind g = g (.val t, ρ) := rfl
theorem lNil_b {γ : Type} {ρ : Env'} {g : List AV × Env' → T γ} : (lNil ρ).bind g = g ([], ρ) := rfl
theorem sNil_b {γ : Type} {ρ : Env'} {g : Out → T γ} : (sNil ρ).bind g = g (.nx ρ) := rfl
theorem fYes_b {γ : Type} {ρ : Env'} {g : Bool × Env' → T γ} : (fYes ρ).bind g = g (true, ρ) := rfl
theorem tgName_b {γ : Type} {i : Nat} {t : AV} {a0 : Slot} {l0 : Env'} {g : Env' → T γ} : (tgName i t (a0 :: l0)).bind g = g ((a0 :: l0).set i (.fro t)) := rfl
theorem tgNil_b {γ : Type} {ρ : Env'} {g : Env' → T γ} : (tgNil [] ρ).bind g = g ρ := rfl
theorem tgCons_b {γ : Type} {f : GSem} {k : List AV → Env' → T Env'} {t : AV} {r : List AV} {a0 : Slot} {l0 : Env'} {g : Env' → T γ} : (tgCons f k (t :: r) (a0 :: l0)).bind g = ((f t (a0 :: l0)).bind fun ρ' => k r ρ').bind g := rfl
theorem tgTup_b {γ : Type} {n : Nat} {k : List AV → Env' → T Env'} {xs : List AV} {ρ : Env'} {g : Env' → T γ} : (tgTup n k (.tup xs) ρ).bind g = (if xs.length = n then k xs ρ else .bad).bind g := rfl
theorem fPart_n {γ : Type} {ρ : Env'} {g : Option Int × Env' → T γ} : (fPart none ρ).bind g = g (none, ρ) := rfl
theorem fPart_s {γ : Type} {f : Sem} {a0 : Slot} {l0 : Env'} {g : Option Int × Env' → T γ} : (fPart (some f) (a0 :: l0)).bind g = ((f (a0 :: l0)).bind fun p => (lift (rs p.1 p.2)).bind fun a => (lift (intOf a)).bind fun i => .ret (some i, p.2)).bind g := rfl
theorem frz_val {γ : Type} {t : AV} {ρ : Env'} {g : AV × Env' → T γ} : (frz (.val t, ρ)).bind g = g (t, ρ) := rfl
theorem lrs_val {γ : Type} {t : AV} {ρ : Env'} {g : AV → T γ} : (lift (rs (.val t) ρ)).bind g = g t := rfl
theorem rs_val {t : AV} {ρ : Env'} : rs (.val t) ρ = some t := rfl
theorem liftS_b {α γ : Type} {a : α} {g : α → T γ} : (lift (some a)).bind g = g a := rfl
theorem liftN_b {α γ : Type} {g : α → T γ} : (lift (none : Option α)).bind g = .bad := rfl
theorem lcRun_b {γ : Type} {k : GSem} {tt : SemB} {el : Sem} {x : AV} {a0 : Slot} {l0 : Env'} {g : Option AV × Env' → T γ} : (lcRun k tt el x (a0 :: l0)).bind g = ((k x (a0 :: l0)).bind fun ρ1 => (tt ρ1).bind fun p => if p.1 = true then (el p.2).bind fun q => (frz q).bind fun s => .ret (some s.1, s.2) else .ret (none, p.2)).bind g := rfl
theorem outV_rt {t : AV} : outV (.rt t) = .ret t := rfl
theorem outV_nx {ρ : Env'} : outV (.nx ρ) = .ret .non := rfl
theorem backE_n {ρ0 ρ : Env'} : backE ρ0 ρ [] = ρ := rfl
theorem backE_u {a0 b0 : Slot} {l0 m0 : Env'} {v : Nat} {vs : List Nat} : backE (a0 :: l0) (b0 :: m0) (v :: vs) = (backE (a0 :: l0) (b0 :: m0) vs).set v (froOf (a0 :: l0)[v]?) := rfl
theorem wipeE_n {ρ : Env'} : wipeE ρ [] = ρ := rfl
theorem wipeE_u {a0 : Slot} {l0 : Env'} {v : Nat} {vs : List Nat} : wipeE (a0 :: l0) (v :: vs) = (wipeE (a0 :: l0) vs).set v .un := rfl
theorem froOf_f {t : AV} : froOf (some (.fro t)) = .fro t := rfl
theorem froOf_u : froOf (some .un) = .un := rfl
theorem seqOf_t {xs : List AV} : seqOf (.tup xs) = some xs := rfl
theorem seqOf_l {xs : List AV} : seqOf (.lst xs) = some xs := rfl
theorem lstOf_l {xs : List AV} : lstOf (.lst xs) = some xs := rfl
theorem intOf_i {i : Int} : intOf (.int i) = some i := rfl
theorem blOf_b {b : Bool} : blOf (.bl b) = some b := rfl
theorem tru_n : tru .non = some false := rfl
theorem tru_b {b : Bool} : tru (.bl b) = some b := rfl
theorem tru_i {i : Int} : tru (.int i) = some (i != 0) := rfl
theorem tru_t {xs : List AV} : tru (.tup xs) = some (!xs.isEmpty) := rfl
theorem tru_l {xs : List AV} : tru (.lst xs) = some (!xs.isEmpty) := rfl
theorem pLen_t {xs : List AV} : pLen (.tup xs) = some (.int xs.length) := rfl
theorem pLen_l {xs : List AV} : pLen (.lst xs) = some (.int xs.length) := rfl
theorem pLen_s {xs : List Int} : pLen (.scr xs) = some (.int xs.length) := rfl
theorem pTuple_t {xs : List AV} : pTuple (.tup xs) = some (.tup xs) := rfl
theorem pTuple_l {xs : List AV} : pTuple (.lst xs) = some (.tup xs) := rfl
theorem pAdd_i {i j : Int} : pAdd (.int i) (.int j) = some (.int (i + j)) := rfl
theorem pAdd_t {xs ys : List AV} : pAdd (.tup xs) (.tup ys) = if xs.length + ys.length ≤ big then some (.tup (xs ++ ys)) else none := rfl
theorem pAdd_l {xs ys : List AV} : pAdd (.lst xs) (.lst ys) = if xs.length + ys.length ≤ big then some (.lst (xs ++ ys)) else none := rfl
theorem pNeg_i {i : Int} : pNeg (.int i) = some (.int (-i)) := rfl
theorem pLt_i {i j : Int} : pLt (.int i) (.int j) = some (.bl (decide (i < j))) := rfl
theorem pGt_i {i j : Int} : pGt (.int i) (.int j) = some (.bl (decide (j < i))) := rfl
theorem pGe_i {i j : Int} : pGe (.int i) (.int j) = some (.bl (decide (j ≤ i))) := rfl
theorem pMax2_i {i j : Int} : pMax2 (.int i) (.int j) = some (.int (if j > i then j else i)) := rfl
theorem pMin2_i {i j : Int} : pMin2 (.int i) (.int j) = some (.int (if j < i then j else i)) := rfl
theorem pIx_t {xs : List AV} {i : Int} : pIx (.tup xs) (.int i) = atI xs i := rfl
theorem pIx_l {xs : List AV} {i : Int} : pIx (.lst xs) (.int i) = atI xs i := rfl
theorem pIs_nn : pIs .non .non = some (.bl true) := rfl
theorem pIs_in {i : Int} : pIs (.int i) .non = some (.bl false) := rfl
theorem pIs_tn {xs : List AV} : pIs (.tup xs) .non = some (.bl false) := rfl
theorem pIs_ln {xs : List AV} : pIs (.lst xs) .non = some (.bl false) := rfl
theorem pIs_bn {b : Bool} : pIs (.bl b) .non = some (.bl false) := rfl
theorem pIs_bb {j k : Bool} : pIs (.bl j) (.bl k) = some (.bl (decide (j = k))) := rfl
theorem pNotIs_nn : pNotIs .non .non = some (.bl false) := rfl
theorem pNotIs_in {i : Int} : pNotIs (.int i) .non = some (.bl true) := rfl
theorem pNotIs_tn {xs : List AV} : pNotIs (.tup xs) .non = some (.bl true) := rfl
theorem pNotIs_ln {xs : List AV} : pNotIs (.lst xs) .non = some (.bl true) := rfl
theorem pNotIs_bn {b : Bool} : pNotIs (.bl b) .non = some (.bl true) := rfl
theorem pNotIs_bb {j k : Bool} : pNotIs (.bl j) (.bl k) = some (.bl (!decide (j = k))) := rfl
theorem pCut_t {xs : List AV} {lo hi : Option Int} : pCut (.tup xs) lo hi = some (.tup (cutA xs lo hi)) := rfl
theorem pCut_l {xs : List AV} {lo hi : Option Int} : pCut (.lst xs) lo hi = some (.lst (cutA xs lo hi)) := rfl
theorem atI_0 {x : AV} {xs : List AV} : atI (x :: xs) 0 = some x := atI_nat' (xs := x :: xs) (i := 0) (by simp)
theorem atI_1 {x y : AV} {xs : List AV} : atI (x :: y :: xs) 1 = some y := atI_nat' (xs := x :: y :: xs) (i := 1) (by simp)
theorem atI_2 {x y z : AV} {xs : List AV} : atI (x :: y :: z :: xs) 2 = some z := atI_nat' (xs := x :: y :: z :: xs) (i := 2) (by simp)
theorem atI_3 {x y z u : AV} {xs : List AV} : atI (x :: y :: z :: u :: xs) 3 = some u := atI_nat' (xs := x :: y :: z :: u :: xs) (i := 3) (by simp)
theorem lg0 {α : Type} {x : α} {xs : List α} : (x :: xs)[0]? = some x := rfl
theorem lg1 {α : Type} {x y : α} {xs : List α} : (x :: y :: xs)[1]? = some y := rfl
theorem lg2 {α : Type} {x y z : α} {xs : List α} : (x :: y :: z :: xs)[2]? = some z := rfl
theorem lg3 {α : Type} {x y z u : α} {xs : List α} : (x :: y :: z :: u :: xs)[3]? = some u := rfl
theorem isi_bl_int {b : Bool} : pIsi "int" (.bl b) = some (.bl true) := by simp [pIsi, tyName, subTy]
theorem isi_bl_bool {b : Bool} : pIsi "bool" (.bl b) = some (.bl true) := by simp [pIsi, tyName, subTy]
theorem isi_bl_tuple {b : Bool} : pIsi "tuple" (.bl b) = some (.bl false) := by simp [pIsi, tyName, subTy]
theorem isi2_bl {b : Bool} : pIsi2 "list" "tuple" (.bl b) = some (.bl false) := by simp [pIsi2, tyName, subTy]
theorem isi_int_int {i : Int} : pIsi "int" (.int i) = some (.bl true) := by simp [pIsi, tyName, subTy]
theorem isi_int_bool {i : Int} : pIsi "bool" (.int i) = some (.bl false) := by simp [pIsi, tyName, subTy]
theorem isi_int_tuple {i : Int} : pIsi "tuple" (.int i) = some (.bl false) := by simp [pIsi, tyName, subTy]
theorem isi2_int {i : Int} : pIsi2 "list" "tuple" (.int i) = some (.bl false) := by simp [pIsi2, tyName, subTy]
theorem isi_str_int {s : Str} : pIsi "int" (.str s) = some (.bl false) := by simp [pIsi, tyName, subTy]
theorem isi_str_bool {s : Str} : pIsi "bool" (.str s) = some (.bl false) := by simp [pIsi, tyName, subTy]
theorem isi_str_tuple {s : Str} : pIsi "tuple" (.str s) = some (.bl false) := by simp [pIsi, tyName, subTy]
theorem isi2_str {s : Str} : pIsi2 "list" "tuple" (.str s) = some (.bl false) := by simp [pIsi2, tyName, subTy]
theorem isi_tup_int {xs : List AV} : pIsi "int" (.tup xs) = some (.bl false) := by simp [pIsi, tyName, subTy]
theorem isi_tup_bool {xs : List AV} : pIsi "bool" (.tup xs) = some (.bl false) := by simp [pIsi, tyName, subTy]
theorem isi_tup_tuple {xs : List AV} : pIsi "tuple" (.tup xs) = some (.bl true) := by simp [pIsi, tyName, subTy]
theorem isi2_tup {xs : List AV} : pIsi2 "list" "tuple" (.tup xs) = some (.bl true) := by simp [pIsi2, tyName, subTy]
theorem isi_lst_int {xs : List AV} : pIsi "int" (.lst xs) = some (.bl false) := by simp [pIsi, tyName, subTy]
theorem isi_lst_bool {xs : List AV} : pIsi "bool" (.lst xs) = some (.bl false) := by simp [pIsi, tyName, subTy]
theorem isi_lst_tuple {xs : List AV} : pIsi "tuple" (.lst xs) = some (.bl false) := by simp [pIsi, tyName, subTy]
theorem isi2_lst {xs : List AV} : pIsi2 "list" "tuple" (.lst xs) = some (.bl true) := by simp [pIsi2, tyName, subTy]
theorem seqOf_t_b {γ : Type} {xs : List AV} {g : _ → T γ} : (lift (seqOf (.tup xs))).bind g = g xs := by rw [seqOf_t]; rfl
theorem seqOf_l_b {γ : Type} {xs : List AV} {g : _ → T γ} : (lift (seqOf (.lst xs))).bind g = g xs := by rw [seqOf_l]; rfl
theorem lstOf_l_b {γ : Type} {xs : List AV} {g : _ → T γ} : (lift (lstOf (.lst xs))).bind g = g xs := by rw [lstOf_l]; rfl
theorem intOf_i_b {γ : Type} {i : Int} {g : _ → T γ} : (lift (intOf (.int i))).bind g = g i := by rw [intOf_i]; rfl
theorem blOf_b_b {γ : Type} {b : Bool} {g : _ → T γ} : (lift (blOf (.bl b))).bind g = g b := by rw [blOf_b]; rfl
theorem tru_n_b {γ : Type} {g : _ → T γ} : (lift (tru .non)).bind g = g false := by rw [tru_n]; rfl
theorem tru_b_b {γ : Type} {b : Bool} {g : _ → T γ} : (lift (tru (.bl b))).bind g = g b := by rw [tru_b]; rfl
theorem tru_i_b {γ : Type} {i : Int} {g : _ → T γ} : (lift (tru (.int i))).bind g = g (i != 0) := by rw [tru_i]; rfl
theorem tru_t_b {γ : Type} {xs : List AV} {g : _ → T γ} : (lift (tru (.tup xs))).bind g = g (!xs.isEmpty) := by rw [tru_t]; rfl
theorem tru_l_b {γ : Type} {xs : List AV} {g : _ → T γ} : (lift (tru (.lst xs))).bind g = g (!xs.isEmpty) := by rw [tru_l]; rfl
theorem pLen_t_b {γ : Type} {xs : List AV} {g : _ → T γ} : (lift (pLen (.tup xs))).bind g = g (.int xs.length) := by rw [pLen_t]; rfl
theorem pLen_l_b {γ : Type} {xs : List AV} {g : _ → T γ} : (lift (pLen (.lst xs))).bind g = g (.int xs.length) := by rw [pLen_l]; rfl
theorem pLen_s_b {γ : Type} {xs : List Int} {g : _ → T γ} : (lift (pLen (.scr xs))).bind g = g (.int xs.length) := by rw [pLen_s]; rfl
theorem pTuple_t_b {γ : Type} {xs : List AV} {g : _ → T γ} : (lift (pTuple (.tup xs))).bind g = g (.tup xs) := by rw [pTuple_t]; rfl
theorem pTuple_l_b {γ : Type} {xs : List AV} {g : _ → T γ} : (lift (pTuple (.lst xs))).bind g = g (.tup xs) := by rw [pTuple_l]; rfl
theorem pAdd_i_b {γ : Type} {i j : Int} {g : _ → T γ} : (lift (pAdd (.int i) (.int j))).bind g = g (.int (i + j)) := by rw [pAdd_i]; rfl
theorem pNeg_i_b {γ : Type} {i : Int} {g : _ → T γ} : (lift (pNeg (.int i))).bind g = g (.int (-i)) := by rw [pNeg_i]; rfl
theorem pLt_i_b {γ : Type} {i j : Int} {g : _ → T γ} : (lift (pLt (.int i) (.int j))).bind g = g (.bl (decide (i < j))) := by rw [pLt_i]; rfl
theorem pGt_i_b {γ : Type} {i j : Int} {g : _ → T γ} : (lift (pGt (.int i) (.int j))).bind g = g (.bl (decide (j < i))) := by rw [pGt_i]; rfl
theorem pGe_i_b {γ : Type} {i j : Int} {g : _ → T γ} : (lift (pGe (.int i) (.int j))).bind g = g (.bl (decide (j ≤ i))) := by rw [pGe_i]; rfl
theorem pMax2_i_b {γ : Type} {i j : Int} {g : _ → T γ} : (lift (pMax2 (.int i) (.int j))).bind g = g (.int (if j > i then j else i)) := by rw [pMax2_i]; rfl
theorem pMin2_i_b {γ : Type} {i j : Int} {g : _ → T γ} : (lift (pMin2 (.int i) (.int j))).bind g = g (.int (if j < i then j else i)) := by rw [pMin2_i]; rfl
theorem pIs_nn_b {γ : Type} {g : _ → T γ} : (lift (pIs .non .non)).bind g = g (.bl true) := by rw [pIs_nn]; rfl
theorem pIs_in_b {γ : Type} {i : Int} {g : _ → T γ} : (lift (pIs (.int i) .non)).bind g = g (.bl false) := by rw [pIs_in]; rfl
theorem pIs_tn_b {γ : Type} {xs : List AV} {g : _ → T γ} : (lift (pIs (.tup xs) .non)).bind g = g (.bl false) := by rw [pIs_tn]; rfl
theorem pIs_ln_b {γ : Type} {xs : List AV} {g : _ → T γ} : (lift (pIs (.lst xs) .non)).bind g = g (.bl false) := by rw [pIs_ln]; rfl
theorem pIs_bn_b {γ : Type} {b : Bool} {g : _ → T γ} : (lift (pIs (.bl b) .non)).bind g = g (.bl false) := by rw [pIs_bn]; rfl
theorem pIs_bb_b {γ : Type} {j k : Bool} {g : _ → T γ} : (lift (pIs (.bl j) (.bl k))).bind g = g (.bl (decide (j = k))) := by rw [pIs_bb]; rfl
theorem pNotIs_nn_b {γ : Type} {g : _ → T γ} : (lift (pNotIs .non .non)).bind g = g (.bl false) := by rw [pNotIs_nn]; rfl
theorem pNotIs_in_b {γ : Type} {i : Int} {g : _ → T γ} : (lift (pNotIs (.int i) .non)).bind g = g (.bl true) := by rw [pNotIs_in]; rfl
theorem pNotIs_tn_b {γ : Type} {xs : List AV} {g : _ → T γ} : (lift (pNotIs (.tup xs) .non)).bind g = g (.bl true) := by rw [pNotIs_tn]; rfl
theorem pNotIs_ln_b {γ : Type} {xs : List AV} {g : _ → T γ} : (lift (pNotIs (.lst xs) .non)).bind g = g (.bl true) := by rw [pNotIs_ln]; rfl
theorem pNotIs_bn_b {γ : Type} {b : Bool} {g : _ → T γ} : (lift (pNotIs (.bl b) .non)).bind g = g (.bl true) := by rw [pNotIs_bn]; rfl
theorem pNotIs_bb_b {γ : Type} {j k : Bool} {g : _ → T γ} : (lift (pNotIs (.bl j) (.bl k))).bind g = g (.bl (!decide (j = k))) := by rw [pNotIs_bb]; rfl
theorem pCut_t_b {γ : Type} {xs : List AV} {lo hi : Option Int} {g : _ → T γ} : (lift (pCut (.tup xs) lo hi)).bind g = g (.tup (cutA xs lo hi)) := by rw [pCut_t]; rfl
theorem pCut_l_b {γ : Type} {xs : List AV} {lo hi : Option Int} {g : _ → T γ} : (lift (pCut (.lst xs) lo hi)).bind g = g (.lst (cutA xs lo hi)) := by rw [pCut_l]; rfl
theorem atI_0_b {γ : Type} {x : AV} {xs : List AV} {g : _ → T γ} : (lift (atI (x :: xs) 0)).bind g = g x := by rw [atI_0]; rfl
theorem atI_1_b {γ : Type} {x y : AV} {xs : List AV} {g : _ → T γ} : (lift (atI (x :: y :: xs) 1)).bind g = g y := by rw [atI_1]; rfl
theorem atI_2_b {γ : Type} {x y z : AV} {xs : List AV} {g : _ → T γ} : (lift (atI (x :: y :: z :: xs) 2)).bind g = g z := by rw [atI_2]; rfl
theorem atI_3_b {γ : Type} {x y z u : AV} {xs : List AV} {g : _ → T γ} : (lift (atI (x :: y :: z :: u :: xs) 3)).bind g = g u := by rw [atI_3]; rfl
theorem lg0_b {γ : Type} {α : Type} {x : α} {xs : List α} {g : _ → T γ} : (lift ((x :: xs)[0]?)).bind g = g x := by rw [lg0]; rfl
theorem lg1_b {γ : Type} {α : Type} {x y : α} {xs : List α} {g : _ → T γ} : (lift ((x :: y :: xs)[1]?)).bind g = g y := by rw [lg1]; rfl
theorem lg2_b {γ : Type} {α : Type} {x y z : α} {xs : List α} {g : _ → T γ} : (lift ((x :: y :: z :: xs)[2]?)).bind g = g z := by rw [lg2]; rfl
theorem lg3_b {γ : Type} {α : Type} {x y z u : α} {xs : List α} {g : _ → T γ} : (lift ((x :: y :: z :: u :: xs)[3]?)).bind g = g u := by rw [lg3]; rfl
theorem isi_bl_int_b {γ : Type} {b : Bool} {g : _ → T γ} : (lift (pIsi "int" (.bl b))).bind g = g (.bl true) := by rw [isi_bl_int]; rfl
theorem isi_bl_bool_b {γ : Type} {b : Bool} {g : _ → T γ} : (lift (pIsi "bool" (.bl b))).bind g = g (.bl true) := by rw [isi_bl_bool]; rfl
theorem isi_bl_tuple_b {γ : Type} {b : Bool} {g : _ → T γ} : (lift (pIsi "tuple" (.bl b))).bind g = g (.bl false) := by rw [isi_bl_tuple]; rfl
theorem isi2_bl_b {γ : Type} {b : Bool} {g : _ → T γ} : (lift (pIsi2 "list" "tuple" (.bl b))).bind g = g (.bl false) := by rw [isi2_bl]; rfl
theorem isi_int_int_b {γ : Type} {i : Int} {g : _ → T γ} : (lift (pIsi "int" (.int i))).bind g = g (.bl true) := by rw [isi_int_int]; rfl
theorem isi_int_bool_b {γ : Type} {i : Int} {g : _ → T γ} : (lift (pIsi "bool" (.int i))).bind g = g (.bl false) := by rw [isi_int_bool]; rfl
theorem isi_int_tuple_b {γ : Type} {i : Int} {g : _ → T γ} : (lift (pIsi "tuple" (.int i))).bind g = g (.bl false) := by rw [isi_int_tuple]; rfl
theorem isi2_int_b {γ : Type} {i : Int} {g : _ → T γ} : (lift (pIsi2 "list" "tuple" (.int i))).bind g = g (.bl false) := by rw [isi2_int]; rfl
theorem isi_str_int_b {γ : Type} {s : Str} {g : _ → T γ} : (lift (pIsi "int" (.str s))).bind g = g (.bl false) := by rw [isi_str_int]; rfl
theorem isi_str_bool_b {γ : Type} {s : Str} {g : _ → T γ} : (lift (pIsi "bool" (.str s))).bind g = g (.bl false) := by rw [isi_str_bool]; rfl
theorem isi_str_tuple_b {γ : Type} {s : Str} {g : _ → T γ} : (lift (pIsi "tuple" (.str s))).bind g = g (.bl false) := by rw [isi_str_tuple]; rfl
theorem isi2_str_b {γ : Type} {s : Str} {g : _ → T γ} : (lift (pIsi2 "list" "tuple" (.str s))).bind g = g (.bl false) := by rw [isi2_str]; rfl
theorem isi_tup_int_b {γ : Type} {xs : List AV} {g : _ → T γ} : (lift (pIsi "int" (.tup xs))).bind g = g (.bl false) := by rw [isi_tup_int]; rfl
theorem isi_tup_bool_b {γ : Type} {xs : List AV} {g : _ → T γ} : (lift (pIsi "bool" (.tup xs))).bind g = g (.bl false) := by rw [isi_tup_bool]; rfl
theorem isi_tup_tuple_b {γ : Type} {xs : List AV} {g : _ → T γ} : (lift (pIsi "tuple" (.tup xs))).bind g = g (.bl true) := by rw [isi_tup_tuple]; rfl
theorem isi2_tup_b {γ : Type} {xs : List AV} {g : _ → T γ} : (lift (pIsi2 "list" "tuple" (.tup xs))).bind g = g (.bl true) := by rw [isi2_tup]; rfl
theorem isi_lst_int_b {γ : Type} {xs : List AV} {g : _ → T γ} : (lift (pIsi "int" (.lst xs))).bind g = g (.bl false) := by rw [isi_lst_int]; rfl
theorem isi_lst_bool_b {γ : Type} {xs : List AV} {g : _ → T γ} : (lift (pIsi "bool" (.lst xs))).bind g = g (.bl false) := by rw [isi_lst_bool]; rfl
theorem isi_lst_tuple_b {γ : Type} {xs : List AV} {g : _ → T γ} : (lift (pIsi "tuple" (.lst xs))).bind g = g (.bl false) := by rw [isi_lst_tuple]; rfl
theorem isi2_lst_b {γ : Type} {xs : List AV} {g : _ → T γ} : (lift (pIsi2 "list" "tuple" (.lst xs))).bind g = g (.bl true) := by rw [isi2_lst]; rfl
theorem vf0 {γ : Type} {t : AV} {l : Env'} {g : Hd × Env' → T γ} : (fVar 0 (.fro t :: l : Env')).bind g = g (.var 0, (.fro t :: l : Env')) := rfl
theorem rf0 {t : AV} {l : Env'} : rs (.var 0) (.fro t :: l : Env') = some t := rfl
theorem qf0 {γ : Type} {t : AV} {l : Env'} {g : AV → T γ} : (lift (rs (.var 0) (.fro t :: l : Env'))).bind g = g t := rfl
theorem zf0 {γ : Type} {t : AV} {l : Env'} {g : AV × Env' → T γ} : (frz (.var 0, (.fro t :: l : Env'))).bind g = g (t, (.fro t :: l : Env')) := rfl
theorem vm0 {γ : Type} {xs : List AV} {l : Env'} {g : Hd × Env' → T γ} : (fVar 0 (.ml xs :: l : Env')).bind g = g (.var 0, (.ml xs :: l : Env')) := rfl
theorem rm0 {xs : List AV} {l : Env'} : rs (.var 0) (.ml xs :: l : Env') = some (.lst xs) := rfl
theorem qm0 {γ : Type} {xs : List AV} {l : Env'} {g : AV → T γ} : (lift (rs (.var 0) (.ml xs :: l : Env'))).bind g = g (.lst xs) := rfl
theorem zm0 {γ : Type} {xs : List AV} {l : Env'} {g : AV × Env' → T γ} : (frz (.var 0, (.ml xs :: l : Env'))).bind g = g (.lst xs, (.fro (.lst xs) :: l)) := rfl
theorem im0 {γ : Type} {xs : List AV} {l : Env'} {g : List AV → T γ} : (lift (isMl (.ml xs :: l : Env') 0)).bind g = g xs := rfl
theorem vf1 {γ : Type} {s0 : Slot} {t : AV} {l : Env'} {g : Hd × Env' → T γ} : (fVar 1 (s0 :: .fro t :: l : Env')).bind g = g (.var 1, (s0 :: .fro t :: l : Env')) := rfl
theorem rf1 {s0 : Slot} {t : AV} {l : Env'} : rs (.var 1) (s0 :: .fro t :: l : Env') = some t := rfl
theorem qf1 {γ : Type} {s0 : Slot} {t : AV} {l : Env'} {g : AV → T γ} : (lift (rs (.var 1) (s0 :: .fro t :: l : Env'))).bind g = g t := rfl
theorem zf1 {γ : Type} {s0 : Slot} {t : AV} {l : Env'} {g : AV × Env' → T γ} : (frz (.var 1, (s0 :: .fro t :: l : Env'))).bind g = g (t, (s0 :: .fro t :: l : Env')) := rfl
theorem vm1 {γ : Type} {s0 : Slot} {xs : List AV} {l : Env'} {g : Hd × Env' → T γ} : (fVar 1 (s0 :: .ml xs :: l : Env')).bind g = g (.var 1, (s0 :: .ml xs :: l : Env')) := rfl
theorem rm1 {s0 : Slot} {xs : List AV} {l : Env'} : rs (.var 1) (s0 :: .ml xs :: l : Env') = some (.lst xs) := rfl
theorem qm1 {γ : Type} {s0 : Slot} {xs : List AV} {l : Env'} {g : AV → T γ} : (lift (rs (.var 1) (s0 :: .ml xs :: l : Env'))).bind g = g (.lst xs) := rfl
theorem zm1 {γ : Type} {s0 : Slot} {xs : List AV} {l : Env'} {g : AV × Env' → T γ} : (frz (.var 1, (s0 :: .ml xs :: l : Env'))).bind g = g (.lst xs, (s0 :: .fro (.lst xs) :: l)) := rfl
theorem im1 {γ : Type} {s0 : Slot} {xs : List AV} {l : Env'} {g : List AV → T γ} : (lift (isMl (s0 :: .ml xs :: l : Env') 1)).bind g = g xs := rfl
theorem vf2 {γ : Type} {s0 s1 : Slot} {t : AV} {l : Env'} {g : Hd × Env' → T γ} : (fVar 2 (s0 :: s1 :: .fro t :: l : Env')).bind g = g (.var 2, (s0 :: s1 :: .fro t :: l : Env')) := rfl
theorem rf2 {s0 s1 : Slot} {t : AV} {l : Env'} : rs (.var 2) (s0 :: s1 :: .fro t :: l : Env') = some t := rfl
theorem qf2 {γ : Type} {s0 s1 : Slot} {t : AV} {l : Env'} {g : AV → T γ} : (lift (rs (.var 2) (s0 :: s1 :: .fro t :: l : Env'))).bind g = g t := rfl
theorem zf2 {γ : Type} {s0 s1 : Slot} {t : AV} {l : Env'} {g : AV × Env' → T γ} : (frz (.var 2, (s0 :: s1 :: .fro t :: l : Env'))).bind g = g (t, (s0 :: s1 :: .fro t :: l : Env')) := rfl
theorem vm2 {γ : Type} {s0 s1 : Slot} {xs : List AV} {l : Env'} {g : Hd × Env' → T γ} : (fVar 2 (s0 :: s1 :: .ml xs :: l : Env')).bind g = g (.var 2, (s0 :: s1 :: .ml xs :: l : Env')) := rfl
theorem rm2 {s0 s1 : Slot} {xs : List AV} {l : Env'} : rs (.var 2) (s0 :: s1 :: .ml xs :: l : Env') = some (.lst xs) := rfl
theorem qm2 {γ : Type} {s0 s1 : Slot} {xs : List AV} {l : Env'} {g : AV → T γ} : (lift (rs (.var 2) (s0 :: s1 :: .ml xs :: l : Env'))).bind g = g (.lst xs) := rfl
theorem zm2 {γ : Type} {s0 s1 : Slot} {xs : List AV} {l : Env'} {g : AV × Env' → T γ} : (frz (.var 2, (s0 :: s1 :: .ml xs :: l : Env'))).bind g = g (.lst xs, (s0 :: s1 :: .fro (.lst xs) :: l)) := rfl
theorem im2 {γ : Type} {s0 s1 : Slot} {xs : List AV} {l : Env'} {g : List AV → T γ} : (lift (isMl (s0 :: s1 :: .ml xs :: l : Env') 2)).bind g = g xs := rfl
theorem vf3 {γ : Type} {s0 s1 s2 : Slot} {t : AV} {l : Env'} {g : Hd × Env' → T γ} : (fVar 3 (s0 :: s1 :: s2 :: .fro t :: l : Env')).bind g = g (.var 3, (s0 :: s1 :: s2 :: .fro t :: l : Env')) := rfl
theorem rf3 {s0 s1 s2 : Slot} {t : AV} {l : Env'} : rs (.var 3) (s0 :: s1 :: s2 :: .fro t :: l : Env') = some t := rfl
theorem qf3 {γ : Type} {s0 s1 s2 : Slot} {t : AV} {l : Env'} {g : AV → T γ} : (lift (rs (.var 3) (s0 :: s1 :: s2 :: .fro t :: l : Env'))).bind g = g t := rfl
theorem zf3 {γ : Type} {s0 s1 s2 : Slot} {t : AV} {l : Env'} {g : AV × Env' → T γ} : (frz (.var 3, (s0 :: s1 :: s2 :: .fro t :: l : Env'))).bind g = g (t, (s0 :: s1 :: s2 :: .fro t :: l : Env')) := rfl
theorem vm3 {γ : Type} {s0 s1 s2 : Slot} {xs : List AV} {l : Env'} {g : Hd × Env' → T γ} : (fVar 3 (s0 :: s1 :: s2 :: .ml xs :: l : Env')).bind g = g (.var 3, (s0 :: s1 :: s2 :: .ml xs :: l : Env')) := rfl
theorem rm3 {s0 s1 s2 : Slot} {xs : List AV} {l : Env'} : rs (.var 3) (s0 :: s1 :: s2 :: .ml xs :: l : Env') = some (.lst xs) := rfl
theorem qm3 {γ : Type} {s0 s1 s2 : Slot} {xs : List AV} {l : Env'} {g : AV → T γ} : (lift (rs (.var 3) (s0 :: s1 :: s2 :: .ml xs :: l : Env'))).bind g = g (.lst xs) := rfl
theorem zm3 {γ : Type} {s0 s1 s2 : Slot} {xs : List AV} {l : Env'} {g : AV × Env' → T γ} : (frz (.var 3, (s0 :: s1 :: s2 :: .ml xs :: l : Env'))).bind g = g (.lst xs, (s0 :: s1 :: s2 :: .fro (.lst xs) :: l)) := rfl
theorem im3 {γ : Type} {s0 s1 s2 : Slot} {xs : List AV} {l : Env'} {g : List AV → T γ} : (lift (isMl (s0 :: s1 :: s2 :: .ml xs :: l : Env') 3)).bind g = g xs := rfl
theorem vf4 {γ : Type} {s0 s1 s2 s3 : Slot} {t : AV} {l : Env'} {g : Hd × Env' → T γ} : (fVar 4 (s0 :: s1 :: s2 :: s3 :: .fro t :: l : Env')).bind g = g (.var 4, (s0 :: s1 :: s2 :: s3 :: .fro t :: l : Env')) := rfl
theorem rf4 {s0 s1 s2 s3 : Slot} {t : AV} {l : Env'} : rs (.var 4) (s0 :: s1 :: s2 :: s3 :: .fro t :: l : Env') = some t := rfl
theorem qf4 {γ : Type} {s0 s1 s2 s3 : Slot} {t : AV} {l : Env'} {g : AV → T γ} : (lift (rs (.var 4) (s0 :: s1 :: s2 :: s3 :: .fro t :: l : Env'))).bind g = g t := rfl
theorem zf4 {γ : Type} {s0 s1 s2 s3 : Slot} {t : AV} {l : Env'} {g : AV × Env' → T γ} : (frz (.var 4, (s0 :: s1 :: s2 :: s3 :: .fro t :: l : Env'))).bind g = g (t, (s0 :: s1 :: s2 :: s3 :: .fro t :: l : Env')) := rfl
theorem vm4 {γ : Type} {s0 s1 s2 s3 : Slot} {xs : List AV} {l : Env'} {g : Hd × Env' → T γ} : (fVar 4 (s0 :: s1 :: s2 :: s3 :: .ml xs :: l : Env')).bind g = g (.var 4, (s0 :: s1 :: s2 :: s3 :: .ml xs :: l : Env')) := rfl
theorem rm4 {s0 s1 s2 s3 : Slot} {xs : List AV} {l : Env'} : rs (.var 4) (s0 :: s1 :: s2 :: s3 :: .ml xs :: l : Env') = some (.lst xs) := rfl
theorem qm4 {γ : Type} {s0 s1 s2 s3 : Slot} {xs : List AV} {l : Env'} {g : AV → T γ} : (lift (rs (.var 4) (s0 :: s1 :: s2 :: s3 :: .ml xs :: l : Env'))).bind g = g (.lst xs) := rfl
theorem zm4 {γ : Type} {s0 s1 s2 s3 : Slot} {xs : List AV} {l : Env'} {g : AV × Env' → T γ} : (frz (.var 4, (s0 :: s1 :: s2 :: s3 :: .ml xs :: l : Env'))).bind g = g (.lst xs, (s0 :: s1 :: s2 :: s3 :: .fro (.lst xs) :: l)) := rfl
theorem im4 {γ : Type} {s0 s1 s2 s3 : Slot} {xs : List AV} {l : Env'} {g : List AV → T γ} : (lift (isMl (s0 :: s1 :: s2 :: s3 :: .ml xs :: l : Env') 4)).bind g = g xs := rfl
theorem vf5 {γ : Type} {s0 s1 s2 s3 s4 : Slot} {t : AV} {l : Env'} {g : Hd × Env' → T γ} : (fVar 5 (s0 :: s1 :: s2 :: s3 :: s4 :: .fro t :: l : Env')).bind g = g (.var 5, (s0 :: s1 :: s2 :: s3 :: s4 :: .fro t :: l : Env')) := rfl
theorem rf5 {s0 s1 s2 s3 s4 : Slot} {t : AV} {l : Env'} : rs (.var 5) (s0 :: s1 :: s2 :: s3 :: s4 :: .fro t :: l : Env') = some t := rfl
theorem qf5 {γ : Type} {s0 s1 s2 s3 s4 : Slot} {t : AV} {l : Env'} {g : AV → T γ} : (lift (rs (.var 5) (s0 :: s1 :: s2 :: s3 :: s4 :: .fro t :: l : Env'))).bind g = g t := rfl
theorem zf5 {γ : Type} {s0 s1 s2 s3 s4 : Slot} {t : AV} {l : Env'} {g : AV × Env' → T γ} : (frz (.var 5, (s0 :: s1 :: s2 :: s3 :: s4 :: .fro t :: l : Env'))).bind g = g (t, (s0 :: s1 :: s2 :: s3 :: s4 :: .fro t :: l : Env')) := rfl
theorem vm5 {γ : Type} {s0 s1 s2 s3 s4 : Slot} {xs : List AV} {l : Env'} {g : Hd × Env' → T γ} : (fVar 5 (s0 :: s1 :: s2 :: s3 :: s4 :: .ml xs :: l : Env')).bind g = g (.var 5, (s0 :: s1 :: s2 :: s3 :: s4 :: .ml xs :: l : Env')) := rfl
theorem rm5 {s0 s1 s2 s3 s4 : Slot} {xs : List AV} {l : Env'} : rs (.var 5) (s0 :: s1 :: s2 :: s3 :: s4 :: .ml xs :: l : Env') = some (.lst xs) := rfl
theorem qm5 {γ : Type} {s0 s1 s2 s3 s4 : Slot} {xs : List AV} {l : Env'} {g : AV → T γ} : (lift (rs (.var 5) (s0 :: s1 :: s2 :: s3 :: s4 :: .ml xs :: l : Env'))).bind g = g (.lst xs) := rfl
theorem zm5 {γ : Type} {s0 s1 s2 s3 s4 : Slot} {xs : List AV} {l : Env'} {g : AV × Env' → T γ} : (frz (.var 5, (s0 :: s1 :: s2 :: s3 :: s4 :: .ml xs :: l : Env'))).bind g = g (.lst xs, (s0 :: s1 :: s2 :: s3 :: s4 :: .fro (.lst xs) :: l)) := rfl
theorem im5 {γ : Type} {s0 s1 s2 s3 s4 : Slot} {xs : List AV} {l : Env'} {g : List AV → T γ} : (lift (isMl (s0 :: s1 :: s2 :: s3 :: s4 :: .ml xs :: l : Env') 5)).bind g = g xs := rfl
theorem vf6 {γ : Type} {s0 s1 s2 s3 s4 s5 : Slot} {t : AV} {l : Env'} {g : Hd × Env' → T γ} : (fVar 6 (s0 :: s1 :: s2 :: s3 :: s4 :: s5 :: .fro t :: l : Env')).bind g = g (.var 6, (s0 :: s1 :: s2 :: s3 :: s4 :: s5 :: .fro t :: l : Env')) := rfl
theorem rf6 {s0 s1 s2 s3 s4 s5 : Slot} {t : AV} {l : Env'} : rs (.var 6) (s0 :: s1 :: s2 :: s3 :: s4 :: s5 :: .fro t :: l : Env') = some t := rfl
theorem qf6 {γ : Type} {s0 s1 s2 s3 s4 s5 : Slot} {t : AV} {l : Env'} {g : AV → T γ} : (lift (rs (.var 6) (s0 :: s1 :: s2 :: s3 :: s4 :: s5 :: .fro t :: l : Env'))).bind g = g t := rfl
theorem zf6 {γ : Type} {s0 s1 s2 s3 s4 s5 : Slot} {t : AV} {l : Env'} {g : AV × Env' → T γ} : (frz (.var 6, (s0 :: s1 :: s2 :: s3 :: s4 :: s5 :: .fro t :: l : Env'))).bind g = g (t, (s0 :: s1 :: s2 :: s3 :: s4 :: s5 :: .fro t :: l : Env')) := rfl
theorem vm6 {γ : Type} {s0 s1 s2 s3 s4 s5 : Slot} {xs : List AV} {l : Env'} {g : Hd × Env' → T γ} : (fVar 6 (s0 :: s1 :: s2 :: s3 :: s4 :: s5 :: .ml xs :: l : Env')).bind g = g (.var 6, (s0 :: s1 :: s2 :: s3 :: s4 :: s5 :: .ml xs :: l : Env')) := rfl
theorem rm6 {s0 s1 s2 s3 s4 s5 : Slot} {xs : List AV} {l : Env'} : rs (.var 6) (s0 :: s1 :: s2 :: s3 :: s4 :: s5 :: .ml xs :: l : Env') = some (.lst xs) := rfl
theorem qm6 {γ : Type} {s0 s1 s2 s3 s4 s5 : Slot} {xs : List AV} {l : Env'} {g : AV → T γ} : (lift (rs (.var 6) (s0 :: s1 :: s2 :: s3 :: s4 :: s5 :: .ml xs :: l : Env'))).bind g = g (.lst xs) := rfl
theorem zm6 {γ : Type} {s0 s1 s2 s3 s4 s5 : Slot} {xs : List AV} {l : Env'} {g : AV × Env' → T γ} : (frz (.var 6, (s0 :: s1 :: s2 :: s3 :: s4 :: s5 :: .ml xs :: l : Env'))).bind g = g (.lst xs, (s0 :: s1 :: s2 :: s3 :: s4 :: s5 :: .fro (.lst xs) :: l)) := rfl
theorem im6 {γ : Type} {s0 s1 s2 s3 s4 s5 : Slot} {xs : List AV} {l : Env'} {g : List AV → T γ} : (lift (isMl (s0 :: s1 :: s2 :: s3 :: s4 :: s5 :: .ml xs :: l : Env') 6)).bind g = g xs := rfl
theorem vf7 {γ : Type} {s0 s1 s2 s3 s4 s5 s6 : Slot} {t : AV} {l : Env'} {g : Hd × Env' → T γ} : (fVar 7 (s0 :: s1 :: s2 :: s3 :: s4 :: s5 :: s6 :: .fro t :: l : Env')).bind g = g (.var 7, (s0 :: s1 :: s2 :: s3 :: s4 :: s5 :: s6 :: .fro t :: l : Env')) := rfl
theorem rf7 {s0 s1 s2 s3 s4 s5 s6 : Slot} {t : AV} {l : Env'} : rs (.var 7) (s0 :: s1 :: s2 :: s3 :: s4 :: s5 :: s6 :: .fro t :: l : Env') = some t := rfl
theorem qf7 {γ : Type} {s0 s1 s2 s3 s4 s5 s6 : Slot} {t : AV} {l : Env'} {g : AV → T γ} : (lift (rs (.var 7) (s0 :: s1 :: s2 :: s3 :: s4 :: s5 :: s6 :: .fro t :: l : Env'))).bind g = g t := rfl
theorem zf7 {γ : Type} {s0 s1 s2 s3 s4 s5 s6 : Slot} {t : AV} {l : Env'} {g : AV × Env' → T γ} : (frz (.var 7, (s0 :: s1 :: s2 :: s3 :: s4 :: s5 :: s6 :: .fro t :: l : Env'))).bind g = g (t, (s0 :: s1 :: s2 :: s3 :: s4 :: s5 :: s6 :: .fro t :: l : Env')) := rfl
theorem vm7 {γ : Type} {s0 s1 s2 s3 s4 s5 s6 : Slot} {xs : List AV} {l : Env'} {g : Hd × Env' → T γ} : (fVar 7 (s0 :: s1 :: s2 :: s3 :: s4 :: s5 :: s6 :: .ml xs :: l : Env')).bind g = g (.var 7, (s0 :: s1 :: s2 :: s3 :: s4 :: s5 :: s6 :: .ml xs :: l : Env')) := rfl
theorem rm7 {s0 s1 s2 s3 s4 s5 s6 : Slot} {xs : List AV} {l : Env'} : rs (.var 7) (s0 :: s1 :: s2 :: s3 :: s4 :: s5 :: s6 :: .ml xs :: l : Env') = some (.lst xs) := rfl
theorem qm7 {γ : Type} {s0 s1 s2 s3 s4 s5 s6 : Slot} {xs : List AV} {l : Env'} {g : AV → T γ} : (lift (rs (.var 7) (s0 :: s1 :: s2 :: s3 :: s4 :: s5 :: s6 :: .ml xs :: l : Env'))).bind g = g (.lst xs) := rfl
theorem zm7 {γ : Type} {s0 s1 s2 s3 s4 s5 s6 : Slot} {xs : List AV} {l : Env'} {g : AV × Env' → T γ} : (frz (.var 7, (s0 :: s1 :: s2 :: s3 :: s4 :: s5 :: s6 :: .ml xs :: l : Env'))).bind g = g (.lst xs, (s0 :: s1 :: s2 :: s3 :: s4 :: s5 :: s6 :: .fro (.lst xs) :: l)) := rfl
theorem im7 {γ : Type} {s0 s1 s2 s3 s4 s5 s6 : Slot} {xs : List AV} {l : Env'} {g : List AV → T γ} : (lift (isMl (s0 :: s1 :: s2 :: s3 :: s4 :: s5 :: s6 :: .ml xs :: l : Env') 7)).bind g = g xs := rfl
theorem vf8 {γ : Type} {s0 s1 s2 s3 s4 s5 s6 s7 : Slot} {t : AV} {l : Env'} {g : Hd × Env' → T γ} : (fVar 8 (s0 :: s1 :: s2 :: s3 :: s4 :: s5 :: s6 :: s7 :: .fro t :: l : Env')).bind g = g (.var 8, (s0 :: s1 :: s2 :: s3 :: s4 :: s5 :: s6 :: s7 :: .fro t :: l : Env')) := rfl
theorem rf8 {s0 s1 s2 s3 s4 s5 s6 s7 : Slot} {t : AV} {l : Env'} : rs (.var 8) (s0 :: s1 :: s2 :: s3 :: s4 :: s5 :: s6 :: s7 :: .fro t :: l : Env') = some t := rfl
theorem qf8 {γ : Type} {s0 s1 s2 s3 s4 s5 s6 s7 : Slot} {t : AV} {l : Env'} {g : AV → T γ} : (lift (rs (.var 8) (s0 :: s1 :: s2 :: s3 :: s4 :: s5 :: s6 :: s7 :: .fro t :: l : Env'))).bind g = g t := rfl
theorem zf8 {γ : Type} {s0 s1 s2 s3 s4 s5 s6 s7 : Slot} {t : AV} {l : Env'} {g : AV × Env' → T γ} : (frz (.var 8, (s0 :: s1 :: s2 :: s3 :: s4 :: s5 :: s6 :: s7 :: .fro t :: l : Env'))).bind g = g (t, (s0 :: s1 :: s2 :: s3 :: s4 :: s5 :: s6 :: s7 :: .fro t :: l : Env')) := rfl
theorem vm8 {γ : Type} {s0 s1 s2 s3 s4 s5 s6 s7 : Slot} {xs : List AV} {l : Env'} {g : Hd × Env' → T γ} : (fVar 8 (s0 :: s1 :: s2 :: s3 :: s4 :: s5 :: s6 :: s7 :: .ml xs :: l : Env')).bind g = g (.var 8, (s0 :: s1 :: s2 :: s3 :: s4 :: s5 :: s6 :: s7 :: .ml xs :: l : Env')) := rfl
theorem rm8 {s0 s1 s2 s3 s4 s5 s6 s7 : Slot} {xs : List AV} {l : Env'} : rs (.var 8) (s0 :: s1 :: s2 :: s3 :: s4 :: s5 :: s6 :: s7 :: .ml xs :: l : Env') = some (.lst xs) := rfl
theorem qm8 {γ : Type} {s0 s1 s2 s3 s4 s5 s6 s7 : Slot} {xs : List AV} {l : Env'} {g : AV → T γ} : (lift (rs (.var 8) (s0 :: s1 :: s2 :: s3 :: s4 :: s5 :: s6 :: s7 :: .ml xs :: l : Env'))).bind g = g (.lst xs) := rfl
theorem zm8 {γ : Type} {s0 s1 s2 s3 s4 s5 s6 s7 : Slot} {xs : List AV} {l : Env'} {g : AV × Env' → T γ} : (frz (.var 8, (s0 :: s1 :: s2 :: s3 :: s4 :: s5 :: s6 :: s7 :: .ml xs :: l : Env'))).bind g = g (.lst xs, (s0 :: s1 :: s2 :: s3 :: s4 :: s5 :: s6 :: s7 :: .fro (.lst xs) :: l)) := rfl
theorem im8 {γ : Type} {s0 s1 s2 s3 s4 s5 s6 s7 : Slot} {xs : List AV} {l : Env'} {g : List AV → T γ} : (lift (isMl (s0 :: s1 :: s2 :: s3 :: s4 :: s5 :: s6 :: s7 :: .ml xs :: l : Env') 8)).bind g = g xs := rfl
theorem vf9 {γ : Type} {s0 s1 s2 s3 s4 s5 s6 s7 s8 : Slot} {t : AV} {l : Env'} {g : Hd × Env' → T γ} : (fVar 9 (s0 :: s1 :: s2 :: s3 :: s4 :: s5 :: s6 :: s7 :: s8 :: .fro t :: l : Env')).bind g = g (.var 9, (s0 :: s1 :: s2 :: s3 :: s4 :: s5 :: s6 :: s7 :: s8 :: .fro t :: l : Env')) := rfl
theorem rf9 {s0 s1 s2 s3 s4 s5 s6 s7 s8 : Slot} {t : AV} {l : Env'} : rs (.var 9) (s0 :: s1 :: s2 :: s3 :: s4 :: s5 :: s6 :: s7 :: s8 :: .fro t :: l : Env') = some t := rfl
theorem qf9 {γ : Type} {s0 s1 s2 s3 s4 s5 s6 s7 s8 : Slot} {t : AV} {l : Env'} {g : AV → T γ} : (lift (rs (.var 9) (s0 :: s1 :: s2 :: s3 :: s4 :: s5 :: s6 :: s7 :: s8 :: .fro t :: l : Env'))).bind g = g t := rfl
theorem zf9 {γ : Type} {s0 s1 s2 s3 s4 s5 s6 s7 s8 : Slot} {t : AV} {l : Env'} {g : AV × Env' → T γ} : (frz (.var 9, (s0 :: s1 :: s2 :: s3 :: s4 :: s5 :: s6 :: s7 :: s8 :: .fro t :: l : Env'))).bind g = g (t, (s0 :: s1 :: s2 :: s3 :: s4 :: s5 :: s6 :: s7 :: s8 :: .fro t :: l : Env')) := rfl
theorem vm9 {γ : Type} {s0 s1 s2 s3 s4 s5 s6 s7 s8 : Slot} {xs : List AV} {l : Env'} {g : Hd × Env' → T γ} : (fVar 9 (s0 :: s1 :: s2 :: s3 :: s4 :: s5 :: s6 :: s7 :: s8 :: .ml xs :: l : Env')).bind g = g (.var 9, (s0 :: s1 :: s2 :: s3 :: s4 :: s5 :: s6 :: s7 :: s8 :: .ml xs :: l : Env')) := rfl
theorem rm9 {s0 s1 s2 s3 s4 s5 s6 s7 s8 : Slot} {xs : List AV} {l : Env'} : rs (.var 9) (s0 :: s1 :: s2 :: s3 :: s4 :: s5 :: s6 :: s7 :: s8 :: .ml xs :: l : Env') = some (.lst xs) := rfl
theorem qm9 {γ : Type} {s0 s1 s2 s3 s4 s5 s6 s7 s8 : Slot} {xs : List AV} {l : Env'} {g : AV → T γ} : (lift (rs (.var 9) (s0 :: s1 :: s2 :: s3 :: s4 :: s5 :: s6 :: s7 :: s8 :: .ml xs :: l : Env'))).bind g = g (.lst xs) := rfl
theorem zm9 {γ : Type} {s0 s1 s2 s3 s4 s5 s6 s7 s8 : Slot} {xs : List AV} {l : Env'} {g : AV × Env' → T γ} : (frz (.var 9, (s0 :: s1 :: s2 :: s3 :: s4 :: s5 :: s6 :: s7 :: s8 :: .ml xs :: l : Env'))).bind g = g (.lst xs, (s0 :: s1 :: s2 :: s3 :: s4 :: s5 :: s6 :: s7 :: s8 :: .fro (.lst xs) :: l)) := rfl
theorem im9 {γ : Type} {s0 s1 s2 s3 s4 s5 s6 s7 s8 : Slot} {xs : List AV} {l : Env'} {g : List AV → T γ} : (lift (isMl (s0 :: s1 :: s2 :: s3 :: s4 :: s5 :: s6 :: s7 :: s8 :: .ml xs :: l : Env') 9)).bind g = g xs := rfl
theorem vf10 {γ : Type} {s0 s1 s2 s3 s4 s5 s6 s7 s8 s9 : Slot} {t : AV} {l : Env'} {g : Hd × Env' → T γ} : (fVar 10 (s0 :: s1 :: s2 :: s3 :: s4 :: s5 :: s6 :: s7 :: s8 :: s9 :: .fro t :: l : Env')).bind g = g (.var 10, (s0 :: s1 :: s2 :: s3 :: s4 :: s5 :: s6 :: s7 :: s8 :: s9 :: .fro t :: l : Env')) := rfl
theorem rf10 {s0 s1 s2 s3 s4 s5 s6 s7 s8 s9 : Slot} {t : AV} {l : Env'} : rs (.var 10) (s0 :: s1 :: s2 :: s3 :: s4 :: s5 :: s6 :: s7 :: s8 :: s9 :: .fro t :: l : Env') = some t := rfl
theorem qf10 {γ : Type} {s0 s1 s2 s3 s4 s5 s6 s7 s8 s9 : Slot} {t : AV} {l : Env'} {g : AV → T γ} : (lift (rs (.var 10) (s0 :: s1 :: s2 :: s3 :: s4 :: s5 :: s6 :: s7 :: s8 :: s9 :: .fro t :: l : Env'))).bind g = g t := rfl
theorem zf10 {γ : Type} {s0 s1 s2 s3 s4 s5 s6 s7 s8 s9 : Slot} {t : AV} {l : Env'} {g : AV × Env' → T γ} : (frz (.var 10, (s0 :: s1 :: s2 :: s3 :: s4 :: s5 :: s6 :: s7 :: s8 :: s9 :: .fro t :: l : Env'))).bind g = g (t, (s0 :: s1 :: s2 :: s3 :: s4 :: s5 :: s6 :: s7 :: s8 :: s9 :: .fro t :: l : Env')) := rfl
theorem vm10 {γ : Type} {s0 s1 s2 s3 s4 s5 s6 s7 s8 s9 : Slot} {xs : List AV} {l : Env'} {g : Hd × Env' → T γ} : (fVar 10 (s0 :: s1 :: s2 :: s3 :: s4 :: s5 :: s6 :: s7 :: s8 :: s9 :: .ml xs :: l : Env')).bind g = g (.var 10, (s0 :: s1 :: s2 :: s3 :: s4 :: s5 :: s6 :: s7 :: s8 :: s9 :: .ml xs :: l : Env')) := rfl
theorem rm10 {s0 s1 s2 s3 s4 s5 s6 s7 s8 s9 : Slot} {xs : List AV} {l : Env'} : rs (.var 10) (s0 :: s1 :: s2 :: s3 :: s4 :: s5 :: s6 :: s7 :: s8 :: s9 :: .ml xs :: l : Env') = some (.lst xs) := rfl
theorem qm10 {γ : Type} {s0 s1 s2 s3 s4 s5 s6 s7 s8 s9 : Slot} {xs : List AV} {l : Env'} {g : AV → T γ} : (lift (rs (.var 10) (s0 :: s1 :: s2 :: s3 :: s4 :: s5 :: s6 :: s7 :: s8 :: s9 :: .ml xs :: l : Env'))).bind g = g (.lst xs) := rfl
theorem zm10 {γ : Type} {s0 s1 s2 s3 s4 s5 s6 s7 s8 s9 : Slot} {xs : List AV} {l : Env'} {g : AV × Env' → T γ} : (frz (.var 10, (s0 :: s1 :: s2 :: s3 :: s4 :: s5 :: s6 :: s7 :: s8 :: s9 :: .ml xs :: l : Env'))).bind g = g (.lst xs, (s0 :: s1 :: s2 :: s3 :: s4 :: s5 :: s6 :: s7 :: s8 :: s9 :: .fro (.lst xs) :: l)) := rfl
theorem im10 {γ : Type} {s0 s1 s2 s3 s4 s5 s6 s7 s8 s9 : Slot} {xs : List AV} {l : Env'} {g : List AV → T γ} : (lift (isMl (s0 :: s1 :: s2 :: s3 :: s4 :: s5 :: s6 :: s7 :: s8 :: s9 :: .ml xs :: l : Env') 10)).bind g = g xs := rfl
theorem ss0 {s0 x : Slot} {l : Env'} : (s0 :: l : Env').set 0 x = x :: l := rfl
theorem ss1 {s0 s1 x : Slot} {l : Env'} : (s0 :: s1 :: l : Env').set 1 x = s0 :: x :: l := rfl
theorem ss2 {s0 s1 s2 x : Slot} {l : Env'} : (s0 :: s1 :: s2 :: l : Env').set 2 x = s0 :: s1 :: x :: l := rfl
theorem ss3 {s0 s1 s2 s3 x : Slot} {l : Env'} : (s0 :: s1 :: s2 :: s3 :: l : Env').set 3 x = s0 :: s1 :: s2 :: x :: l := rfl
theorem ss4 {s0 s1 s2 s3 s4 x : Slot} {l : Env'} : (s0 :: s1 :: s2 :: s3 :: s4 :: l : Env').set 4 x = s0 :: s1 :: s2 :: s3 :: x :: l := rfl
theorem ss5 {s0 s1 s2 s3 s4 s5 x : Slot} {l : Env'} : (s0 :: s1 :: s2 :: s3 :: s4 :: s5 :: l : Env').set 5 x = s0 :: s1 :: s2 :: s3 :: s4 :: x :: l := rfl
theorem ss6 {s0 s1 s2 s3 s4 s5 s6 x : Slot} {l : Env'} : (s0 :: s1 :: s2 :: s3 :: s4 :: s5 :: s6 :: l : Env').set 6 x = s0 :: s1 :: s2 :: s3 :: s4 :: s5 :: x :: l := rfl
theorem ss7 {s0 s1 s2 s3 s4 s5 s6 s7 x : Slot} {l : Env'} : (s0 :: s1 :: s2 :: s3 :: s4 :: s5 :: s6 :: s7 :: l : Env').set 7 x = s0 :: s1 :: s2 :: s3 :: s4 :: s5 :: s6 :: x :: l := rfl
theorem ss8 {s0 s1 s2 s3 s4 s5 s6 s7 s8 x : Slot} {l : Env'} : (s0 :: s1 :: s2 :: s3 :: s4 :: s5 :: s6 :: s7 :: s8 :: l : Env').set 8 x = s0 :: s1 :: s2 :: s3 :: s4 :: s5 :: s6 :: s7 :: x :: l := rfl
theorem ss9 {s0 s1 s2 s3 s4 s5 s6 s7 s8 s9 x : Slot} {l : Env'} : (s0 :: s1 :: s2 :: s3 :: s4 :: s5 :: s6 :: s7 :: s8 :: s9 :: l : Env').set 9 x = s0 :: s1 :: s2 :: s3 :: s4 :: s5 :: s6 :: s7 :: s8 :: x :: l := rfl
theorem ss10 {s0 s1 s2 s3 s4 s5 s6 s7 s8 s9 s10 x : Slot} {l : Env'} : (s0 :: s1 :: s2 :: s3 :: s4 :: s5 :: s6 :: s7 :: s8 :: s9 :: s10 :: l : Env').set 10 x = s0 :: s1 :: s2 :: s3 :: s4 :: s5 :: s6 :: s7 :: s8 :: s9 :: x :: l := rfl
end Dn
set_option Elab.async false
set_option linter.all false
set_option maxRecDepth 100000
set_option maxHeartbeats 0
namespace Dn
open PySem PySem.Spec PyProof.Rows L2
def rsz (i j c : Int) : Nat := (Builtin.Range.rangeSize i j c).toNat
def rangeC (lo c : Int) (n : Nat) : List AV := (List.range n).map fun i : Nat => AV.int (lo + (i : Int) * c)
def stepOk (i j c : Int) : Bool := below i 62 && (below j 62 && (decide (0 < c ∧ c < 1000) || decide (c = -1)))
def iRange3 (f k l : Sem) : SemI := fun ρ => (f ρ).bind fun p => (k p.2).bind fun q => (l q.2).bind fun r => (lift (rs p.1 r.2)).bind fun a => (lift (intOf a)).bind fun i => (lift (rs q.1 r.2)).bind fun b => (lift (intOf b)).bind fun j => (lift (rs r.1 r.2)).bind fun c => (lift (intOf c)).bind fun s => if stepOk i j s = true then .ret (rangeC i s (rsz i j s), r.2) else .bad
section
variable {X : Cx} {ct : CT} {β : BInv} {Ex : XK} {a b c tg : Expr} {f k l : Sem} {p pos : Pos}
end
theorem imd0 {γ : Type} {kvs : List (AV × AV)} {l : Env'} {g : List (AV × AV) → T γ} : (lift (isMd (.md true kvs :: l : Env') 0)).bind g = g kvs := rfl
theorem imd1 {γ : Type} {s0 : Slot} {kvs : List (AV × AV)} {l : Env'} {g : List (AV × AV) → T γ} : (lift (isMd (s0 :: .md true kvs :: l : Env') 1)).bind g = g kvs := rfl
theorem imd2 {γ : Type} {s0 s1 : Slot} {kvs : List (AV × AV)} {l : Env'} {g : List (AV × AV) → T γ} : (lift (isMd (s0 :: s1 :: .md true kvs :: l : Env') 2)).bind g = g kvs := rfl
theorem imd3 {γ : Type} {s0 s1 s2 : Slot} {kvs : List (AV × AV)} {l : Env'} {g : List (AV × AV) → T γ} : (lift (isMd (s0 :: s1 :: s2 :: .md true kvs :: l : Env') 3)).bind g = g kvs := rfl
theorem imd4 {γ : Type} {s0 s1 s2 s3 : Slot} {kvs : List (AV × AV)} {l : Env'} {g : List (AV × AV) → T γ} : (lift (isMd (s0 :: s1 :: s2 :: s3 :: .md true kvs :: l : Env') 4)).bind g = g kvs := rfl
theorem imd5 {γ : Type} {s0 s1 s2 s3 s4 : Slot} {kvs : List (AV × AV)} {l : Env'} {g : List (AV × AV) → T γ} : (lift (isMd (s0 :: s1 :: s2 :: s3 :: s4 :: .md true kvs :: l : Env') 5)).bind g = g kvs := rfl
theorem imd6 {γ : Type} {s0 s1 s2 s3 s4 s5 : Slot} {kvs : List (AV × AV)} {l : Env'} {g : List (AV × AV) → T γ} : (lift (isMd (s0 :: s1 :: s2 :: s3 :: s4 :: s5 :: .md true kvs :: l : Env') 6)).bind g = g kvs := rfl
theorem imd7 {γ : Type} {s0 s1 s2 s3 s4 s5 s6 : Slot} {kvs : List (AV × AV)} {l : Env'} {g : List (AV × AV) → T γ} : (lift (isMd (s0 :: s1 :: s2 :: s3 :: s4 :: s5 :: s6 :: .md true kvs :: l : Env') 7)).bind g = g kvs := rfl
theorem imd8 {γ : Type} {s0 s1 s2 s3 s4 s5 s6 s7 : Slot} {kvs : List (AV × AV)} {l : Env'} {g : List (AV × AV) → T γ} : (lift (isMd (s0 :: s1 :: s2 :: s3 :: s4 :: s5 :: s6 :: s7 :: .md true kvs :: l : Env') 8)).bind g = g kvs := rfl
theorem imd9 {γ : Type} {s0 s1 s2 s3 s4 s5 s6 s7 s8 : Slot} {kvs : List (AV × AV)} {l : Env'} {g : List (AV × AV) → T γ} : (lift (isMd (s0 :: s1 :: s2 :: s3 :: s4 :: s5 :: s6 :: s7 :: s8 :: .md true kvs :: l : Env') 9)).bind g = g kvs := rfl
theorem imd10 {γ : Type} {s0 s1 s2 s3 s4 s5 s6 s7 s8 s9 : Slot} {kvs : List (AV × AV)} {l : Env'} {g : List (AV × AV) → T γ} : (lift (isMd (s0 :: s1 :: s2 :: s3 :: s4 :: s5 :: s6 :: s7 :: s8 :: s9 :: .md true kvs :: l : Env') 10)).bind g = g kvs := rfl
theorem keyOf1_i {i : Int} : keyOf1 (.int i) = some (.inl i) := rfl
theorem keyOf1_ib {γ : Type} {i : Int} {g : Key → T γ} : (lift (keyOf1 (.int i))).bind g = g (.inl i) := rfl
theorem cut_from {xs : List AV} {f : Nat} (h : f ≤ xs.length) : cutA xs (some (f : Int)) none = xs.drop f := by
  unfold cutA HT.sIx
  dsimp only
  rw [if_neg (by omega), Int.toNat_natCast, Nat.min_eq_left h, List.take_of_length_le (by rw [List.length_drop]; exact Nat.le_refl _)]
theorem cut_to {xs : List AV} {f : Nat} (h : f ≤ xs.length) : cutA xs none (some (f : Int)) = xs.take f := by
  unfold cutA HT.sIx
  dsimp only
  rw [if_neg (by omega), Int.toNat_natCast, Nat.min_eq_left h, List.drop_zero, Nat.sub_zero]
end Dn
set_option Elab.async false
set_option linter.all false
set_option maxRecDepth 100000
namespace Dn
open PySem PySem.Spec PyProof.Rows L2
end Dn
set_option Elab.async false
set_option linter.all false
set_option maxRecDepth 100000
namespace Dn
open PySem PySem.Spec PyProof.Rows L2
open PySem.W PySem.SeqAt
def rMinP (K : PySem.W.Frag) : List V → Hp → VK → Prop := fun xs H Q => ∃ (a : Addr) (vs : List V) (d : PyData) (ds : List PyData), xs = [.ref a] ∧ SqL K H a vs ∧ DpAll K H vs (d :: ds) ∧ AlikeAll (d :: ds) ∧ PyData.depthAll (d :: ds) ≤ 60 ∧ ∀ (i : Nat) (v : V), vs[i]? = some v → (d :: ds)[i]? = some (minD d ds) → Q v H
abbrev Pr := Int × Int
def pairA (p : Pr) : AV := .tup [.int p.1, .int p.2]
def pairD (p : Pr) : PyData := .tuple [.int p.1, .int p.2]
def pairOf : AV → Option Pr
  | .tup [.int a, .int b] => some (a, b)
  | _ => none
def pairsOf : List AV → Option (List Pr)
  | [] => some []
  | t :: ts => match pairOf t, pairsOf ts with
    | some p, some ps => some (p :: ps)
    | _, _ => none
def ltP (x y : Pr) : Bool := decide (x.1 < y.1) || (decide (x.1 = y.1) && decide (x.2 < y.2))
def minPr (p : Pr) (r : List Pr) : Pr := r.foldl (fun a y => if ltP y a then y else a) p
def pMinP (a : AV) : Option AV := match a with
  | .lst xs => match pairsOf xs with
    | some (p :: r) => some (pairA (minPr p r))
    | _ => none
  | _ => none
def tgLst (n : Nat) (k : List AV → Env' → T Env') : GSem := fun t ρ => match t with
  | .lst xs => if xs.length = n then k xs ρ else .bad
  | _ => .bad
end Dn
set_option Elab.async false
set_option linter.all false
set_option maxRecDepth 100000
set_option maxHeartbeats 0
namespace Dn
open PySem PySem.Spec PyProof.Rows L2
def CellsAt (H : Hp) (i : Addr) : Prop := ∃ ns : List Int, H i = some (.lst (ns.map V.int)) ∧ ns.length ≤ 1000 ∧ ∀ n ∈ ns, 0 ≤ n
def DealAt (B : Addr → Prop) (H : Hp) (a : Addr) : Prop := ∃ (i : Addr) (b : Int), H a = some (.lst [.ref i, .int b]) ∧ 0 ≤ b ∧ B i ∧ CellsAt H i
def BoxC : BInv where
  I := fun B D H => (∀ a, B a → ∃ vs, H a = some (.lst vs)) ∧ (∀ a, D a → B a) ∧ ∀ a, D a → DealAt B H a
  live := fun h b => by
    obtain ⟨vs, e⟩ := h.1 _ b
    rw [e]
    exact fun z => by cases z
  nt := fun h b ws z => by
    obtain ⟨vs, e⟩ := h.1 _ b
    rw [e] at z
    cases z
  top := fun h d => h.2.1 _ d
  frame := fun h k => ⟨fun a b => by rw [k a b]; exact h.1 a b, h.2.1, fun a d => by
    obtain ⟨i, b, e, b0, bi, ns, e2, nn⟩ := h.2.2 a d
    exact ⟨i, b, by rw [k a (h.2.1 a d)]; exact e, b0, bi, ns, by rw [k i bi]; exact e2, nn⟩⟩
def spDrawC : Sp := fun vs H Q _ => ∃ (D i : Addr) (b c : Int), vs = [.ref D, .int b] ∧ H D = some (.lst [.ref i, .int c]) ∧ 0 ≤ c ∧ CellsAt H i ∧ 1 ≤ b ∧ b < 2 ^ 64 ∧
  ∀ (r : Int) (H' : Hp), 0 ≤ r → r < b → (∀ a o, H a = some o → a ≠ D → a ≠ i → H' a = some o) → (∃ c', H' D = some (.lst [.ref i, .int c']) ∧ 0 ≤ c') → CellsAt H' i → Q (.int r) H'
def isNat : AV → Bool
  | .int i => decide (0 ≤ i)
  | _ => false
def isNatS : Option Slot → Bool
  | some (.fro (.int b)) => decide (0 ≤ b)
  | _ => false
def sRetDeal (i : Nat) (f : SemN) : SSem := fun ρ => (f ρ).bind fun p => if p.1.all isNat && (isNatS p.2[i]? && decide (p.1.length ≤ 1000)) then .ret (.rt .box) else .bad
section
variable {X : Cx} {ct : CT} {Ex : XK} {a : Expr} {f : SemN} {pos p p1 p2 p3 p4 p5 : Pos} {k : Nat} {x : Str}
end
end Dn
set_option Elab.async false
set_option linter.all false
set_option maxRecDepth 100000
set_option maxHeartbeats 0
namespace Dn
open PySem PySem.Spec PyProof.Rows L2
inductive Itm where
  | fr (t : AV) | nl (xs : List AV)
abbrev SemM := Env' → T (List Itm × Env')
def G.plusL (g : G) (N : List Addr) : G := { g with M := fun b => g.M b ∨ b ∈ N }
def G.less (g : G) (M : Addr → Prop) : G := { g with M := M }
def Mx (c0 : Gc) (A D : Addr → Prop) (H : Hp) : List Itm → List V → List Addr → Prop
  | [], vs, N => vs = [] ∧ N = []
  | .fr t :: r, vs, N => ∃ v vs', vs = v :: vs' ∧ Rep c0 A D H t v ∧ Mx c0 A D H r vs' N
  | .nl xs :: r, vs, N => ∃ a vs' N' ws, vs = .ref a :: vs' ∧ N = a :: N' ∧ H a = some (.lst ws) ∧ RepL c0 A D H xs ws ∧ Mx c0 A D H r vs' N'
def MixOk (c0 : Gc) (g : G) (H0 H : Hp) (items : List Itm) (vs : List V) (N : List Addr) : Prop := (∀ b ∈ N, H0 b = none ∧ ¬ g.Av b) ∧ N.Nodup ∧ Mx c0 (g.plusL N).Av g.D H items vs N
def rdM (c0 : Gc) (β : BInv) (Ex : XK) (m : SemM) : TA := fun σ H Q => ∃ g ρ, Rel c0 β g ρ σ H ∧ okT c0 β Ex g H (m ρ) fun g' H' p => ∀ vs N, MixOk c0 g' H H' p.1 vs N → Rel c0 β (g'.plusL N) p.2 σ H' → Q vs H'
def JM (X : Cx) (ct : CT) (β : BInv) (Ex : XK) (es : List Expr) (m : SemM) : Prop := PA X es (rdM (gc X ct) β Ex m)
def mNil : SemM := fun ρ => .ret ([], ρ)
def mF (f : Sem) (k : SemM) : SemM := fun ρ => (f ρ).bind fun p => (frz p).bind fun q => (k q.2).bind fun r => .ret (.fr q.1 :: r.1, r.2)
def mN (f : SemN) (k : SemM) : SemM := fun ρ => (f ρ).bind fun p => (k p.2).bind fun r => .ret (.nl p.1 :: r.1, r.2)
section
variable {c0 : Gc} {A A' D D' : Addr → Prop} {H H' : Hp}
theorem Mx.imp (hk : ∀ a o, H a = some o → ¬ A a → H' a = some o ∧ ¬ A' a) (hd : ∀ a, D a → D' a) : ∀ {items : List Itm} {vs : List V} {N : List Addr}, (∀ a ∈ N, ∀ o, H a = some o → H' a = some o) → Mx c0 A D H items vs N → Mx c0 A' D' H' items vs N
  | [], _, _, _, h => h
  | .fr _ :: _, _, _, hN, ⟨v, vs', e, r, q⟩ => ⟨v, vs', e, r.imp hk hd, Mx.imp hk hd hN q⟩
  | .nl _ :: _, _, _, hN, ⟨a, vs', N', ws, e, e2, ho, r, q⟩ => ⟨a, vs', N', ws, e, e2, hN a (by rw [e2]; exact List.mem_cons_self) _ ho, r.imp hk hd, Mx.imp hk hd (fun b hb => hN b (by rw [e2]; exact List.mem_cons_of_mem _ hb)) q⟩
end
section
variable {X : Cx} {ct : CT} {β : BInv} {Ex : XK} {a : Expr} {es : List Expr} {f : Sem} {fn : SemN} {k : SemM}
end
def setM : List Nat → List Itm → Env' → Option Env'
  | [], [], ρ => some ρ
  | i :: is, .fr t :: r, ρ => if i < ρ.length then setM is r (ρ.set i (.fro t)) else none
  | i :: is, .nl xs :: r, ρ => if i < ρ.length then setM is r (ρ.set i (.ml xs)) else none
  | _, _, _ => none
def setV : List Nat → List V → L2.St → L2.St
  | i :: is, v :: vs, σ => setV is vs (σ.set i (some v))
  | _, _, σ => σ
def sMix (is : List Nat) (m : SemM) : SSem := fun ρ => (m ρ).bind fun p => (lift (setM is p.1 p.2)).bind fun ρ' => .ret (.nx ρ')
section
variable {X : Cx} {ct : CT} {β : BInv} {Ex : XK} {a b c : Expr} {m : SemM} {pos px py pz pt pt2 : Pos} {kt k2 : Nat} {x y z : Str} {i j l : Nat}
end
end Dn
set_option Elab.async false
set_option linter.all false
set_option maxRecDepth 100000
set_option maxHeartbeats 0
namespace Dn
open PySem PySem.Spec PyProof.Rows L2
abbrev freshO (w : World) : Obj := { cls := .type "set", dict := none, data := .set #[] 0 (.fresh 0 0 (!w.params.followText "set-order")) }
section
variable {P : Program} {w : World} {A : Around} {E : Value → Shared → Prop} {s : Shared}
def MadeS (P : Program) (w : World) (s : Shared) (ks : List (Addr × List Int)) (r : Value) (s2 : Shared) : Prop :=
  r = .none ∧ ∃ h' tk L es ep t, s2 = { s with heap := h', toks := tk } ∧ SetTR P w h' s.heap.objs.size L es ep t ∧ Got ks ks.length L ∧ ∀ b o, s.heap.get? b = some o → h'.get? b = some o
end
end Dn
set_option Elab.async false
set_option linter.all false
set_option maxRecDepth 100000
set_option maxHeartbeats 0
namespace Dn
open PySem PySem.Spec PyProof.Rows L2
def rSetOfU (K : PySem.W.Frag) (P : Program) (w : World) : List V → Hp → VK → Prop := fun xs H Q => ∃ (l : Addr) (ks : List (Addr × List Int)), xs = [V.ref l] ∧ (SqL K H l (ks.map fun p => V.ref p.1) ∨ SqT K H l (ks.map fun p => V.ref p.1)) ∧ (∀ p ∈ ks, SqT K H p.1 (p.2.map V.int)) ∧ ks.length < 64 ∧
  ∀ a L, H a = none → (∀ p ∈ L, p ∈ ks) → (∀ p ∈ ks, p.2 ∈ L.map (·.2)) → Q (.ref a) (upd H a (SetTO P w a L))
def tupInts : AV → Option (List Int)
  | .tup xs => intsOf xs
  | _ => none
def tupsInts : List AV → Option (List (List Int))
  | [] => some []
  | x :: xs => (tupInts x).bind fun k => (tupsInts xs).map fun r => k :: r
def tupV (k : List Int) : AV := .tup (k.map AV.int)
abbrev BIG : Int := 18446744073709551616
def insT (x : List Int) : List (List Int) → List (List Int)
  | [] => [x]
  | y :: r => if x = y then y :: r else if TS.code BIG x < TS.code BIG y then x :: y :: r else y :: insT x r
def srtT : List (List Int) → List (List Int)
  | [] => []
  | x :: r => insT x (srtT r)
def sameLen (d : Nat) (ks : List (List Int)) : Bool := ks.all fun k => k.length == d && k.all fun m => decide (0 ≤ m ∧ m < BIG)
def pSortSet (a : AV) : Option AV := (seqOf a).bind fun xs => (tupsInts xs).bind fun ks => if ks.length < 64 ∧ (1 ≤ (ks.headD [0]).length ∧ sameLen (ks.headD [0]).length ks = true) then some (.lst ((srtT ks).map tupV)) else none
abbrev ltT (a b : List Int) : Prop := TS.code BIG a < TS.code BIG b
section
variable {X : Cx} {ct : CT} {β : BInv} {Ex : XK} {a : Expr} {f : Sem} {pos p pos2 p2 : Pos}
end
def pairInts : AV → Option (Int × Int)
  | .tup [.int i, .int j] => some (i, j)
  | _ => none
def pairsInts : List AV → Option (List (Int × Int))
  | [] => some []
  | x :: xs => (pairInts x).bind fun k => (pairsInts xs).map fun r => k :: r
def prV (p : Int × Int) : AV := .tup [.int p.1, .int p.2]
def insP (x : Int × Int) : List (Int × Int) → List (Int × Int)
  | [] => [x]
  | y :: r => if SrtO.lexB y x = false then x :: y :: r else y :: insP x r
def isortP : List (Int × Int) → List (Int × Int)
  | [] => []
  | x :: r => insP x (isortP r)
def lstOf1 : AV → Option (List AV)
  | .lst xs => some xs
  | _ => none
def pSortP (a : AV) : Option AV := (lstOf1 a).bind fun xs => (pairsInts xs).map fun ks => .lst ((isortP ks).map prV)
abbrev leP (a b : Int × Int) : Prop := a.1 < b.1 ∨ a.1 = b.1 ∧ a.2 ≤ b.2
end Dn
set_option Elab.async false
set_option linter.all false
set_option maxRecDepth 100000
set_option maxHeartbeats 0
namespace Dn
open PySem PySem.Spec PyProof.Rows L2
section
variable {P : Program} {w : World} {K : PySem.W.Frag} {mg : Str → Option Value} {base : Heap} {ct : CT} {β : BInv}
end
def fMakeD (fn : List AV → T AV) (dts : List AV) (k : SemL) : Sem := fun ρ => (k ρ).bind fun p => (fn (p.1 ++ dts)).bind fun t => .ret (.val t, p.2)
section
variable {X : Cx} {ct : CT} {β : BInv} {Ex : XK} {e : Expr} {es : List Expr} {m : SemL} {pos p : Pos} {x : Str} {lv n c : Nat} {ps : List Str} {fn : List AV → T AV}
structure CfD (P : Program) (w : World) (K : PySem.W.Frag) (mg : Str → Option Value) (base : Heap) (ct : CT) (β : BInv) (lv : Nat) (x : Str) (c n : Nat) (ps : List Str) (dts : List AV) (fn : List AV → T AV) : Prop where
  ex : ∃ C fa fd, Mk K C fa ∧ FnOk P w K mg base (L2.CX P w) lv fa fd ps (spI ⟨K, mg, ct⟩ β n c fn) ∧ mg x = some (.ref C) ∧ Binds K fd ps [] ∧ ∃ ds dvs, Binds K fd ps ds ∧ Vals dvs ds ∧ Deft ⟨K, mg, ct⟩ dts dvs
  nm : (ct c).1 = x
  len : ∀ ts : List AV, T.all (fun _ => True) (fun _ _ => True) (fn ts) → ts.length = n
end
end Dn
set_option Elab.async false
set_option linter.all false
set_option maxRecDepth 100000
set_option maxHeartbeats 0
namespace Dn
open PySem PySem.Spec PyProof.Rows L2
def dkey (k : Str) : List Str → List AV → Option AV
  | k' :: ks, x :: xs => if k' = k then some x else dkey k ks xs
  | _, _ => none
def pDkey (k : Str) : AV → Option AV
  | .dic ks xs => dkey k ks xs
  | _ => none
def fDic (ks : List Str) (k : SemL) : Sem := fun ρ => (k ρ).bind fun p => if p.1.length = ks.length then .ret (.val (.dic ks p.1), p.2) else .bad
section
variable {c0 : Gc} {A D : Addr → Prop} {H : Hp}
end
section
variable {X : Cx} {ct : CT} {β : BInv} {Ex : XK} {a : Expr} {f : Sem} {m : SemL} {pos p : Pos} {k : Str} {kk : Nat}
structure JP (X : Cx) (ct : CT) (β : BInv) (Ex : XK) (pos : Pos) (ks : List Str) (keys : List (Option Expr)) (values : List Expr) (m : SemL) : Prop where
  ex : ∃ trs, PPs X pos keys values trs ∧ ∀ σ H (Q : List V → Hp → Prop) (Q2 : List (V × V) → Hp → Prop), rdL (gc X ct) β Ex m σ H Q → (∀ vs H', vs.length = ks.length → Q vs H' → Q2 ((ks.zip vs).map fun kv => (V.str kv.1, kv.2)) H') → tPairs trs σ H Q2
  al : keys.all (·.isSome) = true
  l1 : keys.length = values.length
  l2 : keys.length = ks.length
end
end Dn
set_option Elab.async false
set_option linter.all false
set_option maxRecDepth 100000
set_option maxHeartbeats 0
namespace Dn
open PySem PySem.Spec PyProof.Rows L2
end Dn
set_option Elab.async false
set_option linter.all false
set_option maxRecDepth 100000
set_option maxHeartbeats 0
namespace Dn
open PySem PySem.Spec PyProof.Rows L2
def Sz (s : Str) (n : Nat) : Prop := PyData.strOk s = true ∧ s.length ≤ n
def plainD (b : Nat) : Nat → AV → Bool
  | _, .non => true
  | _, .bl _ => true
  | _, .int i => decide (0 ≤ i ∧ i < 100000000000000000000)
  | n + 1, .tup xs => decide (xs.length ≤ b) && xs.all (plainD b n)
  | _, _ => false
def lenD (b : Nat) : Nat → Nat
  | 0 => 20
  | n + 1 => 23 + b * (lenD b n + 2)
end Dn
set_option Elab.async false
set_option linter.all false
set_option maxRecDepth 100000
set_option maxHeartbeats 0
namespace Dn
open PySem PySem.Spec PyProof.Rows L2
def fSelf (j c i : Nat) : Sem := fun ρ => match ρ[j]? with
  | some (.slf c' fs) => if c' = c then (lift fs[i]?).bind fun z => .ret (.val z, ρ) else .bad
  | _ => .bad
section
variable {X : Cx} {ct : CT} {β : BInv} {Ex : XK} {pos p : Pos} {x n : Str}
end
end Dn
set_option Elab.async false
set_option linter.all false
set_option maxRecDepth 100000
namespace Dn
open PySem PySem.Spec PyProof.Rows L2
open PySem.W PySem.SeqAt
def rAllD (K : PySem.W.Frag) : List V → Hp → VK → Prop := fun xs H Q => ∃ (a : Addr) (vs : List V) (ds : List PyData), xs = [.ref a] ∧ SqL K H a vs ∧ DpAll K H vs ds ∧ PyData.plainAll ds = true ∧ (∀ x ∈ ds, x.fits63) ∧ Q (.bl (ds.all PyData.truthy)) H
def truA : AV → Bool
  | .bl b => b
  | .int i => i != 0
  | .lst xs => !xs.isEmpty
  | .tup xs => !xs.isEmpty
  | _ => false
def fitA : AV → Bool
  | .lst xs => decide (xs.length < 9223372036854775808)
  | .tup xs => decide (xs.length < 9223372036854775808)
  | .str _ => false
  | _ => true
def pAllD (a : AV) : Option AV := match a with
  | .lst xs => if xs.all (dat 8) && xs.all fitA then some (.bl (xs.all truA)) else none
  | _ => none
mutual
theorem plain_dat : ∀ (n : Nat) (a : AV), dat n a = true → (toD n a).plain = true
  | n, .non, _ => by cases n <;> rfl
  | n, .bl b, _ => by cases n <;> rfl
  | n, .int i, _ => by cases n <;> rfl
  | n, .str s, _ => by cases n <;> rfl
  | n + 1, .tup xs, h => plain_dats n xs h
  | n + 1, .lst xs, h => plain_dats n xs h
  | 0, .tup _, h => by cases h
  | 0, .lst _, h => by cases h
  | n, .ins _ _, h => by cases n <;> cases h
  | n, .dic _ _, h => by cases n <;> cases h
  | n, .box, h => by cases n <;> cases h
  | n, .scr _, h => by cases n <;> cases h
  | n, .any, h => by cases n <;> cases h
theorem plain_dats : ∀ (n : Nat) (xs : List AV), xs.all (dat n) = true → PyData.plainAll (xs.map (toD n)) = true
  | _, [], _ => rfl
  | n, x :: xs, h => by
    rw [List.all_cons, Bool.and_eq_true] at h
    show ((toD n x).plain && PyData.plainAll (xs.map (toD n))) = true
    rw [plain_dat n x h.1, plain_dats n xs h.2]
    rfl
end
end Dn
set_option Elab.async false
set_option linter.all false
set_option maxRecDepth 100000
namespace Dn
open PySem PySem.Spec PyProof.Rows L2
section
variable {X : Cx} {ct : CT} {β : BInv} {Ex : XK} {a : Expr} {f : Sem} {p p2 q pos : Pos}
def distN (ns : List Int) : Nat := (firstMet (fun i => ns.getD i 0) ns.length).length
def pLenSetG (a : AV) : Option AV := match a with
  | .lst xs => (intsOf xs).bind fun ns => if ns.length ≤ 1000 then some (.int (distN ns : Nat)) else none
  | _ => none
def tLenSetG (K : PySem.W.Frag) (ta : TE) : TE := fun σ H Q => ta σ H fun x H1 => ∃ (l : Addr) (ns : List Int), x = .ref l ∧ SqL K H1 l (ns.map V.int) ∧ ns.length ≤ 1000 ∧ Q (.int (distN ns : Nat)) H1
theorem distN_le (ns : List Int) : distN ns ≤ ns.length := firstMet_length_le _ _
theorem pe_lenSetG {q : Pos} {ta : TE} (hg : Gl X "len") (hm : X.mg "len" = none) (hg2 : Gl X "set") (hm2 : X.mg "set" = none) (ha : PE X a ta) (hc : X.calm = true := by rfl) (na : starEach [a] X.env = (false, eval a X.env) :: starEach [] X.env := by rfl) :
    PE X (.Call (.Name "len" p) [.Call (.Name "set" p2) [a] [] q] [] pos) (tLenSetG X.K ta) := by
  constructor
  intro pins s σ H Q I h
  apply Call_ (ld_blt I hg hm boot_len ?_)
  apply PyProof.Rows.callWith_builtin1 (PyProof.Rows.args_cons ?_ rfl) rfl rfl
  apply Call_ (ld_blt I hg2 hm2 boot_set ?_)
  apply PyProof.Rows.callWith_type1 (PyProof.Rows.args_cons (thn (ha.run pins s σ H _ I h) ?_) na) na rfl
  rintro v s1 ⟨x, H1, I1, r1, l, ns, rfl, hq, hl, q1⟩
  apply PyProof.Rows.args_nil
  cases r1
  have hb : ns.length + 1 < scanBound := by
    unfold scanBound
    omega
  obtain ⟨its, rv, pl, hz⟩ := I1.list hq
  have hlen : its.toArray.size = ns.length := by rw [List.size_toArray, ← rv.length, List.length_map]
  refine call_set_list (I1.ok.hd hc) pl.isList (ints_of_vals rv) (by rw [hlen]; exact hb) fun h' tk hS hk => ?_
  apply PyProof.Rows.args_nil
  rw [hlen] at hS
  have dl := distN_le ns
  obtain ⟨ob, es, ep, tz, g1, g2, g3, _, _, _, g7, g8⟩ := hS
  have J2 : L2.Inv X pins σ H1 { s1 with heap := h', toks := tk } := I1.kept fun b u w => hk b u (Heap.lt_size w) w
  have g8' : es.size = distN ns := g8
  exact call_len_set g1 g2 g3 g7 (by omega) ⟨V.int (distN ns : Nat), H1, J2.tok _, ⟨_, by rw [g8']⟩, q1⟩
theorem j_lenSetG {q : Pos} (hg : Gl X "len") (hm : X.mg "len" = none) (hg2 : Gl X "set") (hm2 : X.mg "set" = none) (ha : JE X ct β Ex a f) (hc : X.calm = true := by rfl) (na : starEach [a] X.env = (false, eval a X.env) :: starEach [] X.env := by rfl) :
    JE X ct β Ex (.Call (.Name "len" p) [.Call (.Name "set" p2) [a] [] q] [] pos) (fUn pLenSetG f) := by
  refine PE.imp (pe_lenSetG hg hm hg2 hm2 ha hc na) fun σ H Q h => ?_
  refine fUn_ok' (r := fun x H Q => ∃ (l : Addr) (ns : List Int), x = .ref l ∧ SqL X.K H l (ns.map V.int) ∧ ns.length ≤ 1000 ∧ Q (.int (distN ns : Nat)) H) (fun g H a z x Q _ ra e q => ?_) h
  cases a with
  | lst xs =>
    cases e2 : intsOf xs with
    | none => simp [pLenSetG, e2] at e
    | some ns =>
      by_cases hl : ns.length ≤ 1000
      · simp [pLenSetG, e2, hl] at e
        subst e
        rw [intsOf_eq e2] at ra
        obtain ⟨l, vs, rfl, h1, r⟩ := ra.lst
        rw [reps_ints r] at h1
        exact ⟨l, ns, rfl, h1, hl, q _ H (Same.refl H) rep_int⟩
      · simp [pLenSetG, e2, hl] at e
  | _ => cases e
end
end Dn
set_option Elab.async false
set_option linter.all false
set_option maxRecDepth 100000
namespace Dn
open PySem PySem.Spec PyProof.Rows L2
open PySem.W PySem.SeqAt
def maxOr (d : Int) : List Int → Int
  | [] => d
  | x :: r => maxL x r
def rMaxD (K : PySem.W.Frag) : List V → List V → Hp → VK → Prop := fun xs zs H Q => ∃ (a : Addr) (ns : List Int) (d : Int), xs = [.ref a] ∧ zs = [.int d] ∧ SqL K H a (ns.map V.int) ∧ Q (.int (maxOr d ns)) H
def pMaxD (d : Int) (a : AV) : Option AV := match a with
  | .lst xs => (intsOf xs).map fun ns => .int (maxOr d ns)
  | _ => none
section
variable {X : Cx} {ct : CT} {β : BInv} {Ex : XK} {a : Expr} {f : Sem} {p p2 kp pos : Pos} {d : Int} {kk : Nat}
end
end Dn
set_option Elab.async false
set_option linter.all false
set_option maxRecDepth 100000
namespace Dn
open PySem PySem.Spec PyProof.Rows L2
def addI : Int → Int → Int := fun i j => i + j
def subI : Int → Int → Int := fun i j => i - j
def fInt (ρ : Env') (i : Nat) : Option Int := match ρ[i]? with
  | some (.fro (.int a)) => some a
  | _ => none
def sAugI (op : Int → Int → Int) (i : Nat) (f : Sem) : SSem := fun ρ => (lift (fInt ρ i)).bind fun a => (f ρ).bind fun p => (lift (rs p.1 p.2)).bind fun b => (lift (intOf b)).bind fun j => .ret (.nx (p.2.set i (.fro (.int (op a j)))))
section
variable {X : Cx} {ct : CT} {β : BInv} {Ex : XK} {a : Expr} {f : Sem} {pos p : Pos} {x : Str}
end
end Dn
set_option Elab.async false
set_option linter.all false
set_option maxRecDepth 100000
namespace Dn
open PySem PySem.Spec PyProof.Rows L2
def sSetIx (j : Nat) (fi fv : Sem) : SSem := fun ρ => (fv ρ).bind fun p => (frz p).bind fun q => (lift (isMl q.2 j)).bind fun _ => (fi q.2).bind fun r => (lift (rs r.1 r.2)).bind fun a => (lift (intOf a)).bind fun k => (lift (isMl r.2 j)).bind fun xs => (lift (ixN xs.length k)).bind fun n => .ret (.nx (r.2.set j (.ml (xs.set n q.1))))
section
variable {X : Cx} {ct : CT} {β : BInv} {Ex : XK} {a e : Expr} {fi fv : Sem} {pos p p2 : Pos} {x : Str}
end
end Dn
set_option Elab.async false
set_option linter.all false
set_option maxRecDepth 100000
namespace Dn
open PySem PySem.Spec PyProof.Rows L2
def nRep (fa : SemN) (fb : Sem) : SemN := fun ρ => (fa ρ).bind fun p => (fb p.2).bind fun q => (lift (rs q.1 q.2)).bind fun b => (lift (intOf b)).bind fun k => if (below k 62 = true ∧ p.1.length * k.toNat ≤ big) then .ret ((List.replicate k.toNat p.1).flatten, q.2) else .bad
section
variable {X : Cx} {ct : CT} {β : BInv} {Ex : XK} {a b : Expr} {fa : SemN} {fb : Sem} {pos : Pos}
end
end Dn
set_option Elab.async false
set_option linter.all false
set_option maxRecDepth 100000
namespace Dn
open PySem PySem.Spec PyProof.Rows L2
def sParED (i j : Nat) (f : Sem) : SSem := fun ρ => (f ρ).bind fun p => (frz p).bind fun q => if i < q.2.length ∧ j < q.2.length then .ret (.nx ((q.2.set i (.fro q.1)).set j (.md true []))) else .bad
def fDsetd (j : Nat) (fk fv : Sem) : Sem := fun ρ => (lift (isMd ρ j)).bind fun _ => (fk ρ).bind fun r => (lift (rs r.1 r.2)).bind fun a => (lift (keyOf1 a)).bind fun k => (fv r.2).bind fun p => (frz p).bind fun q => (lift (isMd q.2 j)).bind fun kvs =>
  if kvs.length < big then .ret (.val ((dFind kvs k).getD q.1), q.2.set j (.md true (if (dFind kvs k).isSome = true then kvs else dPut kvs a k q.1))) else .bad
section
variable {X : Cx} {ct : CT} {β : BInv} {Ex : XK} {a b e : Expr} {f fk fv : Sem} {pos p p2 p3 apos cpos px py pt pt2 : Pos} {kt k2 : Nat} {x y : Str} {i j : Nat}
end
end Dn
set_option Elab.async false
set_option linter.all false
set_option maxRecDepth 100000
set_option maxHeartbeats 2000000
namespace Dn
open PySem PySem.Spec PyProof.Rows L2
def DRT (c0 : Gc) (A D : Addr → Prop) (H : Hp) : List (AV × AV) → List (List Key × V) → Prop := Paired fun a u => keyOfT a.1 = some u.1 ∧ Rep c0 A D H a.2 u.2
def dFindT (kvs : List (AV × AV)) (k : List Key) : Option AV := (kvs.find? fun q => decide (keyOfT q.1 = some k)).map (·.2)
def dPutT (kvs : List (AV × AV)) (ka : AV) (k : List Key) (v : AV) : List (AV × AV) :=
  if (kvs.any fun q => decide (keyOfT q.1 = some k)) = true then kvs.map (fun q => if keyOfT q.1 = some k then (q.1, v) else q) else kvs ++ [(ka, v)]
def dDropT (kvs : List (AV × AV)) (k : List Key) : List (AV × AV) := kvs.filter fun q => decide (keyOfT q.1 ≠ some k)
section
variable {c0 : Gc} {A D A' D' : Addr → Prop} {H H' : Hp}
theorem DRT.length {kvs : List (AV × AV)} {us : List (List Key × V)} (h : DRT c0 A D H kvs us) : kvs.length = us.length := Paired.length h
theorem DRT.val {kvs : List (AV × AV)} {us : List (List Key × V)} (r : DRT c0 A D H kvs us) (k : List Key) : (dFindT kvs k = none ∧ valV us k = none) ∨ ∃ t v, dFindT kvs k = some t ∧ valV us k = some v ∧ Rep c0 A D H t v := by
  unfold DRT at r
  induction r with
  | nil => exact .inl ⟨rfl, rfl⟩
  | @cons q u ps us h t ih =>
    by_cases e : u.1 = k
    · refine .inr ⟨q.2, u.2, ?_, valV_pos e, h.2⟩
      unfold dFindT
      rw [List.find?_cons, show decide (keyOfT q.1 = some k) = true from decide_eq_true (by rw [h.1, e])]
      rfl
    · have e2 : dFindT (q :: ps) k = dFindT ps k := by
        unfold dFindT
        rw [List.find?_cons, show decide (keyOfT q.1 = some k) = false from decide_eq_false (by rw [h.1]; exact fun z => e (Option.some.inj z))]
      rw [e2, valV_neg e]
      exact ih
theorem dAnyT (k : List Key) : ∀ kvs : List (AV × AV), (kvs.any fun q => decide (keyOfT q.1 = some k)) = (dFindT kvs k).isSome
  | [] => rfl
  | q :: r => by
    unfold dFindT
    rw [List.any_cons, List.find?_cons]
    by_cases e : keyOfT q.1 = some k
    · rw [show decide (keyOfT q.1 = some k) = true from decide_eq_true e]; rfl
    · rw [show decide (keyOfT q.1 = some k) = false from decide_eq_false e, Bool.false_or]; exact dAnyT k r
theorem DRT.put {kvs : List (AV × AV)} {us : List (List Key × V)} {ka va : AV} {k : List Key} {v : V} (r : DRT c0 A D H kvs us) (hk : keyOfT ka = some k) (rv : Rep c0 A D H va v) : DRT c0 A D H (dPutT kvs ka k va) (putK us k v) := by
  have e : (kvs.any fun q => decide (keyOfT q.1 = some k)) = (us.any fun u => decide (u.1 = k)) := by
    rw [dAnyT, valV_any]
    rcases r.val k with ⟨h1, h2⟩ | ⟨t, w, h1, h2, _⟩
    · rw [h1, h2]; rfl
    · rw [h1, h2]; rfl
  unfold dPutT putK
  rw [e]
  by_cases q : (us.any fun u => decide (u.1 = k)) = true
  · rw [if_pos q, if_pos q]
    clear q e
    unfold DRT at r ⊢
    induction r with
    | nil => exact .nil
    | @cons q u ps us h t ih =>
      rw [List.map_cons, List.map_cons]
      refine .cons ?_ ih
      by_cases e : u.1 = k
      · rw [if_pos e, if_pos (by rw [h.1, e])]; exact ⟨h.1, rv⟩
      · rw [if_neg e, if_neg (by rw [h.1]; exact fun z => e (Option.some.inj z))]; exact h
  · rw [if_neg q, if_neg q]
    exact Paired.snoc r ⟨hk, rv⟩
theorem DRT.drop {kvs : List (AV × AV)} {us : List (List Key × V)} (k : List Key) (r : DRT c0 A D H kvs us) : DRT c0 A D H (dDropT kvs k) (dropK us k) := by
  unfold DRT at r ⊢
  unfold dDropT dropK
  induction r with
  | nil => exact .nil
  | @cons q u ps us h t ih =>
    rw [List.filter_cons, List.filter_cons]
    by_cases e : u.1 = k
    · rw [if_neg (show ¬ decide (keyOfT q.1 ≠ some k) = true by simp [h.1, e]), if_neg (show ¬ decide (u.1 ≠ k) = true by simp [e])]
      exact ih
    · rw [if_pos (show decide (keyOfT q.1 ≠ some k) = true by simp [h.1, e]), if_pos (show decide (u.1 ≠ k) = true by simp [e])]
      exact .cons h ih
end
def isMdT (ρ : Env') (j : Nat) : Option (List (AV × AV)) := match ρ[j]? with
  | some (.md false kvs) => some kvs
  | _ => none
section
variable {c0 : Gc} {β : BInv} {g : G} {H : Hp} {ρ : Env'} {σ : L2.St} {a : Addr}
theorem DRT.ext {g' : G} {H' : Hp} {kvs : List (AV × AV)} {us : List (List Key × V)} (e : Ext g g' H H') (r : DRT c0 g.Av g.D H kvs us) : DRT c0 g'.Av g'.D H' kvs us := Paired.mapP r fun _ _ q => ⟨q.1, q.2.imp (fun _ _ q n => e.av q n) e.dsub⟩
end
section
variable {X : Cx} {pins : List (Addr × Obj)} {σ : L2.St} {H : Hp} {s : Shared}
end
section
variable {X : Cx}
def tDcT (wi : TI) (g : TG) (tk tv : TE) (vs : List Nat) : TE := fun σ H Q => wi σ H fun J H1 => ∀ D, H1 D = none → ∃ (n : Nat) (W : Nat → Hp → Prop), W 0 (upd H1 D (.dT [])) ∧ ∀ i H, W i H →
  (i = n ∧ J.stop i H ∧ Q (.ref D) H) ∨ (i < n ∧ J.go i H ∧ ∀ x H', J.yld i H x H' → g x (wipe σ vs) H' fun σ2 H2 => wipe σ2 vs = wipe σ vs ∧ tk σ2 H2 fun y H3 => tv σ2 H3 fun z H4 =>
    ∃ us ks b, y = .ref b ∧ H4 b = some (.tup (ks.map kV)) ∧ H4 D = some (.dT us) ∧ us.length < sizeLine ∧ W (i + 1) (upd H4 D (.dT (putK us ks z))))
end
section
variable {X : Cx}
def sDDelT (td ty : TE) : TS := fun D σ H => td σ H fun x H1 => ty σ H1 fun y H2 => ∃ a us ks b, x = .ref a ∧ H2 a = some (.dT us) ∧ y = .ref b ∧ H2 b = some (.tup (ks.map kV)) ∧ (valV us ks).isSome = true ∧ D.nx σ (upd H2 a (.dT (dropK us ks)))
end
def keyT : AV → Option (List Key)
  | .tup (x :: xs) => keysOf (x :: xs)
  | _ => none
section
variable {c0 : Gc} {g : G} {H : Hp}
end
def dcT (xs : List AV) (c : AV) : List (AV × AV) := xs.foldl (fun kvs x => match keyT x with
  | some ks => dPutT kvs x ks c
  | none => kvs) []
def sSetDcT (i j : Nat) (f : SemI) (b : Bool) : SSem := fun ρ => (f ρ).bind fun p => if j < p.2.length ∧ p.1.length < big ∧ (p.1.all fun x => (keyT x).isSome) = true then .ret (.nx (p.2.set i (.md false (dcT p.1 (.bl b))))) else .bad
def tDnotInT (j : Nat) (f : Sem) : SemB := fun ρ => (f ρ).bind fun p => (lift (rs p.1 p.2)).bind fun a => (lift (keyT a)).bind fun k => (lift (isMdT p.2 j)).bind fun kvs => .ret (!(dFindT kvs k).isSome, p.2)
def sDdelT (j : Nat) (fk : Sem) : SSem := fun ρ => (lift (isMdT ρ j)).bind fun _ => (fk ρ).bind fun r => (lift (rs r.1 r.2)).bind fun a => (lift (keyT a)).bind fun k => (lift (isMdT r.2 j)).bind fun kvs => (lift (dFindT kvs k)).bind fun _ => .ret (.nx (r.2.set j (.md false (dDropT kvs k))))
def fDlistT (j : Nat) : Sem := fun ρ => (lift (isMdT ρ j)).bind fun kvs => .ret (.val (.lst (kvs.map (·.1))), ρ)
section
variable {X : Cx} {ct : CT} {β : BInv} {Ex : XK} {a b e tg iter value : Expr} {f k fk fv : Sem} {fi : SemI} {pos pos' p p2 apos tpos : Pos} {x y : Str} {id : String}
end
section
variable {X : Cx} {ct : CT} {β : BInv} {Ex : XK} {a : Expr} {f fk : Sem} {pos p p2 tpos : Pos} {x : Str}
theorem DRT.isSome {c0 : Gc} {A D : Addr → Prop} {H : Hp} {kvs : List (AV × AV)} {us : List (List Key × V)} (r : DRT c0 A D H kvs us) (k : List Key) : (dFindT kvs k).isSome = (valV us k).isSome := by
  rcases r.val k with ⟨h1, h2⟩ | ⟨_, _, h1, h2, _⟩ <;> rw [h1, h2] <;> rfl
end
section
variable {γ : Type} {i j : Nat} {f fk : Sem} {fi : SemI} {b : Bool} {a0 : Slot} {l0 : Env'}
end
def fNotV (f : Sem) : Sem := fun ρ => (f ρ).bind fun p => (lift (rs p.1 p.2)).bind fun a => (lift (tru a)).bind fun b => .ret (.val (.bl (!b)), p.2)
def fRevL (f : Sem) : Sem := fun ρ => (f ρ).bind fun p => (lift (rs p.1 p.2)).bind fun a => (lift (lstOf a)).bind fun xs => .ret (.val (.lst xs.reverse), p.2)
end Dn
set_option Elab.async false
set_option linter.all false
set_option maxRecDepth 100000
set_option maxHeartbeats 2000000
namespace Dn
open PySem PySem.Spec PyProof.Rows L2
def rOnce (K : PySem.W.Frag) : R2 := fun x y H Q => ∃ l xs, x = .ref l ∧ y = .int 1 ∧ SqT K H l xs ∧ Q (.ref l) H
def pMulT (a b : AV) : Option AV := match a, b with
  | .tup xs, .int k => if k = 1 then some (.tup xs) else if xs.isEmpty = false ∧ 2 ≤ k ∧ k ≤ 1000 ∧ xs.length ≤ 1000 then some (.tup (List.replicate k.toNat xs).flatten) else none
  | _, _ => none
section
variable {X : Cx} {ct : CT}
end
end Dn
set_option Elab.async false
set_option linter.all false
set_option maxRecDepth 100000
set_option maxHeartbeats 2000000
namespace HN
open PySem PySem.Spec PyProof.Rows PySem.SeqAt
section
variable {M : Model} {prog : Program} {w : World} {A : Around} {E : Value → Shared → Prop} {s : Shared} {K h₀ : PySem.W.Frag} {x C f : Addr} {ox : Obj} {od : Option Obj} {b : Value}
end
end HN
namespace Dn
open PySem PySem.Spec PyProof.Rows L2
structure OwnC (K : PySem.W.Frag) (C : Addr) : Prop where
  ins : C8.InsC K C
  ne : PySem.W.findIn K (.ref C) "__ne__" = some (some (.builtin "object.__ne__"))
def rOwn (C : Addr) (sp : Sp) (E : XK) (neg : Bool) : R2 := fun x y H Q => ∃ a b dx dy fs gs, x = V.ref a ∧ y = V.ref b ∧ H a = some (.ins C dx fs) ∧ H b = some (.ins C dy gs) ∧ sp [.ref a, .ref b] H (fun z H' => ∃ v, z = .bl v ∧ Q (.bl (neg != v)) H') E
def cmpK (neg : Bool) (c : Nat) (fn : List AV → T AV) (a b : AV) (ρ : Env') : T (Hd × Env') := match a with
  | .ins c1 xs => match b with
    | .ins c2 ys => if c1 = c ∧ c2 = c then (fn [.ins c1 xs, .ins c2 ys]).bind fun t => (lift (blOf t)).bind fun v => .ret (.val (.bl (neg != v)), ρ) else .bad
    | _ => .bad
  | _ => .bad
def fCmpO (neg : Bool) (c : Nat) (fn : List AV → T AV) (fa fb : Sem) : Sem := fun ρ => (fa ρ).bind fun p => (frz p).bind fun p1 => (fb p1.2).bind fun q => (frz q).bind fun s => cmpK neg c fn p1.1 s.1 s.2
section
variable {X : Cx} {ct : CT} {β : BInv} {Ex : XK} {a b : Expr} {fa fb : Sem} {pos p p2 : Pos} {lv n c : Nat} {ps : List Str} {fn : List AV → T AV} {op : CmpOp}
def pIsC (c : Nat) (a : AV) : Option AV := match a with
  | .ins c1 _ => if c1 = c then some (.bl true) else none
  | _ => none
end
end Dn
set_option Elab.async false
set_option linter.all false
set_option maxRecDepth 100000
set_option maxHeartbeats 2000000
namespace Dn
open PySem PySem.Spec PyProof.Rows L2
def strsOf : List AV → Option (List Str)
  | [] => some []
  | .str s :: r => (strsOf r).map fun l => s :: l
  | _ :: _ => none
def pJoinA (a : Str) (t : AV) : Option AV := (seqOf t).bind fun xs => (strsOf xs).bind fun ys => if (ys.map (·.length)).sum + ys.length * a.length ≤ big then some (.str (Txt.join a ys)) else none
section
variable {X : Cx} {ct : CT} {β : BInv} {Ex : XK} {a b : Expr} {fa : Sem} {pos p p2 apos : Pos} {lv n c : Nat} {ps : List Str} {fn : List AV → T AV}
def rStrO (C : Addr) (sp : Sp) (E : XK) : List V → Hp → VK → Prop := fun xs H Q => ∃ a dx fs, xs = [V.ref a] ∧ H a = some (.ins C dx fs) ∧ sp [.ref a] H (fun z H' => ∃ y, z = .str y ∧ Q (.str y) H') E
def strOf : AV → Option Str
  | .str s => some s
  | _ => none
def strK (c : Nat) (fn : List AV → T AV) (t : AV) (ρ : Env') : T (Hd × Env') := match t with
  | .ins c' xs => if c' = c then (fn [.ins c' xs]).bind fun t => (lift (strOf t)).bind fun y => .ret (.val (.str y), ρ) else .bad
  | _ => .bad
def fStrO (c : Nat) (fn : List AV → T AV) (f : Sem) : Sem := fun ρ => (f ρ).bind fun q => (frz q).bind fun s => strK c fn s.1 s.2
def pFmt (a : AV) : Option AV := match a with
  | .str y => if y.length ≤ big then some (.str y) else none
  | .int i => if i.natAbs.log2 < 1920 then some (.str (toString i)) else none
  | _ => none
def fJs : List Sem → Str → Sem
  | [], acc, ρ => .ret (.val (.str acc), ρ)
  | f :: fs, acc, ρ => (f ρ).bind fun p => (lift (rs p.1 p.2)).bind fun a => (lift (strOf a)).bind fun y => if (acc ++ y).length ≤ big then fJs fs (acc ++ y) p.2 else .bad
inductive JJ (X : Cx) (ct : CT) (β : BInv) (Ex : XK) : List Expr → List Sem → Prop where
  | nil : JJ X ct β Ex [] []
  | cons {e : Expr} {f : Sem} {es : List Expr} {fs : List Sem} (h : JE X ct β Ex e f) (r : JJ X ct β Ex es fs) : JJ X ct β Ex (e :: es) (f :: fs)
end
end Dn
set_option Elab.async false
set_option linter.all false
set_option maxRecDepth 100000
set_option maxHeartbeats 2000000
namespace Dn
open PySem PySem.Spec PyProof.Rows L2
def spX (K : PySem.W.Frag) (C : Addr) (f : Str) : Sp := fun vs H Q _ => ∃ a y, vs = [.ref a, y] ∧ OexC K C ∧ PySem.W.findIn K (.ref C) f = some none ∧ H a = some (exo a C none) ∧ ∀ dx, H dx = none → dx ≠ a → Q .non (upd (upd H dx (exd dx [(f, y)])) a (exo a C (some dx)))
section
variable {P : Program} {w : World} {K : PySem.W.Frag} {mg : Str → Option Value} {base : Heap} {CXX : CXT}
theorem fn_exi {x qual fld pn : Str} {st : Stmt} {f C : Addr} {fd : FuncData} {k : Nat} {p1 p2 p3 p4 : Pos} (F : Fun K x qual st f fd) (S : FnScope ["self", pn] ["self", pn] (defScope st)) (hb : defBody st = [.Assign [.Attribute (.Name "self" p1) fld p2] (.Name pn p3) p4])
    (hv0 : ∀ X : Cx, X.env.scope = defScope st → Vis X.env.scope "self" ∧ Vis X.env.scope pn) (hd : (pn == ("__debug__" : Str)) = false) (hcd : (pn == ("__classdict__" : Str)) = false)
    (hs : ∀ env : Env, swapsWith (.Name pn p3) (some (.Attribute (.Name "self" p1) fld p2)) p4.line env = pure false) :
    FnOk P w K mg base (L2.CX P w) (k + 1) f fd ["self", pn] (spX K C fld) := by
  refine F.okX S (fun vs H Q E h => ?_) fun cdv A outer s H vs Q E hr h => ?_
  · obtain ⟨a, y, rfl, _⟩ := h
    rfl
  · obtain ⟨a, y, rfl, T, hno, ha, q⟩ := h
    rw [hb]
    have v := hv0 (cxOf (L2.CX P w) P w K mg base ["self", pn] qual (defScope st) f cdv A outer s H E) rfl
    refine ⟨_, pss_cons (ps_ost (pe_var (i := 0) rfl v.1 (by decide +kernel) (by decide +kernel)) (pe_var (i := 1) rfl v.2 hd hcd) (hs _)) pss_nil, ?_⟩
    refine ⟨y, rfl, .ref a, rfl, a, C, rfl, T, hno, .inl ⟨ha, fun dx n ne => q dx n ne⟩⟩
end
def sRaise (c : Nat) (k : SemL) : SSem := fun ρ => (k ρ).bind fun p => if p.1.length = 1 then .exc c p.1 else .bad
section
variable {X : Cx} {ct : CT} {β : BInv} {Ex : XK} {e : Expr} {fk : SemL} {pos p pos' : Pos}
theorem passNo {Y : Cx} : Passes (L2.CX Y.prog Y.w) Y (fun _ _ _ => False) := fun _ _ _ _ _ _ _ h => by
  obtain ⟨_, _, _, _, _, _, _, _, _, _, _, _, h⟩ := h
  exact h.elim
theorem js_raise {x fld pn : Str} {c k : Nat} {C fI : Addr} {fd : FuncData} (hc : X.calm = true) (tk : Takes X (fun cls d _ H => Ex cls d H)) (T : OexC X.K C) (iC : PySem.W.findIn X.K (.ref C) "__init__" = some (some (.ref fI))) (tI : PySem.W.typeIn X.K (.ref fI) = some (.type "function"))
    (hno : PySem.W.findIn X.K (.ref C) fld = some none) (F1 : FnOk X.prog X.w X.K X.mg X.base (L2.CX X.prog X.w) k fI fd ["self", pn] (spX X.K C fld)) (hr : Room (k + 1) X.A) (hb : Binds X.K fd ["self", pn] []) (hg : Gl X x) (hm : X.mg x = some (.ref C)) (hct : ct c = (x, [fld]))
    (ha : JL X ct β Ex [e] fk) (hdb : (x == ("__debug__" : Str)) = false := by decide +kernel) (he : starEach [e] X.env = (false, eval e X.env) :: starEach [] X.env := by rfl) :
    JS X ct β Ex (.Raise (some (.Call (.Name x p) [e] [] pos)) none pos') (sRaise c fk) := by
  refine PS.imp (ps_raise hc tk (pmk_oex T iC tI F1 hr hb .nil passNo hg hm ha hdb he)) fun D σ H h => ?_
  obtain ⟨g, ρ, R, h⟩ := h
  refine ⟨g, ρ, R, okT_mono (okT_bind h) fun g1 H1 q e1 h1 vs R1 rv => ?_⟩
  by_cases hl : q.1.length = 1
  · rw [if_pos hl] at h1
    have lv : vs.length = 1 := by rw [rv.length]; exact hl
    obtain ⟨y, rfl⟩ : ∃ y, vs = [y] := by
      match vs, lv with
      | [y], _ => exact ⟨y, rfl⟩
    refine ⟨by show 1 ≤ 1000; decide, fun a na => ⟨a, y, rfl, T, hno, upd_same, fun dx ndx ne => ⟨rfl, dx, [(fld, y)], upd_same, ?_, ?_, ?_⟩⟩⟩
    · rw [upd_ne ne, upd_same]
    · rwa [upd_ne ne] at ndx
    · have hn : H1 dx = none := by rwa [upd_ne ne] at ndx
      have eH : upd (del (upd (upd (upd H1 a (exo a C none)) dx (exd dx [(fld, y)])) a (exo a C (some dx))) a) dx (.xd [(fld, y)]) = upd H1 dx (.xd [(fld, y)]) := by
        funext b
        by_cases b1 : b = dx
        · subst b1
          rw [upd_same, upd_same]
        · rw [upd_ne b1, upd_ne b1]
          by_cases b2 : b = a
          · subst b2
            rw [del_same, na]
          · rw [del_ne b2, upd_ne b2, upd_ne b1, upd_ne b2]
      rw [eH]
      have s := same_upd (o := .xd [(fld, y)]) hn
      have h2 : ∀ g' H' C d vs, Ext g1 g' H1 H' → β.I g'.B g'.D H' → (gc X ct).mg ((gc X ct).ct c).1 = some (.ref C) → H' d = some (.xd (((gc X ct).ct c).2.zip vs)) → vs.length = ((gc X ct).ct c).2.length → RepsG (gc X ct) g' H' q.1 vs → Ex (.ref C) (some d) H' := h1
      have hct' : (gc X ct).ct c = (x, [fld]) := hct
      exact h2 g1 (upd H1 dx (.xd [(fld, y)])) C dx [y] (Ext.same s) (R1.same s).box (by rw [hct']; exact hm) (by rw [hct']; exact upd_same) (by rw [hct']; rfl) ((Ext.same s).reps rv)
  · rw [if_neg hl] at h1
    exact (show False from h1).elim
end
noncomputable def tryT {α γ : Type} (m : T α) (k : α → T γ) (h : Nat → List AV → T γ) : T γ := T.rec (motive := fun _ => T γ) (fun a => k a) .bad (fun c xs => h c xs) (fun n _ ih => .draw n ih) m
theorem tryT_ret {α γ : Type} {a : α} {k : α → T γ} {h : Nat → List AV → T γ} : tryT (.ret a) k h = k a := rfl
theorem tryT_exc {α γ : Type} {c : Nat} {xs : List AV} {k : α → T γ} {h : Nat → List AV → T γ} : tryT (.exc c xs : T α) k h = h c xs := rfl
theorem tryT_draw {α γ : Type} {n : Nat} {f : Nat → T α} {k : α → T γ} {h : Nat → List AV → T γ} : tryT (.draw n f) k h = .draw n fun i => tryT (f i) k h := rfl
theorem tryT_all {α γ : Type} {k : α → T γ} {h : Nat → List AV → T γ} {P : γ → Prop} {E : Nat → List AV → Prop} : ∀ {m : T α}, (tryT m k h).all P E → m.all (fun a => (k a).all P E) fun c xs => (h c xs).all P E := by
  intro m
  induction m with
  | ret a => exact fun q => q
  | bad => exact fun q => q
  | exc c xs => exact fun q => q
  | draw n f ih => exact fun q i hi => ih i (q i hi)
section
variable {c0 : Gc} {β : BInv} {Ex : XK} {g g1 : G} {H H1 : Hp} {ρ : Env'} {σ : L2.St}
end
noncomputable def sTryC (fk : SemL) (fn : List AV → T AV) (sub : Nat → Bool) (hnd : Nat → List AV → SSem) : SSem := fun ρ => (fk ρ).bind fun p => tryT (fn p.1) (fun _ => .ret (.nx p.2)) fun c xs => if sub c then hnd c xs p.2 else .exc c xs
section
variable {X : Cx} {ct : CT} {β : BInv} {Ex : XK} {e : Expr} {es : List Expr} {fk : SemL} {pos p pos' pos2 np posT : Pos} {b₀ : Stmt} {suite : List Stmt}
end
def rIsX (K : PySem.W.Frag) (cls : Value) (d : Option Addr) (a : Addr) : List V → Hp → VK → Prop := fun xs H Q => ∃ (D dd : Addr) (fs : List (Str × V)) (c : V) (cv : Value) (b : Bool), cls = .ref D ∧ d = some dd ∧ ExcC K D ∧ (PySem.W.clsIn K D).isSome = true ∧ H dd = some (.xd fs) ∧ xs = [.ref a, c] ∧ (∀ u, RelV c u → u = cv) ∧ PySem.W.kitOne K (.ref D) cv = some b ∧ Q (.bl b) H
theorem call_isX {X : Cx} {a : Addr} {cls : Value} {d : Option Addr} {oe : Obj} {pn : List (Addr × Obj)} (hz : Zc cls d oe) (hf : ∃ vs, oe.data = .fields vs) : CallR (X.suite a ((a, oe) :: pn)) (.builtin "isinstance") (rIsX X.K cls d a) := by
  intro pins s σ H xs us Q I r h
  obtain ⟨D, dd, fs, c, cv, b, rfl, rfl, C, hcl, hH, rfl, hcv, e, q⟩ := h
  cases r with
  | cons rx rr =>
    cases rr with
    | cons rt rr =>
      cases rr
      cases rx
      have ec := hcv _ rt
      subst ec
      obtain ⟨hget, _⟩ := I.pin (a, oe) (List.mem_append.mpr (.inl List.mem_cons_self))
      obtain ⟨vs, hv⟩ := hf
      have hx : ObjOk X.prog X.w H s.heap dd (.xd fs) := I.hok dd _ hH
      obtain ⟨mA, hns, _⟩ := hx
      obtain ⟨od, ho, _⟩ := lookIn_ns hns
      have J : PySem.W.InstAt s.heap a oe D (some od) := ⟨hget, hz.1, by unfold PySem.W.notCls; rw [hv] <;> rfl, by rw [hz.2]; exact ho⟩
      exact PySem.W.kia_one (PySem.W.kitx_exc hcl C.hg C.hk C.hs C.ha C.hn C.ht C.hm) I.kIn J e (fun z => nomatch z) fun tk => ⟨.bl b, H, I.kept (t' := tk) fun _ _ z => z, rfl, q⟩
def tXfX (K : PySem.W.Frag) (a : Addr) (cls : Value) (d : Option Addr) (f : Str) (te : TE) : TE := fun σ H Q => te σ H fun x H1 => x = .ref a ∧ ∃ (C dd : Addr) (fs : List (Str × V)) (v : V), cls = .ref C ∧ XfC K C ∧ PySem.W.findIn K (.ref C) f = some none ∧ d = some dd ∧ H1 dd = some (.xd fs) ∧ fs.lookup f = some v ∧ Q v H1
theorem pe_xfX {X : Cx} {a : Addr} {oe : Obj} {cls : Value} {d : Option Addr} {pn : List (Addr × Obj)} {e : Expr} {te : TE} {pos : Pos} {n : Str} (hz : Zc cls d oe) (hf : ∃ vs, oe.data = .fields vs) (he : PE (X.suite a ((a, oe) :: pn)) e te) (hb : attributeBase e n X.env (eval e X.env) = eval e X.env := by rfl) :
    PE (X.suite a ((a, oe) :: pn)) (.Attribute e n pos) (tXfX X.K a cls d n te) := by
  refine ⟨fun pins s σ H Q I h => ?_⟩
  refine attr_of hb (thn (he.run pins s σ H _ I h) fun u s1 hh => ?_)
  obtain ⟨x, H1, I1, rx, ex, C, dd, fs, v, ec, T, hno, ed, ea, l, q⟩ := hh
  subst ex
  obtain rfl : u = Value.ref a := rx
  subst ec
  subst ed
  obtain ⟨ha, _⟩ := I1.pin (a, oe) (List.mem_append_left _ List.mem_cons_self)
  obtain ⟨vs, hd⟩ := hf
  have hx : ObjOk X.prog X.w H1 s1.heap dd (.xd fs) := I1.hok dd _ ea
  obtain ⟨mA, hns, hr⟩ := hx
  obtain ⟨od, ho, hl⟩ := lookIn_ns hns
  obtain ⟨u, hu, ru⟩ := RelO.some_of (v := v) (o := mA n) (by rw [← l]; exact hr n)
  have J : PySem.W.InstAt s1.heap a oe C (some od) := ⟨ha, hz.1, by unfold PySem.W.notCls; rw [hd] <;> rfl, by rw [hz.2]; exact ho⟩
  exact HandSPX.exc_get I1.kIn J T.ga T.gg T.exC (PySem.W.findObj_own T.hdC hno rfl (by rw [hl, hu])) (handed_of ru) ⟨v, H1, I1.tok _, ru, q⟩
def tsE (K : PySem.W.Frag) (i j : Nat) (CA CB : Addr) (f o : Str) (a : Addr) (cls : Value) (d : Option Addr) : TS := tSeq (tAsg (tIf (tAnd (tB (tCB (rIsX K cls d a) (tCons (tVar i) (tCons (tC (.ref CA)) tNil)))) (tNot (tB (tCB (rIsX K cls d a) (tCons (tVar i) (tCons (tC (.ref CB)) tNil)))))) (tXfX K a cls d f (tVar i)) (tC (.str o))) (gName j)) tNext
def hndE (i j : Nat) (bA bB : Nat → Bool) (o : Str) (k : Nat) (xs : List AV) : SSem := fun ρ => if i < ρ.length ∧ j < ρ.length ∧ i ≠ j then (if (bA k && !bB k) = true then (match xs with
  | [t] => .ret (.nx ((ρ.set j (.fro t)).set i .un))
  | _ => .bad) else .ret (.nx ((ρ.set j (.fro (.str o))).set i .un))) else .bad
theorem hts_E {c0 : Gc} {β : BInv} {Ex : XK} {g : G} {ρ : Env'} {σ : L2.St} {H : Hp} {i j k : Nat} {CA CB C d a : Addr} {f o : Str} {bA bB : Nat → Bool} {xs : List AV} {us : List V} {D : Ends} (R : Rel c0 β g ρ σ H)
    (hA : PySem.W.kitOne c0.K (.ref C) (.ref CA) = some (bA k)) (hB : PySem.W.kitOne c0.K (.ref C) (.ref CB) = some (bB k)) (E1 : ExcC c0.K C) (E2 : (PySem.W.clsIn c0.K C).isSome = true) (E3 : XfC c0.K C) (E4 : PySem.W.findIn c0.K (.ref C) f = some none) (h2 : (c0.ct k).2 = [f])
    (hd : H d = some (.xd ((c0.ct k).2.zip us))) (hl : us.length = (c0.ct k).2.length) (rx : RepsG c0 g H xs us) (h : okT c0 β Ex g H (hndE i j bA bB o k xs ρ) (endOk c0 β D)) :
    tsE c0.K i j CA CB f o a (.ref C) (some d) { nx := fun σ' H' => D.nx (σ'.set i none) H', rt := D.rt, bk := fun σ' H' => D.bk (σ'.set i none) H', ct := fun σ' H' => D.ct (σ'.set i none) H' } (σ.set i (some (.ref a))) H := by
  unfold hndE at h
  by_cases hc : i < ρ.length ∧ j < ρ.length ∧ i ≠ j
  · rw [if_pos hc] at h
    obtain ⟨hi, hj, ne⟩ := hc
    have si : (σ.set i (some (.ref a)))[i]? = some (some (V.ref a)) := List.getElem?_set_self (by rw [R.len]; exact hi)
    rw [h2] at hd hl
    obtain ⟨y, rfl⟩ : ∃ y, us = [y] := by
      match us, hl with
      | [y], _ => exact ⟨y, rfl⟩
    -- what comes behind a value v for x
    have fin : ∀ (t : AV) (v : V), RepG c0 g H t v → okT c0 β Ex g H (.ret (.nx ((ρ.set j (.fro t)).set i .un))) (endOk c0 β D) → D.nx (((σ.set i (some (.ref a))).set j (some v)).set i none) H := fun t v rv q => by
      have R1 := R.setFro rv hj
      have e : ((σ.set i (some (.ref a))).set j (some v)).set i none = (σ.set j (some v)).set i none := by
        rw [List.set_comm _ _ ne, List.set_set]
      rw [e]
      have R2 := R1.drop1 (j := i) (σ' := (σ.set j (some v)).set i none) (by rw [List.length_set]) fun m hm => by rw [List.getElem?_set_ne (Ne.symm hm)]
      exact okT_ret' q ((ext_no g j H).trans (ext_no (g.no j) i H)) _ R2
    have last : (if (bA k && !bB k) = true then D.nx (((σ.set i (some (.ref a))).set j (some y)).set i none) H else D.nx (((σ.set i (some (.ref a))).set j (some (.str o))).set i none) H) := by
      by_cases hb : (bA k && !bB k) = true
      · rw [if_pos hb] at h ⊢
        match xs, rx, h with
        | [t], rx, h =>
          refine fin t y ?_ h
          rw [RepsG, RepL] at rx
          obtain ⟨v, r, e, h1, _⟩ := rx
          cases e
          exact h1
        | [], _, h => exact (show False from h).elim
        | _ :: _ :: _, _, h => exact (show False from h).elim
      · rw [if_neg hb] at h ⊢
        exact fin (.str o) (.str o) (by rw [RepG, Rep]) h
    refine ⟨_, si, C, d, _, .ref CA, .ref CA, bA k, rfl, rfl, E1, E2, hd, rfl, fun u r => r, hA, bA k, rfl, ?_⟩
    cases eA : bA k with
    | false =>
      rw [eA] at last
      exact last
    | true =>
      rw [eA] at last
      refine ⟨_, si, C, d, _, .ref CB, .ref CB, bB k, rfl, rfl, E1, E2, hd, rfl, fun u r => r, hB, bB k, rfl, ?_⟩
      cases eB : bB k with
      | true =>
        rw [eB] at last
        exact last
      | false =>
        rw [eB] at last
        refine ⟨_, si, rfl, C, d, _, y, rfl, E3, E4, rfl, hd, ?_, last⟩
        show List.lookup f [(f, y)] = some y
        simp
  · rw [if_neg hc] at h
    exact (show False from h).elim
theorem run_makeS {X : Cx} {CX : CXT} {C f : Addr} {k : Nat} {fd : FuncData} {ps : List Str} {sp : Sp} {E : L2.St → XK} {ds : List Value} {dvs : List V} {pins : List (Addr × Obj)} {σ : L2.St} {H : Hp} {s : Shared} {Q : VK} {us : List Value} {vs : List V} (M : Mk X.K C f) (F : FnOk X.prog X.w X.K X.mg X.base CX k f fd ps sp) (hr : Room (k + 1) X.A) (hb : Binds X.K fd ps ds) (hd : Vals dvs ds)
    (hx : PassesAt CX X σ (E σ)) (I : Inv X pins σ H s) (r : Vals vs us)
    (h : ∀ x dx, H x = none → H dx = none → dx ≠ x → sp (.ref x :: (vs ++ dvs)) (upd (upd H dx (.own x)) x (.ins C dx [])) (fun v H2 => v = .non ∧ Q (.ref x) H2) (E σ)) :
    wpAny (model X.prog X.w) X.A (call (.ref C) us) (EP X pins σ Q) X.xe s := by
  have hq := h (s.heap.objs.size + 1) s.heap.objs.size (I.hok.fresh (Nat.le_succ _)) (I.hok.fresh (Nat.le_refl _)) (Nat.ne_of_lt (Nat.lt_succ_self _))
  have I2 := Inv.made (C := C) I
  have r2 : Vals (V.ref (s.heap.objs.size + 1) :: (vs ++ dvs)) (Value.ref (s.heap.objs.size + 1) :: (us ++ ds)) := .cons rfl (r.append hd)
  have hl : (Value.ref (s.heap.objs.size + 1) :: us ++ ds).length = ps.length := by
    have e := r2.length
    rw [F.len _ _ _ _ hq] at e
    exact e.symm
  refine wpAny_call (make_map (f := f) I.kIn M.makes M.init (beq_iff_eq.mp M.fn) (codeAny_mono (F.run _ X.stack _ _ ⟨Value.ref (s.heap.objs.size + 1) :: us, []⟩ (Value.ref (s.heap.objs.size + 1) :: (us ++ ds)) _ _ (E σ) (hr.make C us [])
    (I2.env0.make C us []) (hb _ (Value.ref (s.heap.objs.size + 1) :: us) I2.kIn hl) r2 hq) fun r s' hq' => ?_))
  cases r with
  | error e => exact hx pins _ _ e s' I2 hq'
  | ok fl =>
    cases fl with
    | ret u =>
      obtain ⟨v, H', I3, rv, ev, q3⟩ := I2.after hq'
      subst ev
      exact ⟨rv, ⟨V.ref (s.heap.objs.size + 1), H', I3, rfl, q3⟩⟩
    | next => exact False.elim hq'
    | brk => exact False.elim hq'
    | cont => exact False.elim hq'
def tMakeS (C : Addr) (sp : Sp) (dvs : List V) (E : L2.St → XK) (t : TA) : TE := fun σ H Q => t σ H fun vs H1 => ∀ x dx, H1 x = none → H1 dx = none → dx ≠ x → sp (.ref x :: (vs ++ dvs)) (upd (upd H1 dx (.own x)) x (.ins C dx [])) (fun v H2 => v = .non ∧ Q (.ref x) H2) (E σ)
theorem pe_makeS {X : Cx} {CX : CXT} {C f : Addr} {k : Nat} {fd : FuncData} {ps : List Str} {sp : Sp} {E : L2.St → XK} {ds : List Value} {dvs : List V} {x : Str} {e : Expr} {es : List Expr} {t : TA} {p pos : Pos} (M : Mk X.K C f) (F : FnOk X.prog X.w X.K X.mg X.base CX k f fd ps sp) (hr : Room (k + 1) X.A) (hg : Gl X x) (hm : X.mg x = some (.ref C)) (hb : Binds X.K fd ps ds) (hd : Vals dvs ds) (hx : ∀ σ, PassesAt CX X σ (E σ))
    (ha : PA X (e :: es) t) (hdb : (x == ("__debug__" : Str)) = false := by decide) (he : starEach (e :: es) X.env = (false, eval e X.env) :: starEach es X.env := by rfl) (hpl : (backTo pos (starEach es X.env)).any (·.1) = false := by rfl) :
    PE X (.Call (.Name x p) (e :: es) [] pos) (tMakeS C sp dvs E t) := by
  refine ⟨fun pins s σ H Q I h => ?_⟩
  refine wpAny_Call_Name_kw (ld_glob I hg hm ?_ hdb)
  refine PySem.W.callWith_K (h₀ := X.base) I.ok.mod.kin M.kp (thn (ha.run pos pins s σ H _ I h) fun us s1 ⟨vs, H1, I1, r, q⟩ => ⟨I1.kIn, ?_⟩) he hpl
  exact run_makeS M F hr hb hd (hx σ) I1 r q
theorem make_spX {c0 : Gc} {β : BInv} {Ex : XK} {g1 : G} {H1 : Hp} {ρ : Env'} {σ : L2.St} {n c : Nat} {fn : List AV → T AV} {ts : List AV} {vs : List V} {Q : VK} {a dx C : Addr} (hC : c0.mg (c0.ct c).1 = some (.ref C)) (R1 : Rel c0 β g1 ρ σ H1) (rv : RepsG c0 g1 H1 ts vs) (hn : ts.length = n) (na : H1 a = none) (nd : H1 dx = none) (hne : dx ≠ a)
    (h2 : (fn ts).all (fun t => ∀ g' H', Ext g1 g' H1 H' → ∀ v, Rel c0 β g' ρ σ H' → RepG c0 g' H' t v → Q v H') fun cc xs => ∀ g' H' C d us, Ext g1 g' H1 H' → Rel c0 β g' ρ σ H' → c0.mg (c0.ct cc).1 = some (.ref C) → H' d = some (.xd ((c0.ct cc).2.zip us)) → us.length = (c0.ct cc).2.length → RepsG c0 g' H' xs us → Ex (.ref C) (some d) H') :
    spI c0 β n c fn (.ref a :: (vs ++ [])) (upd (upd H1 dx (.own a)) a (.ins C dx [])) (fun v H2 => v = .non ∧ Q (.ref a) H2) Ex := by
  have s1 : Same H1 (upd H1 dx (.own a)) := same_upd nd
  have s2 : Same (upd H1 dx (.own a)) (upd (upd H1 dx (.own a)) a (.ins C dx [])) := same_upd (by rw [upd_ne (Ne.symm hne)]; exact na)
  have s := s1.trans s2
  have hcl : (upd (upd H1 dx (.own a)) a (.ins C dx [])) a = some (.ins C dx []) := upd_same
  generalize upd (upd H1 dx (.own a)) a (.ins C dx []) = H2 at s hcl ⊢
  have back : ∀ {b : Addr}, H2 b = none → H1 b = none := fun {b} z => none_back (Ext.same (g := g1) s) z
  have lv2 : ∀ {b : Addr}, H1 b ≠ none → H2 b ≠ none := fun {b} z y => z (back y)
  have ex : ∀ {g' : G} {H' : Hp}, Ext (g1.down.self a) g' H2 H' → Ext g1.down { g' with own := fun _ => none, S := g1.down.S } H1 H' := fun {g' H'} e => {
    keep := fun b o h hn hb => e.keep b o (s b o h) (fun i z => by
      unfold G.self at z
      simp only at z
      split at z
      · cases z; rw [na] at h; cases h
      · cases z) hb
    live := fun b h => e.live b (lv2 h)
    m := e.m
    bsub := e.bsub
    bnew := fun b h => (e.bnew b h).elim .inl fun z => .inr (back z)
    dsub := e.dsub
    own := fun i b h => by cases h
    s := rfl }
  refine ⟨g1.down, ts, a, C, dx, vs ++ [], rfl, hcl, hC, fun _ => rfl, fun b h => ?_, fun b h => ?_, β.frame R1.box fun b h => ?_, fun z => R1.freshAv na (down_av.mp z), ?_, hn, ?_⟩
  · have h : g1.Av b := h.elim .inl fun h => .inr (.inl h)
    refine ⟨lv2 (R1.avLive h), fun ws z => ?_⟩
    cases y : H1 b with
    | none => exact R1.avLive h y
    | some o => rw [s b o y] at z; cases z; exact R1.avNt h ws y
  · rcases h with h | ⟨i, h⟩
    · exact R1.mb b h
    · exact (R1.sep i b h).2
  · cases y : H1 b with
    | none => exact absurd y (β.live R1.box h)
    | some o => exact s b o y
  · rw [List.append_nil]
    exact reps_plus (reps_down rv) s na
  · refine T.all_mono h2 (fun t z g' H' e g2 hg2 hb2 rt => ⟨rfl, ?_⟩) fun cc xs z g' H' C' d ws e hb2 hm2 hd2 hl2 rw2 => ?_
    · refine z _ _ (down_ext R1 (ex e)) (.ref a) (down_rel R1 (ex e) hb2) ?_
      subst hg2
      refine rt.imp (fun b o y nb => ⟨y, fun v => nb ?_⟩) fun _ h => h
      rcases v with v | ⟨i, v⟩ | v
      · exact .inl (by show g'.M b; rw [e.m]; exact .inl v)
      · exact .inl (by show g'.M b; rw [e.m]; exact .inr ⟨i, v⟩)
      · exact .inr (.inr v)
    · refine z _ _ C' d ws (down_ext R1 (ex e)) (down_rel R1 (ex e) hb2) hm2 hd2 hl2 (rw2.imp (fun b o y nb => ⟨y, fun v => nb ?_⟩) fun _ h => h)
      rcases v with v | ⟨i, v⟩ | v
      · exact .inl (by rw [e.m]; exact .inl v)
      · exact .inl (by rw [e.m]; exact .inr ⟨i, v⟩)
      · exact .inr (.inr v)
section
variable {X : Cx} {ct : CT} {β : BInv} {Ex : XK} {e : Expr} {es : List Expr} {fk : SemL} {pos p pos' pos2 np posT : Pos} {b₀ : Stmt} {suite : List Stmt}
end
end Dn
set_option Elab.async false
set_option linter.all false
set_option maxRecDepth 100000
set_option maxHeartbeats 2000000
namespace Dn
open PySem PySem.Spec PyProof.Rows L2
structure Er (P : Program) (w : World) (K : PySem.W.Frag) (mg : Str → Option Value) (base : Heap) (nm fld : Str) (C : Addr) : Prop where
  mgC : mg nm = some (.ref C)
  ox : OexC K C
  no : PySem.W.findIn K (.ref C) fld = some none
  mkE : ∃ fI fd pn, PySem.W.findIn K (.ref C) "__init__" = some (some (.ref fI)) ∧ PySem.W.typeIn K (.ref fI) = some (.type "function") ∧ FnOk P w K mg base (L2.CX P w) 1 fI fd ["self", pn] (spX K C fld) ∧ Binds K fd ["self", pn] []
section
variable {X : Cx} {ct : CT} {β : BInv} {Ex : XK} {e : Expr} {fk : SemL} {pos p pos' : Pos}
theorem js_raiseE {x fld : Str} {c : Nat} {C : Addr} (Y : Er X.prog X.w X.K X.mg X.base x fld C) (hc : X.calm = true) (tk : Takes X (fun cls d _ H => Ex cls d H)) (hr : Room 2 X.A) (hct : ct c = (x, [fld])) (ha : JL X ct β Ex [e] fk)
    (hg : Gl X x := by rfl) (hdb : (x == ("__debug__" : Str)) = false := by decide +kernel) (he : starEach [e] X.env = (false, eval e X.env) :: starEach [] X.env := by rfl) :
    JS X ct β Ex (.Raise (some (.Call (.Name x p) [e] [] pos)) none pos') (sRaise c fk) := by
  obtain ⟨fI, fd, pn, h1, h2, h3, h4⟩ := Y.mkE
  exact js_raise hc tk Y.ox h1 h2 Y.no h3 hr h4 hg Y.mgC hct ha hdb he
end
theorem sRaise_b {γ : Type} {c : Nat} {k : SemL} {ρ : Env'} {f : Out → T γ} : (sRaise c k ρ).bind f = (k ρ).bind fun p => if p.1.length = 1 then .exc c p.1 else .bad := by
  unfold sRaise
  rw [T.bind_assoc]
  refine congrArg _ (funext fun p => ?_)
  by_cases h : p.1.length = 1
  · rw [if_pos h, if_pos h]; rfl
  · rw [if_neg h, if_neg h]; rfl
structure ErC (K : PySem.W.Frag) (mg : Str → Option Value) (nm : Str) (C : Addr) : Prop where
  mgC : mg nm = some (.ref C)
  clI : (PySem.W.clsIn K C).isSome = true
  ty : PySem.W.typeIn K (.ref C) = some (.type "type")
  exB : PySem.W.subIn K (.ref C) (.type "BaseException") = some true
structure ErX (K : PySem.W.Frag) (C : Addr) (fld : Str) : Prop where
  ex : ExcC K C
  xf : XfC K C
  no : PySem.W.findIn K (.ref C) fld = some none
theorem exm_of {K : PySem.W.Frag} {mg : Str → Option Value} {nm : Str} {A C : Addr} {b : Bool} (E : ErC K mg nm C) (h : PySem.W.subIn K (.ref A) (.ref C) = some b) : PySem.W.exmOne K (.ref A) (.ref C) = some b := by
  unfold PySem.W.exmOne PySem.W.kitCls
  rw [if_pos (by rw [E.exB]; rfl)]
  show (if ((PySem.W.clsIn K C).isSome && PySem.W.typeIn K (.ref C) == some (.type "type")) = true then PySem.W.subIn K (.ref A) (.ref C) else none) = _
  rw [if_pos (by rw [E.clI, E.ty]; rfl)]
  exact h
theorem kit_of {K : PySem.W.Frag} {mg : Str → Option Value} {nm : Str} {A C : Addr} {b : Bool} (E : ErC K mg nm C) (h : PySem.W.subIn K (.ref A) (.ref C) = some b) (hn : b = false → (Value.ref A == Value.ref C) = false) : PySem.W.kitOne K (.ref A) (.ref C) = some b := by
  unfold PySem.W.kitOne PySem.W.kitCls
  by_cases e : (Value.ref A == Value.ref C) = true
  · rw [if_pos e]
    cases b with
    | true => rfl
    | false => rw [hn rfl] at e; cases e
  · rw [if_neg e]
    show (if ((PySem.W.clsIn K C).isSome && PySem.W.typeIn K (.ref C) == some (.type "type")) = true then PySem.W.subIn K (.ref A) (.ref C) else none) = _
    rw [if_pos (by rw [E.clI, E.ty]; rfl)]
    exact h
abbrev TX : XK := fun _ _ _ => True
def exW (c0 : Gc) (β : BInv) (W : WX) (g : G) (H : Hp) (ρ : Env') (σ : L2.St) : Nat → List AV → Prop := fun c xs => ∀ g' H' C d us, Ext g g' H H' → Rel c0 β g' ρ σ H' → c0.mg (c0.ct c).1 = some (.ref C) → H' d = some (.xd ((c0.ct c).2.zip us)) → us.length = (c0.ct c).2.length → RepsG c0 g' H' xs us → W (.ref C) (some d) σ H'
def rdX (c0 : Gc) (β : BInv) (W : WX) (m : Env' → T AV) : TE := fun σ H Q => ∃ g ρ, Rel c0 β g ρ σ H ∧ (m ρ).all (fun t => ∀ g' H', Ext g g' H H' → ∀ v, Rel c0 β g' ρ σ H' → RepG c0 g' H' t v → Q v H') (exW c0 β W g H ρ σ)
def rdXS (c0 : Gc) (β : BInv) (W : WX) (m : Env' → T Env') : TS := fun D σ H => ∃ g ρ, Rel c0 β g ρ σ H ∧ (m ρ).all (fun ρ' => ∀ g' H', Ext g g' H H' → ∀ σ', Rel c0 β g' ρ' σ' H' → D.nx σ' H') (exW c0 β W g H ρ σ)
def JX (X : Cx) (ct : CT) (β : BInv) (e : Expr) (m : Env' → T AV) : Prop := ∀ (W : WX) (pn : List (Addr × Obj)) (xe : Value → Shared → Prop), Takes (X.tr pn xe) W → PE (X.tr pn xe) e (rdX (gc X ct) β W m)
def JB (X : Cx) (ct : CT) (β : BInv) (b : List Stmt) (m : Env' → T Env') : Prop := ∀ (W : WX) (pn : List (Addr × Obj)) (xe : Value → Shared → Prop), Takes (X.tr pn xe) W → PSs (X.tr pn xe) b (rdXS (gc X ct) β W m)
noncomputable def envB (a b : Env') : Bool := @decide (a = b) (Classical.propDecidable _)
theorem envB_self {a : Env'} : envB a a = true := @decide_eq_true _ (Classical.propDecidable _) rfl
theorem envB_eq {a b : Env'} (h : envB a b = true) : a = b := @of_decide_eq_true _ (Classical.propDecidable _) h
noncomputable def mSame {α γ : Type} (q : T (α × Env')) (ρ : Env') (k : α → T γ) : T γ := q.bind fun p => if envB p.2 ρ = true then k p.1 else .bad
theorem mSame_all {α γ : Type} {q : T (α × Env')} {ρ : Env'} {k : α → T γ} {P : γ → Prop} {E : Nat → List AV → Prop} (h : (mSame q ρ k).all P E) : q.all (fun p => p.2 = ρ ∧ (k p.1).all P E) fun _ _ => True := by
  refine T.all_mono (T.all_bind.mp h) (fun p z => ?_) fun _ _ _ => trivial
  by_cases e : envB p.2 ρ = true
  · exact ⟨envB_eq e, by rwa [if_pos e] at z⟩
  · rw [if_neg e] at z
    exact (show False from z).elim
noncomputable def mArgs (fk : SemL) (fn : List AV → T AV) : Env' → T AV := fun ρ => mSame (fk ρ) ρ fn
noncomputable def mIfX (fc : SemB) (a b : Env' → T AV) : Env' → T AV := fun ρ => mSame (fc ρ) ρ fun c => if c = true then a ρ else b ρ
noncomputable def mIfS (fc : SemB) (a b : Env' → T Env') : Env' → T Env' := fun ρ => mSame (fc ρ) ρ fun c => if c = true then a ρ else b ρ
def mDrop (m : Env' → T AV) : Env' → T Env' := fun ρ => (m ρ).bind fun _ => .ret ρ
section
variable {X : Cx} {ct : CT} {β : BInv} {a b c e : Expr} {es : List Expr} {fk : SemL} {pos p pos' pos2 : Pos} {lv n : Nat} {ps : List Str} {fn : List AV → T AV} {x : Str}
theorem jx_makeG {cc : Nat} (hex : ∃ C fa fd, Mk X.K C fa ∧ FnOk X.prog X.w X.K X.mg X.base (L2.CX X.prog X.w) lv fa fd ps (spI (gc X ct) β n cc fn) ∧ X.mg x = some (.ref C) ∧ Binds X.K fd ps []) (nm : (ct cc).1 = x) (len : ∀ ts : List AV, T.all (fun _ => True) (fun _ _ => True) (fn ts) → ts.length = n) (hr : Room (lv + 1) X.A) (hg : Gl X x)
    (ha : ∀ pn xe, JL (X.tr pn xe) ct β TX (e :: es) fk) (hdb : (x == ("__debug__" : Str)) = false := by decide +kernel)
    (he : ∀ pn xe, starEach (e :: es) (X.tr pn xe).env = (false, eval e (X.tr pn xe).env) :: starEach es (X.tr pn xe).env := by intros; rfl) (hpl : ∀ pn xe, (backTo pos (starEach es (X.tr pn xe).env)).any (·.1) = false := by intros; rfl) :
    JX X ct β (.Call (.Name x p) (e :: es) [] pos) (mArgs fk fn) := fun W pn xe tkW => by
  obtain ⟨C0, fa, fd, M, F, hm, hb⟩ := hex
  refine PE.imp (pe_makeS (X := X.tr pn xe) M F hr hg hm hb .nil (fun σ => passAt tkW σ) (ha pn xe) hdb (he pn xe) (hpl pn xe)) fun σ H Q h => ?_
  obtain ⟨g, ρ, R, h⟩ := h
  refine ⟨g, ρ, R, T.all_mono (mSame_all h) (fun q z g1 H1 e1 vs R1 rv a dx na nd hne => ?_) fun _ _ _ _ _ _ _ _ _ _ _ _ _ _ => trivial⟩
  obtain ⟨hq, h1⟩ := z
  rw [hq] at R1
  have hC : (gc X ct).mg ((gc X ct).ct cc).1 = some (.ref C0) := by
    show X.mg (ct cc).1 = _
    rw [nm]
    exact hm
  exact make_spX hC R1 rv (len _ (T.all_mono h1 (fun _ _ => trivial) fun _ _ _ => trivial)) na nd hne (T.all_mono h1 (fun t z g' H' e' v R' rt => z g' H' (e1.trans e') v R' rt) fun c xs z g' H' C d us e' R' hm' hd' hl' rx => z g' H' C d us (e1.trans e') R' hm' hd' hl' rx)
theorem jx_make {cc : Nat} (D : Cf X.prog X.w X.K X.mg X.base ct β lv x cc n ps fn) (hr : Room (lv + 1) X.A) (ha : ∀ pn xe, JL (X.tr pn xe) ct β TX (e :: es) fk) (hg : Gl X x := by rfl) (hdb : (x == ("__debug__" : Str)) = false := by decide +kernel)
    (he : ∀ pn xe, starEach (e :: es) (X.tr pn xe).env = (false, eval e (X.tr pn xe).env) :: starEach es (X.tr pn xe).env := by intros; rfl) (hpl : ∀ pn xe, (backTo pos (starEach es (X.tr pn xe).env)).any (·.1) = false := by intros; rfl) :
    JX X ct β (.Call (.Name x p) (e :: es) [] pos) (mArgs fk fn) := jx_makeG D.ex D.nm D.len hr hg ha hdb he hpl
theorem jb_expr {m : Env' → T AV} (h : JX X ct β e m) (hsw : ∀ pn xe, swapsWith e none pos.line (X.tr pn xe).env = pure false := by intros; rfl) : JB X ct β [.Expr e pos] (mDrop m) := fun W pn xe tkW => by
  refine PSs.imp (pss_cons (ps_expr (h W pn xe tkW) (hsw pn xe)) pss_nil) fun D σ H h => ?_
  obtain ⟨g, ρ, R, h⟩ := h
  exact ⟨g, ρ, R, T.all_mono (T.all_bind.mp h) (fun t z g' H' e' v R' rt => z g' H' e' _ R') fun c xs z => z⟩
end
noncomputable def sTryB (m : Env' → T Env') (sub : Nat → Bool) (hnd : Nat → List AV → SSem) : SSem := fun ρ => tryT (m ρ) (fun ρ' => .ret (.nx ρ')) fun c xs => if sub c then hnd c xs ρ else .exc c xs
section
variable {X : Cx} {ct : CT} {β : BInv} {Ex : XK} {pos' np posT : Pos} {b₀ : Stmt} {suite body : List Stmt}
theorem js_tryB {x n : Str} {i : Nat} {c : Value} {m : Env' → T Env'} {sub : Nat → Bool} {hnd : Nat → List AV → SSem} {ts : Addr → Value → Option Addr → TS}
    (hs : X.stack = X.env :: X.outer) (hf : X.env.frame = some X.env.locals) (hN : X.N.Nodup) (hi : X.N[i]? = some n) (hln : X.env.kindOf n = some .local) (hc : Names X x c) (tk : Takes X (fun cls d _ H => Ex cls d H))
    (hb : JB X ct β body m)
    (hsub : ∀ k C, X.mg (ct k).1 = some (.ref C) → PySem.W.exmOne X.K (.ref C) c = some (sub k))
    (hsu : ∀ (a : Addr) (oe : Obj) (cls : Value) (d : Option Addr) (pn : List (Addr × Obj)), Zc cls d oe → (∃ vs, oe.data = .fields vs) → PSs (X.suite a ((a, oe) :: pn)) (b₀ :: suite) (ts a cls d))
    (hts : ∀ (k : Nat) (xs : List AV) (g : G) (H : Hp) (C d : Addr) (us : List V) (ρ : Env') (σ : L2.St) (a : Addr) (D : Ends), sub k = true → Rel (gc X ct) β g ρ σ H → X.mg (ct k).1 = some (.ref C) → H d = some (.xd ((ct k).2.zip us)) → us.length = (ct k).2.length → RepsG (gc X ct) g H xs us → okT (gc X ct) β Ex g H (hnd k xs ρ) (endOk (gc X ct) β D) → H a = none →
      ts a (.ref C) (some d) { nx := fun σ' H' => D.nx (σ'.set i none) H', rt := D.rt, bk := fun σ' H' => D.bk (σ'.set i none) H', ct := fun σ' H' => D.ct (σ'.set i none) H' } (σ.set i (some (.ref a))) H) :
    JS X ct β Ex (.Try body [.ExceptHandler (some (.Name x np)) (some n) (b₀ :: suite) pos'] [] [] posT) (sTryB m sub hnd) := by
  refine PS.imp (ps_try_as (tb := fun W => rdXS (gc X ct) β W m) (ts := ts) hs hf hN hi hln hc tk (fun W pn xe tkW _ => hb W pn xe tkW) hsu) fun D σ H h => ?_
  obtain ⟨g, ρ, R, h⟩ := h
  refine ⟨g, ρ, R, T.all_mono (tryT_all h) (fun ρ' z g' H' e σ' R' => ?_) fun k xs q2 g' H' C d us e' R' hm' hd' hl' rx => ?_⟩
  · have z : okT (gc X ct) β Ex g H (.ret (.nx ρ')) (endOk (gc X ct) β D) := z
    exact okT_ret (okT_ext z e) σ' R'
  · refine ⟨sub k, hsub k C hm', fun hb1 a na => ?_, fun hb0 => ?_⟩
    · have q3 : okT (gc X ct) β Ex g H (if sub k = true then hnd k xs ρ else .exc k xs) (endOk (gc X ct) β D) := q2
      rw [if_pos hb1] at q3
      exact hts k xs g' H' C d us ρ σ a D hb1 R' hm' hd' hl' rx (okT_ext q3 e') na
    · have q3 : okT (gc X ct) β Ex g H (if sub k = true then hnd k xs ρ else .exc k xs) (endOk (gc X ct) β D) := q2
      rw [if_neg (by rw [hb0]; decide)] at q3
      have q4 : ∀ g' H' C d vs, Ext g g' H H' → β.I g'.B g'.D H' → (gc X ct).mg ((gc X ct).ct k).1 = some (.ref C) → H' d = some (.xd (((gc X ct).ct k).2.zip vs)) → vs.length = ((gc X ct).ct k).2.length → RepsG (gc X ct) g' H' xs vs → Ex (.ref C) (some d) H' := q3
      exact q4 g' H' C d us e' R'.box hm' hd' hl' rx
end
theorem tryT_bind {α γ δ : Type} {m : T α} {k : α → T γ} {h : Nat → List AV → T γ} {f : γ → T δ} : (tryT m k h).bind f = tryT m (fun a => (k a).bind f) fun c xs => (h c xs).bind f := by
  induction m with
  | ret a => rfl
  | bad => rfl
  | exc c xs => rfl
  | draw n g ih => exact congrArg (T.draw n) (funext fun r => ih r)
theorem sTryB_b {γ : Type} {m : Env' → T Env'} {sub : Nat → Bool} {hnd : Nat → List AV → SSem} {ρ : Env'} {f : Out → T γ} : (sTryB m sub hnd ρ).bind f = tryT (m ρ) (fun ρ' => f (.nx ρ')) fun c xs => if sub c then (hnd c xs ρ).bind f else .exc c xs := by
  unfold sTryB
  rw [tryT_bind]
  refine congrArg _ (funext fun c => funext fun xs => ?_)
  by_cases h : sub c = true
  · rw [if_pos h, if_pos h]
  · rw [if_neg h, if_neg h]; rfl
theorem mDrop_b {m : Env' → T AV} {ρ : Env'} : mDrop m ρ = (m ρ).bind fun _ => .ret ρ := rfl
theorem mArgs_b {fk : SemL} {fn : List AV → T AV} {ρ : Env'} : mArgs fk fn ρ = (fk ρ).bind fun p => if envB p.2 ρ = true then fn p.1 else .bad := rfl
theorem mArgs_bb {γ : Type} {fk : SemL} {fn : List AV → T AV} {ρ : Env'} {f : AV → T γ} : (mArgs fk fn ρ).bind f = (fk ρ).bind fun p => if envB p.2 ρ = true then (fn p.1).bind f else .bad := by
  rw [mArgs_b, T.bind_assoc]
  refine congrArg _ (funext fun p => ?_)
  by_cases h : envB p.2 ρ = true
  · rw [if_pos h, if_pos h]
  · rw [if_neg h, if_neg h]; rfl
theorem mIfX_b {fc : SemB} {a b : Env' → T AV} {ρ : Env'} : mIfX fc a b ρ = (fc ρ).bind fun p => if envB p.2 ρ = true then (if p.1 = true then a ρ else b ρ) else .bad := rfl
theorem mIfS_b {fc : SemB} {a b : Env' → T Env'} {ρ : Env'} : mIfS fc a b ρ = (fc ρ).bind fun p => if envB p.2 ρ = true then (if p.1 = true then a ρ else b ρ) else .bad := rfl
theorem pss_handE {X : Cx} {a : Addr} {oe : Obj} {cls : Value} {d : Option Addr} {pn : List (Addr × Obj)} {n x A B f o : Str} {i j k : Nat} {CA CB : Addr} {p1 p2 p3 p4 p5 p6 p7 p8 p9 p10 p11 p12 p13 p14 p15 p16 : Pos} (hz : Zc cls d oe) (hf : ∃ vs, oe.data = .fields vs)
    (hN : X.N.Nodup) (hi : X.N[i]? = some n) (hj : X.N[j]? = some x) (hvn : Vis X.env.scope n) (hlx : Loc X.env.scope x) (hfx : X.fn x = true ∨ X.env.scope.names.lookup x = some .local) (hgi : Gl X "isinstance") (hmi : X.mg "isinstance" = none) (hgA : Gl X A) (hmA : X.mg A = some (.ref CA)) (hgB : Gl X B) (hmB : X.mg B = some (.ref CB))
    (dn : (n == ("__debug__" : Str)) = false) (cn : (n == ("__classdict__" : Str)) = false) (dA : (A == ("__debug__" : Str)) = false) (dB : (B == ("__debug__" : Str)) = false)
    (hb : ∀ env : Env, attributeBase (.Name n p9) f env (eval (.Name n p9) env) = eval (.Name n p9) env) (hsw : ∀ (env : Env) (v : Expr), swapsWith (.IfExp (.BoolOp .And [.Call (.Name "isinstance" p1) [.Name n p2, .Name A p3] [] p4, .UnaryOp .Not (.Call (.Name "isinstance" p5) [.Name n p6, .Name B p7] [] p8) p12] p13) (.Attribute (.Name n p9) f p10) v p11) (some (.Name x p14)) p16.line env = pure false) :
    PSs (X.suite a ((a, oe) :: pn)) [.Assign [.Name x p14] (.IfExp (.BoolOp .And [.Call (.Name "isinstance" p1) [.Name n p2, .Name A p3] [] p4, .UnaryOp .Not (.Call (.Name "isinstance" p5) [.Name n p6, .Name B p7] [] p8) p12] p13) (.Attribute (.Name n p9) f p10) (.Constant (.str o) k p15) p11) p16] (tsE X.K i j CA CB f o a cls d) := by
  unfold tsE
  have en : ∀ p, PE (X.suite a ((a, oe) :: pn)) (.Name n p) (tVar i) := fun p => pe_var (X := X.suite a ((a, oe) :: pn)) hi hvn dn cn
  refine pss_cons (ps_set (X := X.suite a ((a, oe) :: pn)) hN hj hlx (pe_ifExp (pw_and (pt_val (pe_callB (call_isX hz hf) hgi hmi (by decide +kernel) (pa_cons (en p2) (pa_cons (C8.pe_gc (v := .ref CA) hgA ⟨_, hmA, (rfl : RelV (.ref CA) (.ref CA))⟩ dA) pa_nil)) (by decide +kernel) (by decide +kernel))) (pw_and1 (pt_not (pt_val (pe_callB (call_isX hz hf) hgi hmi (by decide +kernel) (pa_cons (en p6) (pa_cons (C8.pe_gc (v := .ref CB) hgB ⟨_, hmB, (rfl : RelV (.ref CB) (.ref CB))⟩ dB) pa_nil)) (by decide +kernel) (by decide +kernel)))))).pt (pe_xfX hz hf (en p9) (hb _)) pe_str) (hsw _ _) hfx) pss_nil
def mulS (x : Str) (n : Int) : Str := if n < 1 then Str.empty else if (n == 1 || x.length == 0) = true then x else ⟨(List.replicate n.toNat x.cps).foldl (· ++ ·) #[]⟩
theorem foldl_app_size {α : Type} : ∀ (l : List (Array α)) (acc : Array α) (c : Nat), (∀ a ∈ l, a.size ≤ c) → (l.foldl (· ++ ·) acc).size ≤ acc.size + c * l.length
  | [], acc, c, _ => by simp
  | a :: r, acc, c, h => by
    have ih := foldl_app_size r (acc ++ a) c fun b hb => h b (List.mem_cons_of_mem _ hb)
    have ha := h a List.mem_cons_self
    rw [Array.size_append] at ih
    show (r.foldl (· ++ ·) (acc ++ a)).size ≤ _
    rw [List.length_cons, Nat.mul_succ]
    omega
theorem op_mulS {X : Cx} : OpR X (binaryOp .Mult) (fun x y H Q => ∃ s k, x = .str s ∧ y = .int k ∧ 0 ≤ k ∧ k ≤ 1000 ∧ s.length ≤ 1000 ∧ Q (.str (mulS s k)) H) := by
  intro pins s σ H x y v u Q I rx ry h
  obtain ⟨i, k, rfl, rfl, h0, h1, h2, q⟩ := h
  obtain ⟨t, rfl⟩ := rx
  obtain ⟨t', rfl⟩ := ry
  have hk : k.toNat ≤ 1000 := by omega
  have hz : i.length * k.toNat ≤ 1000 * 1000 := Nat.mul_le_mul h2 hk
  refine P.mul_str (by rw [decide_eq_false (by omega), decide_eq_false (by omega)]; rfl) (fun a b => ?_) (fun a b => ?_) ?_
  · intro z
    have e : (i.length : Int) * k ≤ 1000 * 1000 := by
      have : (i.length : Int) * (k.toNat : Int) ≤ ((1000 * 1000 : Nat) : Int) := by exact_mod_cast hz
      rwa [Int.toNat_of_nonneg h0] at this
    have hk0 : 0 < k := by omega
    have f : (2 ^ 63 - 1 : Int) / k ≥ 1000 := by
      refine Int.le_ediv_of_mul_le hk0 ?_
      omega
    have h2' : (i.length : Int) ≤ 1000 := by exact_mod_cast h2
    omega
  · unfold PySem.Builtin.Str.tooLong
    rw [sizeLine_eq]
    exact decide_eq_false (by omega)
  · have fin : ∀ tk', EP X pins σ Q (.str (mulS i k) tk') { s with toks := s.toks + 1 } := fun tk' => ⟨.str (mulS i k), H, I.tok _, ⟨_, rfl⟩, q⟩
    have fin0 : ∀ tk', EP X pins σ Q (.str (mulS i k) tk') s := fun tk' => ⟨.str (mulS i k), H, I, ⟨_, rfl⟩, q⟩
    unfold mulS at fin fin0
    by_cases a : k < 1
    · rw [if_pos a] at fin ⊢
      exact ⟨by decide, fin _⟩
    · rw [if_neg a] at fin fin0 ⊢
      by_cases b : (k == 1 || i.length == 0) = true
      · rw [if_pos b] at fin0 ⊢
        exact fin0 _
      · rw [if_neg b] at fin ⊢
        refine ⟨?_, fin _⟩
        have := foldl_app_size (List.replicate k.toNat i.cps) #[] i.length fun a ha => by
          rw [List.eq_of_mem_replicate ha]
          exact Nat.le_refl _
        rw [List.length_replicate] at this
        show ((List.replicate k.toNat i.cps).foldl (· ++ ·) #[]).size ≤ _
        have e0 : (#[] : Array Nat).size = 0 := rfl
        first
          | omega
          | (rw [sizeLine_eq]; omega)
def pMulS (a b : AV) : Option AV := match a, b with
  | .str x, .int k => if 0 ≤ k ∧ k ≤ 1000 ∧ x.length ≤ 1000 then some (.str (mulS x k)) else none
  | _, _ => none
theorem o_mulS {X : Cx} {ct : CT} : Op2' X ct (fun x y H Q => ∃ s k, x = .str s ∧ y = .int k ∧ 0 ≤ k ∧ k ≤ 1000 ∧ s.length ≤ 1000 ∧ Q (.str (mulS s k)) H) pMulS := by
  intro g H a b z x y Q live ra rb e q
  cases a with
  | str s =>
    cases b with
    | int k =>
      obtain ⟨h, rfl⟩ := ifp_some (show (if 0 ≤ k ∧ k ≤ 1000 ∧ s.length ≤ 1000 then some (AV.str (mulS s k)) else none) = some z from e)
      exact ⟨s, k, ra.str, rb.int, h.1, h.2.1, h.2.2, q _ H (Same.refl H) (by rw [RepG, Rep])⟩
    | _ => cases e
  | _ => cases e
end Dn
set_option Elab.async false
set_option linter.all false
set_option maxRecDepth 100000
set_option maxHeartbeats 0
namespace K03
open PySem PySem.Spec PyProof.Rows L2 Dn
def top (i : Nat) : Stmt := PySem.Challenge.pw_turnrota_k03_rotas_refused.main.body.getD i (.Pass ⟨0, 0, 0, 0⟩)
abbrev s_law_box : Stmt := top 23
abbrev s_law_take : Stmt := top 24
abbrev s_law_mixed : Stmt := top 26
abbrev s_law_rota : Stmt := top 28
abbrev s_law_pick : Stmt := top 25
abbrev s_is_integer : Stmt := top 6
abbrev s_is_whole : Stmt := top 7
abbrev s_is_sequence : Stmt := top 9
abbrev s_is_below : Stmt := top 8
abbrev s_are_spots : Stmt := top 15
abbrev s_is_row : Stmt := top 14
abbrev s_are_rows : Stmt := top 13
abbrev s_Rota_init : Stmt := inClass (top 12) 0
abbrev s_law_heard : Stmt := top 29
abbrev s_law_wrong : Stmt := top 30
abbrev s_law_value : Stmt := top 27
abbrev s_law : Stmt := top 31
abbrev s_InvalidRota___init__ : Stmt := inClass (top 2) 0
structure Bl (mg : Str → Option Value) : Prop where
  n__ : mg "" = none
  n_abs : mg "abs" = none
  n_all : mg "all" = none
  n_bool : mg "bool" = none
  n_int : mg "int" = none
  n_isinstance : mg "isinstance" = none
  n_len : mg "len" = none
  n_list : mg "list" = none
  n_max : mg "max" = none
  n_min : mg "min" = none
  n_range : mg "range" = none
  n_set : mg "set" = none
  n_sorted : mg "sorted" = none
  n_tuple : mg "tuple" = none
def CT0 : CT := fun
  | 0 => ("Rota", ["places", "rows"])
  | 1 => ("InvalidRota", ["word"])
  | _ => ("", [])
structure Tx_Rota (K : PySem.W.Frag) (mg : Str → Option Value) (C : Addr) : Prop where
  mgC : mg "Rota" = some (.ref C)
  cl : Cls K C
  n_places : NoAttr K C "places"
  n_rows : NoAttr K C "rows"
theorem fc_Rota {X : Cx} {C : Addr} {f : Str} (Z : Tx_Rota X.K X.mg C) (h : NoAttr X.K C f) : ∀ C', X.mg (CT0 0).1 = some (.ref C') → Cls X.K C' ∧ NoAttr X.K C' f := fun C' e => by
  have e2 : some (Value.ref C) = some (Value.ref C') := Z.mgC.symm.trans e
  cases e2
  exact ⟨Z.cl, h⟩
theorem fld_Rota_places {X : Cx} {C : Addr} (Z : Tx_Rota X.K X.mg C) : FldOk X CT0 0 0 "places" := ⟨rfl, by decide +kernel, fc_Rota Z Z.n_places⟩
theorem fld_Rota_rows {X : Cx} {C : Addr} (Z : Tx_Rota X.K X.mg C) : FldOk X CT0 0 1 "rows" := ⟨rfl, by decide +kernel, fc_Rota Z Z.n_rows⟩
structure Ers (K : PySem.W.Frag) (mg : Str → Option Value) (C_Rota : Addr) (C_TurnError : Addr) (C_InvalidRota : Addr) (C_InvalidSeason : Addr) : Prop where
  e_TurnError : ErC K mg "TurnError" C_TurnError
  e_InvalidRota : ErC K mg "InvalidRota" C_InvalidRota
  e_InvalidSeason : ErC K mg "InvalidSeason" C_InvalidSeason
  m_InvalidRota : mg "InvalidRota" = some (.ref C_InvalidRota)
  x_InvalidRota : ErX K C_InvalidRota "word"
  s_Rota_InvalidRota : PySem.W.subIn K (.ref C_Rota) (.ref C_InvalidRota) = some false
  s_InvalidRota_InvalidRota : PySem.W.subIn K (.ref C_InvalidRota) (.ref C_InvalidRota) = some true
  s_InvalidRota_TurnError : PySem.W.subIn K (.ref C_InvalidRota) (.ref C_TurnError) = some true
  s_InvalidRota_InvalidSeason : PySem.W.subIn K (.ref C_InvalidRota) (.ref C_InvalidSeason) = some false
  n_InvalidRota_InvalidSeason : (Value.ref C_InvalidRota == Value.ref C_InvalidSeason) = false
def sb_InvalidRota : Nat → Bool := fun k => k == 1
theorem xm_InvalidRota {K : PySem.W.Frag} {mg : Str → Option Value} {C_Rota : Addr} {C_TurnError : Addr} {C_InvalidRota : Addr} {C_InvalidSeason : Addr} (Z_Rota : Tx_Rota K mg C_Rota) (ER : Ers K mg C_Rota C_TurnError C_InvalidRota C_InvalidSeason) (T : Bl mg) : ∀ k C, mg (CT0 k).1 = some (.ref C) → PySem.W.exmOne K (.ref C) (.ref C_InvalidRota) = some (sb_InvalidRota k)
  | 0, C, h => by
    have e : some (Value.ref C_Rota) = some (Value.ref C) := Z_Rota.mgC.symm.trans h
    cases e
    exact exm_of ER.e_InvalidRota ER.s_Rota_InvalidRota
  | 1, C, h => by
    have e : some (Value.ref C_InvalidRota) = some (Value.ref C) := ER.m_InvalidRota.symm.trans h
    cases e
    exact exm_of ER.e_InvalidRota ER.s_InvalidRota_InvalidRota
  | k + 2, C, h => by
    have e : none = some (Value.ref C) := T.n__.symm.trans h
    cases e
abbrev BB : BInv := BoxI okA
abbrev f_law_box : List AV → T AV := fBox
abbrev f_law_take : List AV → T AV := fDraw
abbrev FUEL : Nat := 1000
noncomputable section
variable {P : Program} {w : World} {K : PySem.W.Frag} {mg : Str → Option Value} {base : Heap}
theorem scBox : FnScope ["_law_script", "_law_k", "_law_own", "_law_cell", "_law_seed"] ["_law_script", "_law_k", "_law_own"] (defScope s_law_box) := ⟨rfl, rfl, rfl, by decide +kernel, rfl, by decide +kernel, by decide +kernel⟩
theorem ok_box {f : Addr} {fd : FuncData} (F : Fun K "_law_box" "_law_box" s_law_box f fd) (T : Bl mg) : FnOk P w K mg base CX0 1 f fd ["_law_script", "_law_k", "_law_own"] (spBoxS K okA) := by
  refine F.ok scBox (fun vs H Q E h => ?_) (fun cdv A outer s H vs Q E hr h => ?_)
  · obtain ⟨a, k, o, ns, rfl, _⟩ := h
    rfl
  · obtain ⟨a, k, o, ns, rfl, hs, hk, ho, q⟩ := h
    refine ⟨_, pss_cons (ps_set (i := 3) scBox.nd rfl (.inl rfl) (pe_op op_add (pe_op op_add (pe_op op_mul pe_int (pv 1)) (pe_op op_mul pe_int (pv 2))) pe_int))
      (pss_cons (ps_if (pt_cmpR op_lt (pv 1) (pe_callB call_len_seq (by rfl) T.n_len PySem.boot_len (pa_cons (pv 0) pa_nil)) (nomark _))
        (pss_one (ps_set (i := 3) scBox.nd rfl (.inl rfl) (pe_callB call_abs (by rfl) T.n_abs (by decide +kernel) (pa_cons (pe_ix ix_list (pv 0) (pv 1) (fun _ _ => rfl)) pa_nil))))
        (pss_one (ps_if (pt_cmpR op_gt (pe_callB call_len_seq (by rfl) T.n_len PySem.boot_len (pa_cons (pv 0) pa_nil)) pe_int (nomark _))
          (pss_one (ps_set (i := 3) scBox.nd rfl (.inl rfl) (pe_op op_add (pv 3) (pe_op op_mul (pe_op op_mod (pe_callTy call_int1 (by rfl) T.n_int (by decide +kernel) (pa_cons (pe_callB call_abs (by rfl) T.n_abs (by decide +kernel)
            (pa_cons (pe_ix ix_list (pv 0) (pe_op op_mod (pe_callTy call_int1 (by rfl) T.n_int (by decide +kernel) (pa_cons (pv 1) pa_nil)) (pe_callB call_len_seq (by rfl) T.n_len PySem.boot_len (pa_cons (pv 0) pa_nil))) (fun _ _ => rfl)) pa_nil)) pa_nil)) pe_int) pe_int))))
          pss_nil)))
      (pss_cons (ps_set (i := 4) scBox.nd rfl (.inl rfl) (pe_op op_add (pe_op op_mod (pe_callTy call_int1 (by rfl) T.n_int (by decide +kernel) (pa_cons (pe_op op_add (pe_op op_mul (pe_op op_mod (pe_callTy call_int1 (by rfl) T.n_int (by decide +kernel) (pa_cons (pv 3) pa_nil)) pe_int) pe_int)
          (pe_op op_mul pe_int (pe_op op_add (pv 1) (pe_op op_mul pe_int (pv 2))))) pa_nil)) pe_int) pe_int))
      (pss_one (ps_ret (pe_lst (pa_cons (pe_ix ix_list (pe_lst (pa_cons pe_int (pa_cons (pv 3) pa_nil))) (pe_callTy call_int1 (by rfl) T.n_int (by decide +kernel) (pa_cons (pe_cmpR op_ge (pv 3) (pe_op op_pow pe_int pe_int) (nomark _)) pa_nil)) (fun _ _ => rfl)) (pa_cons (pv 4) (pa_cons pe_int pa_nil)))))))), ?_⟩
    -- the end, from any cell that is no negative number
    have fin : ∀ (c : Int), 0 ≤ c → (∀ (D : Ends), D = { nx := fun _ H' => Q .non H', rt := Q } → tSeq (tAsg (tOp (rI0 fun i j => .int (i + j)) (tOp (rI (fun _ j => 0 < j) fun i j => .int (i % j)) (tCB (fun xs H Q => (∃ i, xs = [.int i] ∧ Q (.int i) H) ∨ ∃ k, xs = [.bl k] ∧ Q (.int (if k then 1 else 0)) H) (tCons (tOp (rI0 fun i j => .int (i + j)) (tOp (rI CMul fun i j => .int (i * j)) (tOp (rI (fun _ j => 0 < j) fun i j => .int (i % j)) (tCB (fun xs H Q => (∃ i, xs = [.int i] ∧ Q (.int i) H) ∨ ∃ k, xs = [.bl k] ∧ Q (.int (if k then 1 else 0)) H) (tCons (tVar 3) tNil)) (tC (.int 2147483629))) (tC (.int 48271))) (tOp (rI CMul fun i j => .int (i * j)) (tC (.int 40692)) (tOp (rI0 fun i j => .int (i + j)) (tVar 1) (tOp (rI CMul fun i j => .int (i * j)) (tC (.int 11)) (tVar 2))))) tNil)) (tC (.int 2147483629))) (tC (.int 1))) (gName 4))
        (tRet (tLst (tCons (tOp (rIxL K) (tLst (tCons (tC (.int 0)) (tCons (tVar 3) tNil))) (tCB (fun xs H Q => (∃ i, xs = [.int i] ∧ Q (.int i) H) ∨ ∃ k, xs = [.bl k] ∧ Q (.int (if k then 1 else 0)) H) (tCons (tOp (rI0 fun i j => .bl (decide (j ≤ i))) (tVar 3) (tOp (rI CPow fun i j => .int (i ^ j.toNat)) (tC (.int 10)) (tC (.int 18)))) tNil))) (tCons (tVar 4) (tCons (tC (.int 0)) tNil))))) D [some (.ref a), some (.int k), some (.int o), some (.int c), none] H) := by
      intro c hc D hD
      subst hD
      refine ⟨_, rfl, .inl ⟨_, rfl, _, _, rfl, rfl, (by decide : (0 : Int) < 2147483629), _, _, rfl, rfl, .inr ⟨by decide, by decide⟩, _, rfl, _, rfl, _, _, rfl, rfl, .inl ⟨by decide, by decide⟩, _, _, rfl, rfl, _, _, rfl, rfl, .inl ⟨by decide, by decide⟩, _, _, rfl, rfl, .inl ⟨_, rfl, _, _, rfl, rfl, (by decide : (0 : Int) < 2147483629), _, _, rfl, rfl, ?_⟩⟩⟩
      refine ⟨_, rfl, (by show 2 ≤ sizeLine; decide), fun p np => ⟨_, rfl, _, _, rfl, rfl, ⟨by decide, by decide, by decide⟩, _, _, rfl, rfl, .inr ⟨_, rfl, p, [.int 0, .int c], (if decide ((10 : Int) ^ (18 : Int).toNat ≤ c) = true then 1 else 0), ?_⟩⟩⟩
      have sp : Same H (upd H p (.lst [.int 0, .int c])) := same_new np
      by_cases hb : ((10 : Int) ^ (18 : Int).toNat) ≤ c
      · refine ⟨.int c, rfl, rfl, SqL.of upd_same, ?_, _, rfl, (by show 3 ≤ sizeLine; decide), fun D nD => ?_⟩
        · rw [decide_eq_true hb]
          rfl
        · refine q D _ (sp.free nD) (sp.trans (same_new nD)) ⟨_, upd_same, c, _, 0, rfl, hc, ?_, ?_⟩
          · have := Int.emod_nonneg (c % 2147483629 * 48271 + 40692 * (k + 11 * o)) (by decide : (2147483629 : Int) ≠ 0)
            omega
          · have := Int.emod_lt_of_pos (c % 2147483629 * 48271 + 40692 * (k + 11 * o)) (by decide : (0 : Int) < 2147483629)
            omega
      · refine ⟨.int 0, rfl, rfl, SqL.of upd_same, ?_, _, rfl, (by show 3 ≤ sizeLine; decide), fun D nD => ?_⟩
        · rw [decide_eq_false hb]
          rfl
        · refine q D _ (sp.free nD) (sp.trans (same_new nD)) ⟨_, upd_same, 0, _, 0, rfl, Int.le_refl _, ?_, ?_⟩
          · have := Int.emod_nonneg (c % 2147483629 * 48271 + 40692 * (k + 11 * o)) (by decide : (2147483629 : Int) ≠ 0)
            omega
          · have := Int.emod_lt_of_pos (c % 2147483629 * 48271 + 40692 * (k + 11 * o)) (by decide : (0 : Int) < 2147483629)
            omega
    refine ⟨_, rfl, _, _, rfl, rfl, .inl ⟨by decide, by decide⟩, _, rfl, _, _, rfl, rfl, .inl ⟨by decide, by decide⟩, _, _, rfl, rfl, _, _, rfl, rfl, ?_⟩
    refine ⟨_, rfl, _, rfl, a, _, rfl, .inl hs, _, _, rfl, rfl, _, rfl, ?_⟩
    have habs : ∀ i : Int, 0 ≤ (if i < 0 then -i else i) := fun i => by
      split <;> omega
    rw [List.length_map]
    by_cases hlt : k < (ns.length : Int)
    · rw [decide_eq_true hlt]
      have hg : k.toNat < ns.length := by omega
      refine iteT ⟨_, rfl, _, rfl, a, _, _, .int ns[k.toNat], rfl, rfl, hs, at_int hk ?_, _, rfl, ?_⟩
      · rw [List.getElem?_map, List.getElem?_eq_getElem hg]
        rfl
      · exact fin _ (habs _) _ rfl
    · rw [decide_eq_false hlt]
      refine iteF ⟨_, rfl, a, _, rfl, .inl hs, _, _, rfl, rfl, _, rfl, ?_⟩
      rw [List.length_map]
      by_cases h0 : (0 : Int) < (ns.length : Int)
      · rw [decide_eq_true h0]
        have hm0 := Int.emod_nonneg k (show (ns.length : Int) ≠ 0 by omega)
        have hm1 := Int.emod_lt_of_pos k h0
        have hg : (k % (ns.length : Int)).toNat < ns.length := by omega
        refine iteT ⟨_, rfl, _, rfl, _, rfl, .inl ⟨_, rfl, _, rfl, a, _, rfl, .inl hs, _, _, rfl, rfl, ?_⟩⟩
        rw [List.length_map]
        refine ⟨h0, a, _, _, .int ns[(k % (ns.length : Int)).toNat], rfl, rfl, hs, at_int hm0 ?_, _, rfl, .inl ⟨_, rfl, _, _, rfl, rfl, (by decide : (0 : Int) < 2147483629), _, _, rfl, rfl, .inr ⟨by decide, by decide⟩, _, _, rfl, rfl, ?_⟩⟩
        · rw [List.getElem?_map, List.getElem?_eq_getElem hg]
          rfl
        · refine fin _ ?_ _ rfl
          have := Int.emod_nonneg (if ns[(k % (ns.length : Int)).toNat] < 0 then -ns[(k % (ns.length : Int)).toNat] else ns[(k % (ns.length : Int)).toNat]) (by decide : (2147483629 : Int) ≠ 0)
          omega
      · rw [decide_eq_false h0]
        refine iteF (fin _ ?_ _ rfl)
        omega
theorem scTake : FnScope ["_law_box_here", "_law_bound", "_law_digit", "_law_raw", "_law_wide"] ["_law_box_here", "_law_bound"] (defScope s_law_take) := ⟨rfl, rfl, rfl, by decide +kernel, rfl, by decide +kernel, by decide +kernel⟩
theorem ok_take {f : Addr} {fd : FuncData} (F : Fun K "_law_take" "_law_take" s_law_take f fd) (T : Bl mg) : FnOk P w K mg base CX0 1 f fd ["_law_box_here", "_law_bound"] (spDraw okA) := by
  refine F.ok scTake (fun vs H Q E h => ?_) (fun cdv A outer s H vs Q E hr h => ?_)
  · obtain ⟨D, b, l, rfl, _⟩ := h
    rfl
  · obtain ⟨D, b, l, rfl, hD, ⟨c, s, t, rfl, hB⟩, hb, hb2, q⟩ := h
    refine ⟨_, pss_cons (ps_if (pt_cmpR op_gt (pe_ix ix_list (pv 0) pe_int (fun _ _ => rfl)) pe_int (nomark _))
        (pss_cons (ps_set (i := 2) scTake.nd rfl (.inl rfl) (pe_op op_mod (pe_callTy call_int1 (by rfl) T.n_int (by decide +kernel) (pa_cons (pe_ix ix_list (pv 0) pe_int (fun _ _ => rfl)) pa_nil)) (pv 1)))
        (pss_cons (ps_asg (pe_op op_fdivW (pe_ix ix_list (pv 0) pe_int (fun _ _ => rfl)) (pv 1)) (pg_sub (pv 0) pe_int set_list))
        (pss_one (ps_ret (pv 2))))) pss_nil)
      (pss_cons (ps_asg (pe_op op_add (pe_ix ix_list (pv 0) pe_int (fun _ _ => rfl)) pe_int) (pg_sub (pv 0) pe_int set_list))
      (pss_cons (ps_set (i := 3) scTake.nd rfl (.inl rfl) (pe_op op_mod (pe_callTy call_int1 (by rfl) T.n_int (by decide +kernel) (pa_cons (pe_op op_mul (pe_op op_add (pe_ix ix_list (pv 0) pe_int (fun _ _ => rfl)) (pe_op op_mul pe_int (pe_ix ix_list (pv 0) pe_int (fun _ _ => rfl)))) pe_int) pa_nil)) pe_int))
      (pss_cons (ps_asg (pe_op op_add (pe_op op_mod (pe_callTy call_int1 (by rfl) T.n_int (by decide +kernel) (pa_cons (pe_op op_add (pe_op op_mul (pv 3) pe_int) pe_int) pa_nil)) pe_int) pe_int) (pg_sub (pv 0) pe_int set_list))
      (pss_cons (ps_if (pt_cmpR op_lt (pv 1) (pe_op op_pow pe_int pe_int) (nomark _))
        (pss_one (ps_ret (pe_op op_mod (pe_callTy call_int1 (by rfl) T.n_int (by decide +kernel) (pa_cons (pe_op op_fdiv (pe_op op_add (pe_op op_mul (pv 3) pe_int) (pe_ix ix_list (pv 0) pe_int (fun _ _ => rfl))) pe_int) pa_nil)) (pv 1)))) pss_nil)
      (pss_cons (ps_set (i := 4) scTake.nd rfl (.inl rfl) (pe_op op_mul (pe_op op_add (pe_op op_mul (pv 3) pe_int) (pe_ix ix_list (pv 0) pe_int (fun _ _ => rfl))) (pe_op op_pow pe_int pe_int)))
      (pss_one (ps_ret (pe_op op_mod (pe_callTy call_int1 (by rfl) T.n_int (by decide +kernel) (pa_cons (pe_op op_add (pe_op op_add (pv 4) (pe_op op_mul (pe_op op_pow (pe_ix ix_list (pv 0) pe_int (fun _ _ => rfl)) pe_int) pe_int)) (pv 3)) pa_nil)) (pv 1))))))))), ?_⟩
    have hbp : (0 : Int) < b := by omega
    refine ⟨_, rfl, D, boxV c s t, 0, .int c, rfl, rfl, SqL.of hD, rfl, _, _, rfl, rfl, _, rfl, ?_⟩
    by_cases hc : 0 < c
    · rw [decide_eq_true hc]
      refine iteT ⟨_, rfl, D, boxV c s t, 0, .int c, rfl, rfl, SqL.of hD, rfl, .inl ⟨_, rfl, _, rfl, _, _, rfl, rfl, hbp, ?_⟩⟩
      refine ⟨_, rfl, D, boxV c s t, 0, .int c, rfl, rfl, SqL.of hD, rfl, _, rfl, _, _, rfl, rfl, wide_div (b := 64) hbp (by omega) (by decide) (by decide), ?_⟩
      refine ⟨_, rfl, D, boxV c s t, 0, 0, rfl, rfl, hD, rfl, _, rfl, ?_⟩
      exact q (c % b) (boxV (c / b) s t) (Int.emod_nonneg _ (by omega)) (Int.emod_lt_of_pos _ hbp) ⟨_, _, _, rfl, Int.ediv_nonneg hB.c0 (by omega), hB.s1, hB.s2⟩
    · rw [decide_eq_false hc]
      refine iteF ?_
      have h1 : (upd H D (.lst ((boxV c s t).set 2 (.int (t + 1))))) D = some (.lst (boxV c s (t + 1))) := upd_same
      refine ⟨_, rfl, D, boxV c s t, 2, .int t, rfl, rfl, SqL.of hD, rfl, _, _, rfl, rfl, _, rfl, D, boxV c s t, 2, 2, rfl, rfl, hD, rfl, ?_⟩
      refine ⟨_, rfl, D, boxV c s (t + 1), 1, .int s, rfl, rfl, SqL.of h1, rfl, _, rfl, D, boxV c s (t + 1), 2, .int (t + 1), rfl, rfl, SqL.of h1, rfl, _, _, rfl, rfl, .inl ⟨by decide, by decide⟩, _, _, rfl, rfl, _, _, rfl, rfl, .inr ⟨by decide, by decide⟩, .inl ⟨_, rfl, _, _, rfl, rfl, (by decide : (0 : Int) < 2147483647), ?_⟩⟩
      have r0 := Int.emod_nonneg ((s + 104729 * (t + 1)) * 69623) (by decide : (2147483647 : Int) ≠ 0)
      have r1 := Int.emod_lt_of_pos ((s + 104729 * (t + 1)) * 69623) (by decide : (0 : Int) < 2147483647)
      refine ⟨_, rfl, _, _, rfl, rfl, .inr ⟨by decide, by decide⟩, _, _, rfl, rfl, .inl ⟨_, rfl, _, _, rfl, rfl, (by decide : (0 : Int) < 2147483629), _, _, rfl, rfl, ?_⟩⟩
      have s0 := Int.emod_nonneg (((s + 104729 * (t + 1)) * 69623 % 2147483647) * 48271 + 30103) (by decide : (2147483629 : Int) ≠ 0)
      have s1 := Int.emod_lt_of_pos (((s + 104729 * (t + 1)) * 69623 % 2147483647) * 48271 + 30103) (by decide : (0 : Int) < 2147483629)
      refine ⟨_, rfl, D, boxV c s (t + 1), 1, 1, rfl, rfl, h1, rfl, ?_⟩
      rw [upd_upd]
      have h2 : (upd H D (.lst ((boxV c s (t + 1)).set 1 (.int ((((s + 104729 * (t + 1)) * 69623 % 2147483647) * 48271 + 30103) % 2147483629 + 1))))) D = some (.lst (boxV c ((((s + 104729 * (t + 1)) * 69623 % 2147483647) * 48271 + 30103) % 2147483629 + 1) (t + 1))) := upd_same
      have hN : BoxIs c ((((s + 104729 * (t + 1)) * 69623 % 2147483647) * 48271 + 30103) % 2147483629 + 1) (t + 1) := ⟨hB.c0, by omega, by omega⟩
      have n1 := hN.s1
      have n2 := hN.s2
      refine ⟨_, rfl, _, _, rfl, rfl, ⟨by decide, by decide, by decide⟩, _, _, rfl, rfl, _, rfl, ?_⟩
      by_cases h40 : b < (2 : Int) ^ (40 : Int).toNat
      · rw [decide_eq_true h40]
        refine iteT ⟨_, rfl, _, _, rfl, rfl, .inr ⟨by decide, by decide⟩, _, rfl, D, boxV c ((((s + 104729 * (t + 1)) * 69623 % 2147483647) * 48271 + 30103) % 2147483629 + 1) (t + 1), 1, .int ((((s + 104729 * (t + 1)) * 69623 % 2147483647) * 48271 + 30103) % 2147483629 + 1), rfl, rfl, SqL.of h2, rfl, _, _, rfl, rfl, _, _, rfl, rfl, ⟨by decide, by decide⟩, .inl ⟨_, rfl, _, rfl, _, _, rfl, rfl, hbp, ?_⟩⟩
        exact q _ (boxV c ((((s + 104729 * (t + 1)) * 69623 % 2147483647) * 48271 + 30103) % 2147483629 + 1) (t + 1)) (Int.emod_nonneg _ (by omega)) (Int.emod_lt_of_pos _ hbp) ⟨_, _, _, rfl, hN⟩
      · rw [decide_eq_false h40]
        refine iteF ⟨_, rfl, _, _, rfl, rfl, .inr ⟨by decide, by decide⟩, _, rfl, D, boxV c ((((s + 104729 * (t + 1)) * 69623 % 2147483647) * 48271 + 30103) % 2147483629 + 1) (t + 1), 1, .int ((((s + 104729 * (t + 1)) * 69623 % 2147483647) * 48271 + 30103) % 2147483629 + 1), rfl, rfl, SqL.of h2, rfl, _, _, rfl, rfl, _, _, rfl, rfl, ⟨by decide, by decide, by decide⟩, _, _, rfl, rfl, .inl ⟨by omega, by omega⟩, ?_⟩
        refine ⟨_, rfl, _, rfl, D, boxV c ((((s + 104729 * (t + 1)) * 69623 % 2147483647) * 48271 + 30103) % 2147483629 + 1) (t + 1), 1, .int ((((s + 104729 * (t + 1)) * 69623 % 2147483647) * 48271 + 30103) % 2147483629 + 1), rfl, rfl, SqL.of h2, rfl, _, _, rfl, rfl, ⟨by decide, by decide, by omega⟩, _, _, rfl, rfl, .inr ⟨by decide, by decide⟩, _, _, rfl, rfl, _, rfl, _, _, rfl, rfl, .inl ⟨_, rfl, _, rfl, _, _, rfl, rfl, hbp, ?_⟩⟩
        exact q _ (boxV c ((((s + 104729 * (t + 1)) * 69623 % 2147483647) * 48271 + 30103) % 2147483629 + 1) (t + 1)) (Int.emod_nonneg _ (by omega)) (Int.emod_lt_of_pos _ hbp) ⟨_, _, _, rfl, hN⟩
abbrev N_law_mixed : List Str := ["_law_box_here", "_law_items", "_law_left", "_law_found", "_law_turn"]
def S1f0_law_mixed : SSem := (sExpr (fAppend 3 (fPopAt 2 (fCall f_law_take [] (lCons (fVar 0) (lCons (fUn pLen (fVar 2)) lNil))))))
def K1f0_law_mixed : SSem := sSeq S1f0_law_mixed sNil
theorem U1f0_law_mixed {a : Dn.Slot} {l : Env'} : K1f0_law_mixed (a :: l) = sSeq S1f0_law_mixed sNil (a :: l) := rfl
def S0_law_mixed : SSem := (sParN 2 3 (nList (fVar 1)))
def S1_law_mixed : SSem := (sFor (iRange1 (fUn pLen (fVar 2))) (tgName 4) K1f0_law_mixed)
def S2_law_mixed : SSem := (sRet (fVar 3))
def K2_law_mixed : SSem := sSeq S2_law_mixed sNil
theorem U2_law_mixed {a : Dn.Slot} {l : Env'} : K2_law_mixed (a :: l) = sSeq S2_law_mixed sNil (a :: l) := rfl
def K1_law_mixed : SSem := sSeq S1_law_mixed K2_law_mixed
theorem U1_law_mixed {a : Dn.Slot} {l : Env'} : K1_law_mixed (a :: l) = sSeq S1_law_mixed K2_law_mixed (a :: l) := rfl
def K0_law_mixed : SSem := sSeq S0_law_mixed K1_law_mixed
theorem U0_law_mixed {a : Dn.Slot} {l : Env'} : K0_law_mixed (a :: l) = sSeq S0_law_mixed K1_law_mixed (a :: l) := rfl
def b_law_mixed : SSem := K0_law_mixed
def f_law_mixed : List AV → T AV := fnOf 2 5 b_law_mixed
theorem S_law_mixed : FnScope N_law_mixed ["_law_box_here", "_law_items"] (defScope s_law_mixed) := ⟨rfl, rfl, rfl, by decide +kernel, rfl, by decide +kernel, by decide +kernel⟩
theorem l_law_mixed {C_Rota : Addr} {C_TurnError : Addr} {C_InvalidRota : Addr} {C_InvalidSeason : Addr} (T : Bl mg) (Z_Rota : Tx_Rota K mg C_Rota) (ER : Ers K mg C_Rota C_TurnError C_InvalidRota C_InvalidSeason) (D_law_take : Df P w K mg base CT0 BB 1 "_law_take" 2 ["_law_box_here", "_law_bound"] f_law_take) {f : Addr} {cdv : Value} {A : Around} {outer : List Env} {s : Shared} {H : Hp} {E : XK} (hr : Room 1 (A.deeper (envOfC "_law_mixed" (defScope s_law_mixed) s.heap.objs.size f cdv))) :
  JSs (cxOf (L2.CX P w) P w K mg base N_law_mixed "_law_mixed" (defScope s_law_mixed) f cdv A outer s H E) CT0 BB E (defBody s_law_mixed) b_law_mixed := by
  have S := S_law_mixed
  have h64 : (A.deeper (envOfC "_law_mixed" (defScope s_law_mixed) s.heap.objs.size f cdv)).units + 64 < cLine := by
    have := hr.un
    omega
  have h65 : (A.deeper (envOfC "_law_mixed" (defScope s_law_mixed) s.heap.objs.size f cdv)).units + 65 < cLine := by
    have := hr.un
    omega
  have h1 : (A.deeper (envOfC "_law_mixed" (defScope s_law_mixed) s.heap.objs.size f cdv)).units + 1 < cLine := by
    have := hr.un
    omega
  refine js_cons ?_ (js_cons ?_ (js_cons ?_ js_nil))
  · exact (js_par2 (i := 2) (j := 3) (by rfl) S.nd (pa_cons (jn_list (by rfl) T.n_list (j_var 1)) (pa_cons (pe_lst pa_nil) pa_nil)) wants_N rfl rfl (by decide) rfl rfl (mono_E (es := []) mono_rdN) rfl rfl)
  · refine js_for passOwnB (by rfl) (ji_range1 (by rfl) T.n_range (j_callB call_len o_len (by rfl) T.n_len (by decide +kernel) (j_var 2))) (jg_name 4 S.nd) ?_
    refine js_cons ?_ js_nil
    · exact (js_expr (j_append 3 (j_popAt 2 (j_callD (lv := 1) D_law_take (hr.mono (by decide)) passB (jl_cons (j_var 0) (jl_cons (j_callB call_len o_len (by rfl) T.n_len (by decide +kernel) (j_var 2)) jl_nil))) (fun te he => pe_bm PySem.F.plainAttrs_list PySem.F.slot_list_pop PySem.F.type_list_pop mt_popAt (pv 2) (pa_cons he pa_nil))) (fun te he => pe_bm PySem.F.plainAttrs_list PySem.F.slot_list_append PySem.F.type_list_append mt_append (pv 3) (pa_cons he pa_nil))))
  · exact (js_ret (j_var 3))
theorem d_law_mixed {C_Rota : Addr} {C_TurnError : Addr} {C_InvalidRota : Addr} {C_InvalidSeason : Addr} {fa : Addr} {fd : FuncData} (F : Fun K "_law_mixed" "_law_mixed" s_law_mixed fa fd) (h1 : mg "_law_mixed" = some (.ref fa)) (h2 : PySem.W.keepIn K (.ref fa) = true) (b : Binds K fd ["_law_box_here", "_law_items"] []) (T : Bl mg) (Z_Rota : Tx_Rota K mg C_Rota) (ER : Ers K mg C_Rota C_TurnError C_InvalidRota C_InvalidSeason) (D_law_take : Df P w K mg base CT0 BB 1 "_law_take" 2 ["_law_box_here", "_law_bound"] f_law_take) : Df P w K mg base CT0 BB 2 "_law_mixed" 2 ["_law_box_here", "_law_items"] f_law_mixed :=
  ⟨⟨fa, fd, fn_def (N := N_law_mixed) (ps := ["_law_box_here", "_law_items"]) (k := 1) (body := b_law_mixed) F S_law_mixed (by decide) fun _ _ _ _ _ _ hr => l_law_mixed T Z_Rota ER D_law_take hr, h1, h2, b⟩, fnOf_len⟩
abbrev N_law_rota : List Str := ["_law_box_here", "_law_most", "_law_rows", "_law_places", "_law_found", "_law_turn", "_law_spots", "_law_turned", "_law_moves", "_law_spot"]
def C0_law_rota : SemN := nLc [9] (iSeq (fVar 6)) (tgName 9) (fBlT (fBin pLt (fCall f_law_take [] (lCons (fVar 0) (lCons (fC (.int 5)) lNil))) (fC (.int 2)))) (fVar 9)
def S1f0_law_rota : SSem := (sSet 6 (fNew (nListRange (fVar 3))))
def S1f1_law_rota : SSem := (sSet 7 (fNew C0_law_rota))
def S1f2_law_rota : SSem := (sSet 8 (fIf (fBlT (fBin pGt (fCall f_law_take [] (lCons (fVar 0) (lCons (fC (.int 3)) lNil))) (fC (.int 0)))) (fCall f_law_mixed [] (lCons (fVar 0) (lCons (fVar 6) lNil))) (fVar 6)))
def S1f3_law_rota : SSem := (sExpr (fAppend 4 (fTup (lCons (fCall f_law_mixed [] (lCons (fVar 0) (lCons (fVar 7) lNil))) (lCons (fVar 8) lNil)))))
def K1f3_law_rota : SSem := sSeq S1f3_law_rota sNil
theorem U1f3_law_rota {a : Dn.Slot} {l : Env'} : K1f3_law_rota (a :: l) = sSeq S1f3_law_rota sNil (a :: l) := rfl
def K1f2_law_rota : SSem := sSeq S1f2_law_rota K1f3_law_rota
theorem U1f2_law_rota {a : Dn.Slot} {l : Env'} : K1f2_law_rota (a :: l) = sSeq S1f2_law_rota K1f3_law_rota (a :: l) := rfl
def K1f1_law_rota : SSem := sSeq S1f1_law_rota K1f2_law_rota
theorem U1f1_law_rota {a : Dn.Slot} {l : Env'} : K1f1_law_rota (a :: l) = sSeq S1f1_law_rota K1f2_law_rota (a :: l) := rfl
def K1f0_law_rota : SSem := sSeq S1f0_law_rota K1f1_law_rota
theorem U1f0_law_rota {a : Dn.Slot} {l : Env'} : K1f0_law_rota (a :: l) = sSeq S1f0_law_rota K1f1_law_rota (a :: l) := rfl
def S0_law_rota : SSem := (sParE 3 4 (fBin pAdd (fC (.int 1)) (fCall f_law_take [] (lCons (fVar 0) (lCons (fVar 1) lNil)))))
def S1_law_rota : SSem := (sFor (iRange1 (fBin pAdd (fC (.int 1)) (fCall f_law_take [] (lCons (fVar 0) (lCons (fVar 2) lNil))))) (tgName 5) K1f0_law_rota)
def S2_law_rota : SSem := (sRet (fTup (lCons (fVar 3) (lCons (fVar 4) lNil))))
def K2_law_rota : SSem := sSeq S2_law_rota sNil
theorem U2_law_rota {a : Dn.Slot} {l : Env'} : K2_law_rota (a :: l) = sSeq S2_law_rota sNil (a :: l) := rfl
def K1_law_rota : SSem := sSeq S1_law_rota K2_law_rota
theorem U1_law_rota {a : Dn.Slot} {l : Env'} : K1_law_rota (a :: l) = sSeq S1_law_rota K2_law_rota (a :: l) := rfl
def K0_law_rota : SSem := sSeq S0_law_rota K1_law_rota
theorem U0_law_rota {a : Dn.Slot} {l : Env'} : K0_law_rota (a :: l) = sSeq S0_law_rota K1_law_rota (a :: l) := rfl
def b_law_rota : SSem := K0_law_rota
def f_law_rota : List AV → T AV := fnOf 3 10 b_law_rota
theorem S_law_rota : FnScope N_law_rota ["_law_box_here", "_law_most", "_law_rows"] (defScope s_law_rota) := ⟨rfl, rfl, rfl, by decide +kernel, rfl, by decide +kernel, by decide +kernel⟩
theorem l_law_rota {C_Rota : Addr} {C_TurnError : Addr} {C_InvalidRota : Addr} {C_InvalidSeason : Addr} (T : Bl mg) (Z_Rota : Tx_Rota K mg C_Rota) (ER : Ers K mg C_Rota C_TurnError C_InvalidRota C_InvalidSeason) (D_law_take : Df P w K mg base CT0 BB 1 "_law_take" 2 ["_law_box_here", "_law_bound"] f_law_take) (D_law_mixed : Df P w K mg base CT0 BB 2 "_law_mixed" 2 ["_law_box_here", "_law_items"] f_law_mixed) {f : Addr} {cdv : Value} {A : Around} {outer : List Env} {s : Shared} {H : Hp} {E : XK} (hr : Room 2 (A.deeper (envOfC "_law_rota" (defScope s_law_rota) s.heap.objs.size f cdv))) :
  JSs (cxOf (L2.CX P w) P w K mg base N_law_rota "_law_rota" (defScope s_law_rota) f cdv A outer s H E) CT0 BB E (defBody s_law_rota) b_law_rota := by
  have S := S_law_rota
  have h64 : (A.deeper (envOfC "_law_rota" (defScope s_law_rota) s.heap.objs.size f cdv)).units + 64 < cLine := by
    have := hr.un
    omega
  have h65 : (A.deeper (envOfC "_law_rota" (defScope s_law_rota) s.heap.objs.size f cdv)).units + 65 < cLine := by
    have := hr.un
    omega
  have h1 : (A.deeper (envOfC "_law_rota" (defScope s_law_rota) s.heap.objs.size f cdv)).units + 1 < cLine := by
    have := hr.un
    omega
  refine js_cons ?_ (js_cons ?_ (js_cons ?_ js_nil))
  · exact (js_par2 (i := 3) (j := 4) (by rfl) S.nd (pa_cons (j_bin' op_addA o_add j_int (j_callD (lv := 1) D_law_take (hr.mono (by decide)) passB (jl_cons (j_var 0) (jl_cons (j_var 1) jl_nil)))) (pa_cons (pe_lst pa_nil) pa_nil)) wants_E rfl rfl (by decide) rfl rfl (mono_E (es := []) mono_rdE) rfl rfl)
  · refine js_for passOwnB (by rfl) (ji_range1 (by rfl) T.n_range (j_bin' op_addA o_add j_int (j_callD (lv := 1) D_law_take (hr.mono (by decide)) passB (jl_cons (j_var 0) (jl_cons (j_var 2) jl_nil))))) (jg_name 5 S.nd) ?_
    refine js_cons ?_ (js_cons ?_ (js_cons ?_ (js_cons ?_ js_nil)))
    · exact (js_set 6 (j_new (jn_listRange (by rfl) (by rfl) T.n_list (by rfl) T.n_range (j_var 3))) S.nd)
    · exact (js_setLc 7 (own := [("_law_spot", 9)]) (by rfl) S.nd (blkOk_by (N := N_law_rota) (sc := defScope s_law_rota) (by decide +kernel)) (by decide) (ji_seq (j_var 6)) (fun _ _ _ _ _ => (jg_name 9 S.nd)) (fun _ _ _ _ _ => (jts_one (jt_cmp op_lt o_lt.op (j_callD (lv := 1) D_law_take (hr.mono (by decide)) passE0 (jl_cons (j_var 0) (jl_cons j_int jl_nil))) j_int (nomark _)))) (fun _ _ _ _ _ => (j_var 9)))
    · exact (js_set 8 (j_ifExp (jt_cmp op_gt o_gt.op (j_callD (lv := 1) D_law_take (hr.mono (by decide)) passB (jl_cons (j_var 0) (jl_cons j_int jl_nil))) j_int (nomark _)) (j_callD (lv := 2) D_law_mixed (hr.mono (by decide)) passB (jl_cons (j_var 0) (jl_cons (j_var 6) jl_nil))) (j_var 6)) S.nd)
    · exact (js_expr (j_append 4 (j_tup (jl_cons (j_callD (lv := 2) D_law_mixed (hr.mono (by decide)) passB (jl_cons (j_var 0) (jl_cons (j_var 7) jl_nil))) (jl_cons (j_var 8) jl_nil))) (fun te he => pe_bm PySem.F.plainAttrs_list PySem.F.slot_list_append PySem.F.type_list_append mt_append (pv 4) (pa_cons he pa_nil))))
  · exact (js_ret (j_tup (jl_cons (j_var 3) (jl_cons (j_var 4) jl_nil))))
theorem d_law_rota {C_Rota : Addr} {C_TurnError : Addr} {C_InvalidRota : Addr} {C_InvalidSeason : Addr} {fa : Addr} {fd : FuncData} (F : Fun K "_law_rota" "_law_rota" s_law_rota fa fd) (h1 : mg "_law_rota" = some (.ref fa)) (h2 : PySem.W.keepIn K (.ref fa) = true) (b : Binds K fd ["_law_box_here", "_law_most", "_law_rows"] []) (T : Bl mg) (Z_Rota : Tx_Rota K mg C_Rota) (ER : Ers K mg C_Rota C_TurnError C_InvalidRota C_InvalidSeason) (D_law_take : Df P w K mg base CT0 BB 1 "_law_take" 2 ["_law_box_here", "_law_bound"] f_law_take) (D_law_mixed : Df P w K mg base CT0 BB 2 "_law_mixed" 2 ["_law_box_here", "_law_items"] f_law_mixed) : Df P w K mg base CT0 BB 3 "_law_rota" 3 ["_law_box_here", "_law_most", "_law_rows"] f_law_rota :=
  ⟨⟨fa, fd, fn_def (N := N_law_rota) (ps := ["_law_box_here", "_law_most", "_law_rows"]) (k := 2) (body := b_law_rota) F S_law_rota (by decide) fun _ _ _ _ _ _ hr => l_law_rota T Z_Rota ER D_law_take D_law_mixed hr, h1, h2, b⟩, fnOf_len⟩
abbrev N_law_pick : List Str := ["_law_box_here", "_law_items"]
def S0_law_pick : SSem := (sRet (fBin pIx (fVar 1) (fCall f_law_take [] (lCons (fVar 0) (lCons (fUn pLen (fVar 1)) lNil)))))
def K0_law_pick : SSem := sSeq S0_law_pick sNil
theorem U0_law_pick {a : Dn.Slot} {l : Env'} : K0_law_pick (a :: l) = sSeq S0_law_pick sNil (a :: l) := rfl
def b_law_pick : SSem := K0_law_pick
def f_law_pick : List AV → T AV := fnOf 2 2 b_law_pick
theorem S_law_pick : FnScope N_law_pick ["_law_box_here", "_law_items"] (defScope s_law_pick) := ⟨rfl, rfl, rfl, by decide +kernel, rfl, by decide +kernel, by decide +kernel⟩
theorem l_law_pick {C_Rota : Addr} {C_TurnError : Addr} {C_InvalidRota : Addr} {C_InvalidSeason : Addr} (T : Bl mg) (Z_Rota : Tx_Rota K mg C_Rota) (ER : Ers K mg C_Rota C_TurnError C_InvalidRota C_InvalidSeason) (D_law_take : Df P w K mg base CT0 BB 1 "_law_take" 2 ["_law_box_here", "_law_bound"] f_law_take) {f : Addr} {cdv : Value} {A : Around} {outer : List Env} {s : Shared} {H : Hp} {E : XK} (hr : Room 1 (A.deeper (envOfC "_law_pick" (defScope s_law_pick) s.heap.objs.size f cdv))) :
  JSs (cxOf (L2.CX P w) P w K mg base N_law_pick "_law_pick" (defScope s_law_pick) f cdv A outer s H E) CT0 BB E (defBody s_law_pick) b_law_pick := by
  have S := S_law_pick
  have h64 : (A.deeper (envOfC "_law_pick" (defScope s_law_pick) s.heap.objs.size f cdv)).units + 64 < cLine := by
    have := hr.un
    omega
  have h65 : (A.deeper (envOfC "_law_pick" (defScope s_law_pick) s.heap.objs.size f cdv)).units + 65 < cLine := by
    have := hr.un
    omega
  have h1 : (A.deeper (envOfC "_law_pick" (defScope s_law_pick) s.heap.objs.size f cdv)).units + 1 < cLine := by
    have := hr.un
    omega
  refine js_cons ?_ js_nil
  · exact (js_ret (j_ix (j_var 1) (j_callD (lv := 1) D_law_take (hr.mono (by decide)) passB (jl_cons (j_var 0) (jl_cons (j_callB call_len o_len (by rfl) T.n_len (by decide +kernel) (j_var 1)) jl_nil)))))
theorem d_law_pick {C_Rota : Addr} {C_TurnError : Addr} {C_InvalidRota : Addr} {C_InvalidSeason : Addr} {fa : Addr} {fd : FuncData} (F : Fun K "_law_pick" "_law_pick" s_law_pick fa fd) (h1 : mg "_law_pick" = some (.ref fa)) (h2 : PySem.W.keepIn K (.ref fa) = true) (b : Binds K fd ["_law_box_here", "_law_items"] []) (T : Bl mg) (Z_Rota : Tx_Rota K mg C_Rota) (ER : Ers K mg C_Rota C_TurnError C_InvalidRota C_InvalidSeason) (D_law_take : Df P w K mg base CT0 BB 1 "_law_take" 2 ["_law_box_here", "_law_bound"] f_law_take) : Df P w K mg base CT0 BB 2 "_law_pick" 2 ["_law_box_here", "_law_items"] f_law_pick :=
  ⟨⟨fa, fd, fn_def (N := N_law_pick) (ps := ["_law_box_here", "_law_items"]) (k := 1) (body := b_law_pick) F S_law_pick (by decide) fun _ _ _ _ _ _ hr => l_law_pick T Z_Rota ER D_law_take hr, h1, h2, b⟩, fnOf_len⟩
abbrev N_is_integer : List Str := ["value"]
def b_is_integer : SSem := (sSeq (sRet (fAnd (fUn (pIsi "int") (fVar 0)) (fNot (fUn (pIsi "bool") (fVar 0)))))
  sNil)
def f_is_integer : List AV → T AV := fnOf 1 1 b_is_integer
theorem S_is_integer : FnScope N_is_integer ["value"] (defScope s_is_integer) := ⟨rfl, rfl, rfl, by decide +kernel, rfl, by decide +kernel, by decide +kernel⟩
theorem l_is_integer {C_Rota : Addr} {C_TurnError : Addr} {C_InvalidRota : Addr} {C_InvalidSeason : Addr} (T : Bl mg) (Z_Rota : Tx_Rota K mg C_Rota) (ER : Ers K mg C_Rota C_TurnError C_InvalidRota C_InvalidSeason) {f : Addr} {cdv : Value} {A : Around} {outer : List Env} {s : Shared} {H : Hp} {E : XK} (hr : Room 0 (A.deeper (envOfC "is_integer" (defScope s_is_integer) s.heap.objs.size f cdv))) :
  JSs (cxOf (L2.CX P w) P w K mg base N_is_integer "is_integer" (defScope s_is_integer) f cdv A outer s H E) CT0 BB E (defBody s_is_integer) b_is_integer := by
  have S := S_is_integer
  have h64 : (A.deeper (envOfC "is_integer" (defScope s_is_integer) s.heap.objs.size f cdv)).units + 64 < cLine := by
    have := hr.un
    omega
  have h65 : (A.deeper (envOfC "is_integer" (defScope s_is_integer) s.heap.objs.size f cdv)).units + 65 < cLine := by
    have := hr.un
    omega
  have h1 : (A.deeper (envOfC "is_integer" (defScope s_is_integer) s.heap.objs.size f cdv)).units + 1 < cLine := by
    have := hr.un
    omega
  refine js_cons ?_ js_nil
  · exact (js_ret (j_and (j_isi kinds_int (by rfl) T.n_isinstance (by rfl) T.n_int (by decide +kernel) (j_var 0)) (j_one (j_not (j_isi kinds_bool (by rfl) T.n_isinstance (by rfl) T.n_bool (by decide +kernel) (j_var 0))))))
theorem d_is_integer {C_Rota : Addr} {C_TurnError : Addr} {C_InvalidRota : Addr} {C_InvalidSeason : Addr} {fa : Addr} {fd : FuncData} (F : Fun K "is_integer" "is_integer" s_is_integer fa fd) (h1 : mg "is_integer" = some (.ref fa)) (h2 : PySem.W.keepIn K (.ref fa) = true) (b : Binds K fd ["value"] []) (T : Bl mg) (Z_Rota : Tx_Rota K mg C_Rota) (ER : Ers K mg C_Rota C_TurnError C_InvalidRota C_InvalidSeason) : Df P w K mg base CT0 BB 1 "is_integer" 1 ["value"] f_is_integer :=
  ⟨⟨fa, fd, fn_def (N := N_is_integer) (ps := ["value"]) (k := 0) (body := b_is_integer) F S_is_integer (by decide) fun _ _ _ _ _ _ hr => l_is_integer T Z_Rota ER  hr, h1, h2, b⟩, fnOf_len⟩
abbrev N_is_whole : List Str := ["value", "least"]
def b_is_whole : SSem := (sSeq (sRet (fAnd (fCall f_is_integer [] (lCons (fVar 0) lNil)) (fBin pGe (fVar 0) (fVar 1))))
  sNil)
def f_is_whole : List AV → T AV := fnOf 2 2 b_is_whole
theorem S_is_whole : FnScope N_is_whole ["value", "least"] (defScope s_is_whole) := ⟨rfl, rfl, rfl, by decide +kernel, rfl, by decide +kernel, by decide +kernel⟩
theorem l_is_whole {C_Rota : Addr} {C_TurnError : Addr} {C_InvalidRota : Addr} {C_InvalidSeason : Addr} (T : Bl mg) (Z_Rota : Tx_Rota K mg C_Rota) (ER : Ers K mg C_Rota C_TurnError C_InvalidRota C_InvalidSeason) (D_is_integer : Df P w K mg base CT0 BB 1 "is_integer" 1 ["value"] f_is_integer) {f : Addr} {cdv : Value} {A : Around} {outer : List Env} {s : Shared} {H : Hp} {E : XK} (hr : Room 1 (A.deeper (envOfC "is_whole" (defScope s_is_whole) s.heap.objs.size f cdv))) :
  JSs (cxOf (L2.CX P w) P w K mg base N_is_whole "is_whole" (defScope s_is_whole) f cdv A outer s H E) CT0 BB E (defBody s_is_whole) b_is_whole := by
  have S := S_is_whole
  have h64 : (A.deeper (envOfC "is_whole" (defScope s_is_whole) s.heap.objs.size f cdv)).units + 64 < cLine := by
    have := hr.un
    omega
  have h65 : (A.deeper (envOfC "is_whole" (defScope s_is_whole) s.heap.objs.size f cdv)).units + 65 < cLine := by
    have := hr.un
    omega
  have h1 : (A.deeper (envOfC "is_whole" (defScope s_is_whole) s.heap.objs.size f cdv)).units + 1 < cLine := by
    have := hr.un
    omega
  refine js_cons ?_ js_nil
  · exact (js_ret (j_and (j_callD (lv := 1) D_is_integer (hr.mono (by decide)) passB (jl_cons (j_var 0) jl_nil)) (j_one (j_cmp op_ge o_ge.op (j_var 0) (j_var 1) (nomark _)))))
theorem d_is_whole {C_Rota : Addr} {C_TurnError : Addr} {C_InvalidRota : Addr} {C_InvalidSeason : Addr} {fa : Addr} {fd : FuncData} (F : Fun K "is_whole" "is_whole" s_is_whole fa fd) (h1 : mg "is_whole" = some (.ref fa)) (h2 : PySem.W.keepIn K (.ref fa) = true) (b : Binds K fd ["value", "least"] []) (T : Bl mg) (Z_Rota : Tx_Rota K mg C_Rota) (ER : Ers K mg C_Rota C_TurnError C_InvalidRota C_InvalidSeason) (D_is_integer : Df P w K mg base CT0 BB 1 "is_integer" 1 ["value"] f_is_integer) : Df P w K mg base CT0 BB 2 "is_whole" 2 ["value", "least"] f_is_whole :=
  ⟨⟨fa, fd, fn_def (N := N_is_whole) (ps := ["value", "least"]) (k := 1) (body := b_is_whole) F S_is_whole (by decide) fun _ _ _ _ _ _ hr => l_is_whole T Z_Rota ER D_is_integer hr, h1, h2, b⟩, fnOf_len⟩
abbrev N_is_sequence : List Str := ["value"]
def S0_is_sequence : SSem := (sRet (fUn (pIsi2 "list" "tuple") (fVar 0)))
def K0_is_sequence : SSem := sSeq S0_is_sequence sNil
theorem U0_is_sequence {a : Dn.Slot} {l : Env'} : K0_is_sequence (a :: l) = sSeq S0_is_sequence sNil (a :: l) := rfl
def b_is_sequence : SSem := K0_is_sequence
def f_is_sequence : List AV → T AV := fnOf 1 1 b_is_sequence
theorem S_is_sequence : FnScope N_is_sequence ["value"] (defScope s_is_sequence) := ⟨rfl, rfl, rfl, by decide +kernel, rfl, by decide +kernel, by decide +kernel⟩
theorem l_is_sequence {C_Rota : Addr} {C_TurnError : Addr} {C_InvalidRota : Addr} {C_InvalidSeason : Addr} (T : Bl mg) (Z_Rota : Tx_Rota K mg C_Rota) (ER : Ers K mg C_Rota C_TurnError C_InvalidRota C_InvalidSeason) {f : Addr} {cdv : Value} {A : Around} {outer : List Env} {s : Shared} {H : Hp} {E : XK} (hr : Room 0 (A.deeper (envOfC "is_sequence" (defScope s_is_sequence) s.heap.objs.size f cdv))) :
  JSs (cxOf (L2.CX P w) P w K mg base N_is_sequence "is_sequence" (defScope s_is_sequence) f cdv A outer s H E) CT0 BB E (defBody s_is_sequence) b_is_sequence := by
  have S := S_is_sequence
  have h64 : (A.deeper (envOfC "is_sequence" (defScope s_is_sequence) s.heap.objs.size f cdv)).units + 64 < cLine := by
    have := hr.un
    omega
  have h65 : (A.deeper (envOfC "is_sequence" (defScope s_is_sequence) s.heap.objs.size f cdv)).units + 65 < cLine := by
    have := hr.un
    omega
  have h1 : (A.deeper (envOfC "is_sequence" (defScope s_is_sequence) s.heap.objs.size f cdv)).units + 1 < cLine := by
    have := hr.un
    omega
  refine js_cons ?_ js_nil
  · exact (js_ret (j_isi2 kinds_list kinds_tuple (by rfl) T.n_isinstance (by rfl) T.n_list (by decide +kernel) (by rfl) T.n_tuple (by decide +kernel) (j_var 0)))
theorem d_is_sequence {C_Rota : Addr} {C_TurnError : Addr} {C_InvalidRota : Addr} {C_InvalidSeason : Addr} {fa : Addr} {fd : FuncData} (F : Fun K "is_sequence" "is_sequence" s_is_sequence fa fd) (h1 : mg "is_sequence" = some (.ref fa)) (h2 : PySem.W.keepIn K (.ref fa) = true) (b : Binds K fd ["value"] []) (T : Bl mg) (Z_Rota : Tx_Rota K mg C_Rota) (ER : Ers K mg C_Rota C_TurnError C_InvalidRota C_InvalidSeason) : Df P w K mg base CT0 BB 1 "is_sequence" 1 ["value"] f_is_sequence :=
  ⟨⟨fa, fd, fn_def (N := N_is_sequence) (ps := ["value"]) (k := 0) (body := b_is_sequence) F S_is_sequence (by decide) fun _ _ _ _ _ _ hr => l_is_sequence T Z_Rota ER  hr, h1, h2, b⟩, fnOf_len⟩
abbrev N_is_below : List Str := ["value", "many"]
def b_is_below : SSem := (sSeq (sRet (fAnd (fCall f_is_whole [] (lCons (fVar 0) (lCons (fC (.int 0)) lNil))) (fBin pLt (fVar 0) (fVar 1))))
  sNil)
def f_is_below : List AV → T AV := fnOf 2 2 b_is_below
theorem S_is_below : FnScope N_is_below ["value", "many"] (defScope s_is_below) := ⟨rfl, rfl, rfl, by decide +kernel, rfl, by decide +kernel, by decide +kernel⟩
theorem l_is_below {C_Rota : Addr} {C_TurnError : Addr} {C_InvalidRota : Addr} {C_InvalidSeason : Addr} (T : Bl mg) (Z_Rota : Tx_Rota K mg C_Rota) (ER : Ers K mg C_Rota C_TurnError C_InvalidRota C_InvalidSeason) (D_is_whole : Df P w K mg base CT0 BB 2 "is_whole" 2 ["value", "least"] f_is_whole) {f : Addr} {cdv : Value} {A : Around} {outer : List Env} {s : Shared} {H : Hp} {E : XK} (hr : Room 2 (A.deeper (envOfC "is_below" (defScope s_is_below) s.heap.objs.size f cdv))) :
  JSs (cxOf (L2.CX P w) P w K mg base N_is_below "is_below" (defScope s_is_below) f cdv A outer s H E) CT0 BB E (defBody s_is_below) b_is_below := by
  have S := S_is_below
  have h64 : (A.deeper (envOfC "is_below" (defScope s_is_below) s.heap.objs.size f cdv)).units + 64 < cLine := by
    have := hr.un
    omega
  have h65 : (A.deeper (envOfC "is_below" (defScope s_is_below) s.heap.objs.size f cdv)).units + 65 < cLine := by
    have := hr.un
    omega
  have h1 : (A.deeper (envOfC "is_below" (defScope s_is_below) s.heap.objs.size f cdv)).units + 1 < cLine := by
    have := hr.un
    omega
  refine js_cons ?_ js_nil
  · exact (js_ret (j_and (j_callD (lv := 2) D_is_whole (hr.mono (by decide)) passB (jl_cons (j_var 0) (jl_cons j_int jl_nil))) (j_one (j_cmp op_lt o_lt.op (j_var 0) (j_var 1) (nomark _)))))
theorem d_is_below {C_Rota : Addr} {C_TurnError : Addr} {C_InvalidRota : Addr} {C_InvalidSeason : Addr} {fa : Addr} {fd : FuncData} (F : Fun K "is_below" "is_below" s_is_below fa fd) (h1 : mg "is_below" = some (.ref fa)) (h2 : PySem.W.keepIn K (.ref fa) = true) (b : Binds K fd ["value", "many"] []) (T : Bl mg) (Z_Rota : Tx_Rota K mg C_Rota) (ER : Ers K mg C_Rota C_TurnError C_InvalidRota C_InvalidSeason) (D_is_whole : Df P w K mg base CT0 BB 2 "is_whole" 2 ["value", "least"] f_is_whole) : Df P w K mg base CT0 BB 3 "is_below" 2 ["value", "many"] f_is_below :=
  ⟨⟨fa, fd, fn_def (N := N_is_below) (ps := ["value", "many"]) (k := 2) (body := b_is_below) F S_is_below (by decide) fun _ _ _ _ _ _ hr => l_is_below T Z_Rota ER D_is_whole hr, h1, h2, b⟩, fnOf_len⟩
abbrev N_are_spots : List Str := ["spots", "places", "spot"]
def C0_are_spots : SemN := nLc [2] (iSeq (fVar 0)) (tgName 2) fYes (fCall f_is_below [] (lCons (fVar 2) (lCons (fVar 1) lNil)))
def S0t0_are_spots : SSem := (sRet (fC (.bl false)))
def K0t0_are_spots : SSem := sSeq S0t0_are_spots sNil
theorem U0t0_are_spots {a : Dn.Slot} {l : Env'} : K0t0_are_spots (a :: l) = sSeq S0t0_are_spots sNil (a :: l) := rfl
def S0_are_spots : SSem := (sIf (fOrT (fNotT (fTru (fCall f_is_sequence [] (lCons (fVar 0) lNil)))) (fNotT (fTru (fUn pAll (fNew C0_are_spots))))) K0t0_are_spots sNil)
def S1_are_spots : SSem := (sRet (fBin pEq (fUn pLenSetG (fVar 0)) (fUn pLen (fVar 0))))
def K1_are_spots : SSem := sSeq S1_are_spots sNil
theorem U1_are_spots {a : Dn.Slot} {l : Env'} : K1_are_spots (a :: l) = sSeq S1_are_spots sNil (a :: l) := rfl
def K0_are_spots : SSem := sSeq S0_are_spots K1_are_spots
theorem U0_are_spots {a : Dn.Slot} {l : Env'} : K0_are_spots (a :: l) = sSeq S0_are_spots K1_are_spots (a :: l) := rfl
def b_are_spots : SSem := K0_are_spots
def f_are_spots : List AV → T AV := fnOf 2 3 b_are_spots
theorem S_are_spots : FnScope N_are_spots ["spots", "places"] (defScope s_are_spots) := ⟨rfl, rfl, rfl, by decide +kernel, rfl, by decide +kernel, by decide +kernel⟩
theorem l_are_spots {C_Rota : Addr} {C_TurnError : Addr} {C_InvalidRota : Addr} {C_InvalidSeason : Addr} (T : Bl mg) (Z_Rota : Tx_Rota K mg C_Rota) (ER : Ers K mg C_Rota C_TurnError C_InvalidRota C_InvalidSeason) (D_is_sequence : Df P w K mg base CT0 BB 1 "is_sequence" 1 ["value"] f_is_sequence) (D_is_below : Df P w K mg base CT0 BB 3 "is_below" 2 ["value", "many"] f_is_below) {f : Addr} {cdv : Value} {A : Around} {outer : List Env} {s : Shared} {H : Hp} {E : XK} (hr : Room 3 (A.deeper (envOfC "are_spots" (defScope s_are_spots) s.heap.objs.size f cdv))) :
  JSs (cxOf (L2.CX P w) P w K mg base N_are_spots "are_spots" (defScope s_are_spots) f cdv A outer s H E) CT0 BB E (defBody s_are_spots) b_are_spots := by
  have S := S_are_spots
  have h64 : (A.deeper (envOfC "are_spots" (defScope s_are_spots) s.heap.objs.size f cdv)).units + 64 < cLine := by
    have := hr.un
    omega
  have h65 : (A.deeper (envOfC "are_spots" (defScope s_are_spots) s.heap.objs.size f cdv)).units + 65 < cLine := by
    have := hr.un
    omega
  have h1 : (A.deeper (envOfC "are_spots" (defScope s_are_spots) s.heap.objs.size f cdv)).units + 1 < cLine := by
    have := hr.un
    omega
  refine js_cons ?_ (js_cons ?_ js_nil)
  · refine js_if (jw_pt (jw_or (jt_not (jt_truth (j_callD (lv := 1) D_is_sequence (hr.mono (by decide)) passB (jl_cons (j_var 0) jl_nil)))) (jw_or1 (jt_not (jt_truth (j_callB (cr_all rfl) o_all (by rfl) T.n_all (by decide +kernel) (j_new (jn_lc (own := [("spot", 2)]) (by rfl) S.nd (blkOk_by (N := N_are_spots) (sc := defScope s_are_spots) (by decide +kernel)) (by decide) (ji_seq (j_var 0)) (fun _ _ _ _ _ => (jg_name 2 S.nd)) (fun _ _ _ _ _ => jts_nil) (fun _ _ _ _ _ => (j_callD (lv := 3) D_is_below (hr.mono (by decide)) passE0 (jl_cons (j_var 2) (jl_cons (j_var 1) jl_nil)))))))))))) ?_ ?_
    · refine js_cons ?_ js_nil
      · exact (js_ret j_bl)
    · exact js_nil
  · exact (js_ret (j_cmp (op_eqD h64) o_eq.op (j_lenSetG (by rfl) T.n_len (by rfl) T.n_set (j_var 0)) (j_callB call_len o_len (by rfl) T.n_len (by decide +kernel) (j_var 0)) (nomark _)))
theorem d_are_spots {C_Rota : Addr} {C_TurnError : Addr} {C_InvalidRota : Addr} {C_InvalidSeason : Addr} {fa : Addr} {fd : FuncData} (F : Fun K "are_spots" "are_spots" s_are_spots fa fd) (h1 : mg "are_spots" = some (.ref fa)) (h2 : PySem.W.keepIn K (.ref fa) = true) (b : Binds K fd ["spots", "places"] []) (T : Bl mg) (Z_Rota : Tx_Rota K mg C_Rota) (ER : Ers K mg C_Rota C_TurnError C_InvalidRota C_InvalidSeason) (D_is_sequence : Df P w K mg base CT0 BB 1 "is_sequence" 1 ["value"] f_is_sequence) (D_is_below : Df P w K mg base CT0 BB 3 "is_below" 2 ["value", "many"] f_is_below) : Df P w K mg base CT0 BB 4 "are_spots" 2 ["spots", "places"] f_are_spots :=
  ⟨⟨fa, fd, fn_def (N := N_are_spots) (ps := ["spots", "places"]) (k := 3) (body := b_are_spots) F S_are_spots (by decide) fun _ _ _ _ _ _ hr => l_are_spots T Z_Rota ER D_is_sequence D_is_below hr, h1, h2, b⟩, fnOf_len⟩
abbrev N_is_row : List Str := ["row", "places", "turned", "moves"]
def S0t0_is_row : SSem := (sRet (fC (.bl false)))
def K0t0_is_row : SSem := sSeq S0t0_is_row sNil
theorem U0t0_is_row {a : Dn.Slot} {l : Env'} : K0t0_is_row (a :: l) = sSeq S0t0_is_row sNil (a :: l) := rfl
def S0_is_row : SSem := (sIf (fOrT (fNotT (fTru (fUn (pIsi "tuple") (fVar 0)))) (fBlT (fBin pNe (fUn pLen (fVar 0)) (fC (.int 2))))) K0t0_is_row sNil)
def S1_is_row : SSem := (sAsg (fVar 0) (tgTup 2 (tgCons (tgName 2) (tgCons (tgName 3) tgNil))))
def S2_is_row : SSem := (sRet (fAnd (fCall f_are_spots [] (lCons (fVar 2) (lCons (fVar 1) lNil))) (fAnd (fCall f_are_spots [] (lCons (fVar 3) (lCons (fVar 1) lNil))) (fBin pEq (fUn pLen (fVar 3)) (fVar 1)))))
def K2_is_row : SSem := sSeq S2_is_row sNil
theorem U2_is_row {a : Dn.Slot} {l : Env'} : K2_is_row (a :: l) = sSeq S2_is_row sNil (a :: l) := rfl
def K1_is_row : SSem := sSeq S1_is_row K2_is_row
theorem U1_is_row {a : Dn.Slot} {l : Env'} : K1_is_row (a :: l) = sSeq S1_is_row K2_is_row (a :: l) := rfl
def K0_is_row : SSem := sSeq S0_is_row K1_is_row
theorem U0_is_row {a : Dn.Slot} {l : Env'} : K0_is_row (a :: l) = sSeq S0_is_row K1_is_row (a :: l) := rfl
def b_is_row : SSem := K0_is_row
def f_is_row : List AV → T AV := fnOf 2 4 b_is_row
theorem S_is_row : FnScope N_is_row ["row", "places"] (defScope s_is_row) := ⟨rfl, rfl, rfl, by decide +kernel, rfl, by decide +kernel, by decide +kernel⟩
theorem l_is_row {C_Rota : Addr} {C_TurnError : Addr} {C_InvalidRota : Addr} {C_InvalidSeason : Addr} (T : Bl mg) (Z_Rota : Tx_Rota K mg C_Rota) (ER : Ers K mg C_Rota C_TurnError C_InvalidRota C_InvalidSeason) (D_are_spots : Df P w K mg base CT0 BB 4 "are_spots" 2 ["spots", "places"] f_are_spots) {f : Addr} {cdv : Value} {A : Around} {outer : List Env} {s : Shared} {H : Hp} {E : XK} (hr : Room 4 (A.deeper (envOfC "is_row" (defScope s_is_row) s.heap.objs.size f cdv))) :
  JSs (cxOf (L2.CX P w) P w K mg base N_is_row "is_row" (defScope s_is_row) f cdv A outer s H E) CT0 BB E (defBody s_is_row) b_is_row := by
  have S := S_is_row
  have h64 : (A.deeper (envOfC "is_row" (defScope s_is_row) s.heap.objs.size f cdv)).units + 64 < cLine := by
    have := hr.un
    omega
  have h65 : (A.deeper (envOfC "is_row" (defScope s_is_row) s.heap.objs.size f cdv)).units + 65 < cLine := by
    have := hr.un
    omega
  have h1 : (A.deeper (envOfC "is_row" (defScope s_is_row) s.heap.objs.size f cdv)).units + 1 < cLine := by
    have := hr.un
    omega
  refine js_cons ?_ (js_cons ?_ (js_cons ?_ js_nil))
  · refine js_if (jw_pt (jw_or (jt_not (jt_truth (j_isi kinds_tuple (by rfl) T.n_isinstance (by rfl) T.n_tuple (by decide +kernel) (j_var 0)))) (jw_or1 (jt_cmp (op_neD h64) o_ne.op (j_callB call_len o_len (by rfl) T.n_len (by decide +kernel) (j_var 0)) j_int (nomark _))))) ?_ ?_
    · refine js_cons ?_ js_nil
      · exact (js_ret j_bl)
    · exact js_nil
  · exact (js_asg (j_var 0) (jg_tup (by rfl) (jg_cons (jg_name 2 S.nd) (jg_cons (jg_name 3 S.nd) jg_nil))))
  · exact (js_ret (j_and (j_callD (lv := 4) D_are_spots (hr.mono (by decide)) passB (jl_cons (j_var 2) (jl_cons (j_var 1) jl_nil))) (j_and (j_callD (lv := 4) D_are_spots (hr.mono (by decide)) passB (jl_cons (j_var 3) (jl_cons (j_var 1) jl_nil))) (j_one (j_cmp (op_eqD h64) o_eq.op (j_callB call_len o_len (by rfl) T.n_len (by decide +kernel) (j_var 3)) (j_var 1) (nomark _))))))
theorem d_is_row {C_Rota : Addr} {C_TurnError : Addr} {C_InvalidRota : Addr} {C_InvalidSeason : Addr} {fa : Addr} {fd : FuncData} (F : Fun K "is_row" "is_row" s_is_row fa fd) (h1 : mg "is_row" = some (.ref fa)) (h2 : PySem.W.keepIn K (.ref fa) = true) (b : Binds K fd ["row", "places"] []) (T : Bl mg) (Z_Rota : Tx_Rota K mg C_Rota) (ER : Ers K mg C_Rota C_TurnError C_InvalidRota C_InvalidSeason) (D_are_spots : Df P w K mg base CT0 BB 4 "are_spots" 2 ["spots", "places"] f_are_spots) : Df P w K mg base CT0 BB 5 "is_row" 2 ["row", "places"] f_is_row :=
  ⟨⟨fa, fd, fn_def (N := N_is_row) (ps := ["row", "places"]) (k := 4) (body := b_is_row) F S_is_row (by decide) fun _ _ _ _ _ _ hr => l_is_row T Z_Rota ER D_are_spots hr, h1, h2, b⟩, fnOf_len⟩
abbrev N_are_rows : List Str := ["rows", "places", "row"]
def C0_are_rows : SemN := nLc [2] (iSeq (fVar 0)) (tgName 2) fYes (fCall f_is_row [] (lCons (fVar 2) (lCons (fVar 1) lNil)))
def S0_are_rows : SSem := (sRet (fAnd (fCall f_is_sequence [] (lCons (fVar 0) lNil)) (fAnd (fBin pGt (fUn pLen (fVar 0)) (fC (.int 0))) (fUn pAll (fNew C0_are_rows)))))
def K0_are_rows : SSem := sSeq S0_are_rows sNil
theorem U0_are_rows {a : Dn.Slot} {l : Env'} : K0_are_rows (a :: l) = sSeq S0_are_rows sNil (a :: l) := rfl
def b_are_rows : SSem := K0_are_rows
def f_are_rows : List AV → T AV := fnOf 2 3 b_are_rows
theorem S_are_rows : FnScope N_are_rows ["rows", "places"] (defScope s_are_rows) := ⟨rfl, rfl, rfl, by decide +kernel, rfl, by decide +kernel, by decide +kernel⟩
theorem l_are_rows {C_Rota : Addr} {C_TurnError : Addr} {C_InvalidRota : Addr} {C_InvalidSeason : Addr} (T : Bl mg) (Z_Rota : Tx_Rota K mg C_Rota) (ER : Ers K mg C_Rota C_TurnError C_InvalidRota C_InvalidSeason) (D_is_sequence : Df P w K mg base CT0 BB 1 "is_sequence" 1 ["value"] f_is_sequence) (D_is_row : Df P w K mg base CT0 BB 5 "is_row" 2 ["row", "places"] f_is_row) {f : Addr} {cdv : Value} {A : Around} {outer : List Env} {s : Shared} {H : Hp} {E : XK} (hr : Room 5 (A.deeper (envOfC "are_rows" (defScope s_are_rows) s.heap.objs.size f cdv))) :
  JSs (cxOf (L2.CX P w) P w K mg base N_are_rows "are_rows" (defScope s_are_rows) f cdv A outer s H E) CT0 BB E (defBody s_are_rows) b_are_rows := by
  have S := S_are_rows
  have h64 : (A.deeper (envOfC "are_rows" (defScope s_are_rows) s.heap.objs.size f cdv)).units + 64 < cLine := by
    have := hr.un
    omega
  have h65 : (A.deeper (envOfC "are_rows" (defScope s_are_rows) s.heap.objs.size f cdv)).units + 65 < cLine := by
    have := hr.un
    omega
  have h1 : (A.deeper (envOfC "are_rows" (defScope s_are_rows) s.heap.objs.size f cdv)).units + 1 < cLine := by
    have := hr.un
    omega
  refine js_cons ?_ js_nil
  · exact (js_ret (j_and (j_callD (lv := 1) D_is_sequence (hr.mono (by decide)) passB (jl_cons (j_var 0) jl_nil)) (j_and (j_cmp op_gt o_gt.op (j_callB call_len o_len (by rfl) T.n_len (by decide +kernel) (j_var 0)) j_int (nomark _)) (j_one (j_callB (cr_all rfl) o_all (by rfl) T.n_all (by decide +kernel) (j_new (jn_lc (own := [("row", 2)]) (by rfl) S.nd (blkOk_by (N := N_are_rows) (sc := defScope s_are_rows) (by decide +kernel)) (by decide) (ji_seq (j_var 0)) (fun _ _ _ _ _ => (jg_name 2 S.nd)) (fun _ _ _ _ _ => jts_nil) (fun _ _ _ _ _ => (j_callD (lv := 5) D_is_row (hr.mono (by decide)) passE0 (jl_cons (j_var 2) (jl_cons (j_var 1) jl_nil)))))))))))
theorem d_are_rows {C_Rota : Addr} {C_TurnError : Addr} {C_InvalidRota : Addr} {C_InvalidSeason : Addr} {fa : Addr} {fd : FuncData} (F : Fun K "are_rows" "are_rows" s_are_rows fa fd) (h1 : mg "are_rows" = some (.ref fa)) (h2 : PySem.W.keepIn K (.ref fa) = true) (b : Binds K fd ["rows", "places"] []) (T : Bl mg) (Z_Rota : Tx_Rota K mg C_Rota) (ER : Ers K mg C_Rota C_TurnError C_InvalidRota C_InvalidSeason) (D_is_sequence : Df P w K mg base CT0 BB 1 "is_sequence" 1 ["value"] f_is_sequence) (D_is_row : Df P w K mg base CT0 BB 5 "is_row" 2 ["row", "places"] f_is_row) : Df P w K mg base CT0 BB 6 "are_rows" 2 ["rows", "places"] f_are_rows :=
  ⟨⟨fa, fd, fn_def (N := N_are_rows) (ps := ["rows", "places"]) (k := 5) (body := b_are_rows) F S_are_rows (by decide) fun _ _ _ _ _ _ hr => l_are_rows T Z_Rota ER D_is_sequence D_is_row hr, h1, h2, b⟩, fnOf_len⟩
abbrev N_Rota_init : List Str := ["self", "places", "rows", "turned", "moves"]
def S0t0_Rota_init : SSem := (sRaise 1 (lCons (fC (.str "places")) lNil))
def K0t0_Rota_init : SSem := sSeq S0t0_Rota_init sNil
theorem U0t0_Rota_init {a : Dn.Slot} {l : Env'} : K0t0_Rota_init (a :: l) = sSeq S0t0_Rota_init sNil (a :: l) := rfl
def S1t0_Rota_init : SSem := (sRaise 1 (lCons (fC (.str "rows")) lNil))
def K1t0_Rota_init : SSem := sSeq S1t0_Rota_init sNil
theorem U1t0_Rota_init {a : Dn.Slot} {l : Env'} : K1t0_Rota_init (a :: l) = sSeq S1t0_Rota_init sNil (a :: l) := rfl
def C0_Rota_init : SemN := nLc [3, 4] (iSeq (fVar 2)) (tgTup 2 (tgCons (tgName 3) (tgCons (tgName 4) tgNil))) fYes (fTup (lCons (fUn pTuple (fUn pSorted (fVar 3))) (lCons (fUn pTuple (fVar 4)) lNil)))
def S0_Rota_init : SSem := (sIf (fNotT (fTru (fCall f_is_whole [] (lCons (fVar 1) (lCons (fC (.int 1)) lNil))))) K0t0_Rota_init sNil)
def S1_Rota_init : SSem := (sIf (fNotT (fTru (fCall f_are_rows [] (lCons (fVar 2) (lCons (fVar 1) lNil))))) K1t0_Rota_init sNil)
def S2_Rota_init : SSem := (sFldSet 0 0 0 (fVar 1))
def S3_Rota_init : SSem := (sFldSet 0 0 1 (fUn pTuple (fNew C0_Rota_init)))
def K3_Rota_init : SSem := sSeq S3_Rota_init sNil
theorem U3_Rota_init {a : Dn.Slot} {l : Env'} : K3_Rota_init (a :: l) = sSeq S3_Rota_init sNil (a :: l) := rfl
def K2_Rota_init : SSem := sSeq S2_Rota_init K3_Rota_init
theorem U2_Rota_init {a : Dn.Slot} {l : Env'} : K2_Rota_init (a :: l) = sSeq S2_Rota_init K3_Rota_init (a :: l) := rfl
def K1_Rota_init : SSem := sSeq S1_Rota_init K2_Rota_init
theorem U1_Rota_init {a : Dn.Slot} {l : Env'} : K1_Rota_init (a :: l) = sSeq S1_Rota_init K2_Rota_init (a :: l) := rfl
def K0_Rota_init : SSem := sSeq S0_Rota_init K1_Rota_init
theorem U0_Rota_init {a : Dn.Slot} {l : Env'} : K0_Rota_init (a :: l) = sSeq S0_Rota_init K1_Rota_init (a :: l) := rfl
def b_Rota : SSem := K0_Rota_init
def f_Rota : List AV → T AV := fnInit 2 5 0 2 b_Rota
theorem S_Rota : FnScope N_Rota_init ["self", "places", "rows"] (defScope s_Rota_init) := ⟨rfl, rfl, rfl, by decide +kernel, rfl, by decide +kernel, by decide +kernel⟩
theorem l_Rota {C_Rota : Addr} {C_TurnError : Addr} {C_InvalidRota : Addr} {C_InvalidSeason : Addr} (T : Bl mg) (Z_Rota : Tx_Rota K mg C_Rota) (ER : Ers K mg C_Rota C_TurnError C_InvalidRota C_InvalidSeason) (D_is_whole : Df P w K mg base CT0 BB 2 "is_whole" 2 ["value", "least"] f_is_whole) (D_InvalidRota : Er P w K mg base "InvalidRota" "word" C_InvalidRota) (D_are_rows : Df P w K mg base CT0 BB 6 "are_rows" 2 ["rows", "places"] f_are_rows) {f : Addr} {cdv : Value} {A : Around} {outer : List Env} {s : Shared} {H : Hp} {E : XK} (hr : Room 6 (A.deeper (envOfC "Rota.__init__" (defScope s_Rota_init) s.heap.objs.size f cdv))) :
  JSs (cxOf (L2.CX P w) P w K mg base N_Rota_init "Rota.__init__" (defScope s_Rota_init) f cdv A outer s H E) CT0 BB E (defBody s_Rota_init) b_Rota := by
  have S := S_Rota
  have h64 : (A.deeper (envOfC "Rota.__init__" (defScope s_Rota_init) s.heap.objs.size f cdv)).units + 64 < cLine := by
    have := hr.un
    omega
  have h65 : (A.deeper (envOfC "Rota.__init__" (defScope s_Rota_init) s.heap.objs.size f cdv)).units + 65 < cLine := by
    have := hr.un
    omega
  have h1 : (A.deeper (envOfC "Rota.__init__" (defScope s_Rota_init) s.heap.objs.size f cdv)).units + 1 < cLine := by
    have := hr.un
    omega
  refine js_cons ?_ (js_cons ?_ (js_cons ?_ (js_cons ?_ js_nil)))
  · refine js_if (jt_not (jt_truth (j_callD (lv := 2) D_is_whole (hr.mono (by decide)) passB (jl_cons (j_var 1) (jl_cons j_int jl_nil))))) ?_ ?_
    · refine js_cons ?_ js_nil
      · exact (js_raiseE (c := 1) D_InvalidRota rfl (takes_of rfl rfl rfl rfl) (hr.mono (by decide)) (by rfl) (jl_cons j_str jl_nil))
    · exact js_nil
  · refine js_if (jt_not (jt_truth (j_callD (lv := 6) D_are_rows (hr.mono (by decide)) passB (jl_cons (j_var 2) (jl_cons (j_var 1) jl_nil))))) ?_ ?_
    · refine js_cons ?_ js_nil
      · exact (js_raiseE (c := 1) D_InvalidRota rfl (takes_of rfl rfl rfl rfl) (hr.mono (by decide)) (by rfl) (jl_cons j_str jl_nil))
    · exact js_nil
  · exact (js_fld 0 (fld_Rota_places Z_Rota) (j_var 1) (by decide))
  · exact (js_fld 0 (fld_Rota_rows Z_Rota) (j_callTy call_tuple_of o_tuple (by rfl) T.n_tuple (by decide +kernel) (j_new (jn_lc (own := [("turned", 3), ("moves", 4)]) (by rfl) S.nd (blkOk_by (N := N_Rota_init) (sc := defScope s_Rota_init) (by decide +kernel)) (by decide) (ji_seq (j_var 2)) (fun _ _ _ _ _ => (jg_tup (by rfl) (jg_cons (jg_name 3 S.nd) (jg_cons (jg_name 4 S.nd) jg_nil)))) (fun _ _ _ _ _ => jts_nil) (fun _ _ _ _ _ => (j_tup (jl_cons (j_callTy call_tuple_of o_tuple (by rfl) T.n_tuple (by decide +kernel) (j_callB cr_sortedA o_sorted (by rfl) T.n_sorted (by decide +kernel) (j_var 3))) (jl_cons (j_callTy call_tuple_of o_tuple (by rfl) T.n_tuple (by decide +kernel) (j_var 4)) jl_nil))))))) (by decide))
theorem d_Rota {C_Rota : Addr} {C_TurnError : Addr} {C_InvalidRota : Addr} {C_InvalidSeason : Addr} {fa : Addr} {fd : FuncData} (F : Fun K "__init__" "Rota.__init__" s_Rota_init fa fd) (M : Mk K C_Rota fa) (b : Binds K fd ["self", "places", "rows"] []) (T : Bl mg) (Z_Rota : Tx_Rota K mg C_Rota) (ER : Ers K mg C_Rota C_TurnError C_InvalidRota C_InvalidSeason) (D_is_whole : Df P w K mg base CT0 BB 2 "is_whole" 2 ["value", "least"] f_is_whole) (D_InvalidRota : Er P w K mg base "InvalidRota" "word" C_InvalidRota) (D_are_rows : Df P w K mg base CT0 BB 6 "are_rows" 2 ["rows", "places"] f_are_rows) : Cf P w K mg base CT0 BB 7 "Rota" 0 2 ["self", "places", "rows"] f_Rota :=
  ⟨⟨C_Rota, fa, fd, M, init_def F S_Rota (by decide) (by decide) fun _ _ _ _ _ _ hr => l_Rota T Z_Rota ER D_is_whole D_InvalidRota D_are_rows hr, Z_Rota.mgC, b⟩, rfl, fnInit_len⟩
abbrev N_law_heard : List Str := ["_law_places", "_law_rows", "_law_found", "e"]
theorem hx_law_heard {X : Cx} {C_Rota : Addr} {C_TurnError : Addr} {C_InvalidRota : Addr} {C_InvalidSeason : Addr} (Z_Rota : Tx_Rota X.K X.mg C_Rota) (ER : Ers X.K X.mg C_Rota C_TurnError C_InvalidRota C_InvalidSeason) (T : Bl X.mg) {Ex : XK} : ∀ (k : Nat) (xs : List AV) (g : Dn.G) (H : Hp) (C d : Addr) (us : List V) (ρ : Env') (σ : L2.St) (a : Addr) (D : Ends), sb_InvalidRota k = true → Rel (gc X CT0) BB g ρ σ H → X.mg (CT0 k).1 = some (.ref C) → H d = some (.xd ((CT0 k).2.zip us)) → us.length = (CT0 k).2.length → RepsG (gc X CT0) g H xs us → okT (gc X CT0) BB Ex g H ((hndE 3 2 (fun _ => true) (fun _ => false) "other") k xs ρ) (endOk (gc X CT0) BB D) → H a = none →
    tsE X.K 3 2 C_TurnError C_InvalidSeason "word" "other" a (.ref C) (some d) { nx := fun σ' H' => D.nx (σ'.set 3 none) H', rt := D.rt, bk := fun σ' H' => D.bk (σ'.set 3 none) H', ct := fun σ' H' => D.ct (σ'.set 3 none) H' } (σ.set 3 (some (.ref a))) H := fun k xs g H C d us ρ σ a D hk R hm hd hl rx h na => by
  obtain rfl : k = 1 := beq_iff_eq.mp hk
  have e : some (Value.ref C_InvalidRota) = some (Value.ref C) := ER.e_InvalidRota.mgC.symm.trans hm
  cases e
  exact hts_E R (kit_of ER.e_TurnError ER.s_InvalidRota_TurnError (by intro z; cases z)) (kit_of ER.e_InvalidSeason ER.s_InvalidRota_InvalidSeason (fun _ => ER.n_InvalidRota_InvalidSeason)) ER.x_InvalidRota.ex ER.e_InvalidRota.clI ER.x_InvalidRota.xf ER.x_InvalidRota.no rfl hd hl rx h
def S0_law_heard : SSem := (sSet 2 (fC .non))
def S1_law_heard : SSem := (sTryB (mDrop (mArgs (lCons (fVar 0) (lCons (fVar 1) lNil)) f_Rota)) sb_InvalidRota (hndE 3 2 (fun _ => true) (fun _ => false) "other"))
def S2_law_heard : SSem := (sRet (fVar 2))
def K2_law_heard : SSem := sSeq S2_law_heard sNil
theorem U2_law_heard {a : Dn.Slot} {l : Env'} : K2_law_heard (a :: l) = sSeq S2_law_heard sNil (a :: l) := rfl
def K1_law_heard : SSem := sSeq S1_law_heard K2_law_heard
theorem U1_law_heard {a : Dn.Slot} {l : Env'} : K1_law_heard (a :: l) = sSeq S1_law_heard K2_law_heard (a :: l) := rfl
def K0_law_heard : SSem := sSeq S0_law_heard K1_law_heard
theorem U0_law_heard {a : Dn.Slot} {l : Env'} : K0_law_heard (a :: l) = sSeq S0_law_heard K1_law_heard (a :: l) := rfl
def b_law_heard : SSem := K0_law_heard
def f_law_heard : List AV → T AV := fnOf 2 4 b_law_heard
theorem S_law_heard : FnScope N_law_heard ["_law_places", "_law_rows"] (defScope s_law_heard) := ⟨rfl, rfl, rfl, by decide +kernel, rfl, by decide +kernel, by decide +kernel⟩
theorem l_law_heard {C_Rota : Addr} {C_TurnError : Addr} {C_InvalidRota : Addr} {C_InvalidSeason : Addr} (T : Bl mg) (Z_Rota : Tx_Rota K mg C_Rota) (ER : Ers K mg C_Rota C_TurnError C_InvalidRota C_InvalidSeason) (D_Rota : Cf P w K mg base CT0 BB 7 "Rota" 0 2 ["self", "places", "rows"] f_Rota) {f : Addr} {cdv : Value} {A : Around} {outer : List Env} {s : Shared} {H : Hp} {E : XK} (hr : Room 8 (A.deeper (envOfC "_law_heard" (defScope s_law_heard) s.heap.objs.size f cdv))) :
  JSs (cxOf (L2.CX P w) P w K mg base N_law_heard "_law_heard" (defScope s_law_heard) f cdv A outer s H E) CT0 BB E (defBody s_law_heard) b_law_heard := by
  have S := S_law_heard
  have h64 : (A.deeper (envOfC "_law_heard" (defScope s_law_heard) s.heap.objs.size f cdv)).units + 64 < cLine := by
    have := hr.un
    omega
  have h65 : (A.deeper (envOfC "_law_heard" (defScope s_law_heard) s.heap.objs.size f cdv)).units + 65 < cLine := by
    have := hr.un
    omega
  have h1 : (A.deeper (envOfC "_law_heard" (defScope s_law_heard) s.heap.objs.size f cdv)).units + 1 < cLine := by
    have := hr.un
    omega
  refine js_cons ?_ (js_cons ?_ (js_cons ?_ js_nil))
  · exact (js_set 2 j_non S.nd)
  · exact (js_tryB (i := 3) (c := .ref C_InvalidRota) (ts := tsE K 3 2 C_TurnError C_InvalidSeason "word" "other") rfl rfl S.nd (by rfl) (by rfl) ⟨rfl, by decide, Or.inl ER.e_InvalidRota.mgC⟩ (takes_of rfl rfl rfl rfl) (jb_expr (jx_make (lv := 7) D_Rota (hr.mono (by decide)) (fun _ _ => (jl_cons (j_var 0) (jl_cons (j_var 1) jl_nil))))) (xm_InvalidRota Z_Rota ER T) (fun a oe cls d pn hz hf => pss_handE (X := cxOf (L2.CX P w) P w K mg base N_law_heard "_law_heard" (defScope s_law_heard) f cdv A outer s H E) (i := 3) (j := 2) hz hf S.nd (by rfl) (by rfl) (by first | exact Or.inl rfl | exact Or.inr (Or.inl rfl) | exact Or.inr (Or.inr rfl)) (by first | exact Or.inl rfl | exact Or.inr rfl) (by first | exact .inl rfl | exact .inr rfl) (by rfl) T.n_isinstance (by rfl) ER.e_TurnError.mgC (by rfl) ER.e_InvalidSeason.mgC (by decide +kernel) (by decide +kernel) (by decide +kernel) (by decide +kernel) (by intros; rfl) (by intros; rfl)) (hx_law_heard Z_Rota ER T))
  · exact (js_ret (j_var 2))
theorem d_law_heard {C_Rota : Addr} {C_TurnError : Addr} {C_InvalidRota : Addr} {C_InvalidSeason : Addr} {fa : Addr} {fd : FuncData} (F : Fun K "_law_heard" "_law_heard" s_law_heard fa fd) (h1 : mg "_law_heard" = some (.ref fa)) (h2 : PySem.W.keepIn K (.ref fa) = true) (b : Binds K fd ["_law_places", "_law_rows"] []) (T : Bl mg) (Z_Rota : Tx_Rota K mg C_Rota) (ER : Ers K mg C_Rota C_TurnError C_InvalidRota C_InvalidSeason) (D_Rota : Cf P w K mg base CT0 BB 7 "Rota" 0 2 ["self", "places", "rows"] f_Rota) : Df P w K mg base CT0 BB 9 "_law_heard" 2 ["_law_places", "_law_rows"] f_law_heard :=
  ⟨⟨fa, fd, fn_def (N := N_law_heard) (ps := ["_law_places", "_law_rows"]) (k := 8) (body := b_law_heard) F S_law_heard (by decide) fun _ _ _ _ _ _ hr => l_law_heard T Z_Rota ER D_Rota hr, h1, h2, b⟩, fnOf_len⟩
abbrev N_law_wrong : List Str := ["_law_box_here", "_law_told", "_law_places", "_law_whole", "_law_some"]
def S0_law_wrong : SSem := (sPar 2 3 (lCons (fBin pIx (fVar 1) (fC (.int 0))) (lCons (fNew (nListRange (fBin pIx (fVar 1) (fC (.int 0))))) lNil)))
def S1_law_wrong : SSem := (sSet 4 (fNew (nLst (lCons (fC .non) (lCons (fC (.int 3)) (lCons (fC (.str "turn 0")) (lCons (fTup (lCons (fNew (nLst lNil)) (lCons (fVar 3) (lCons (fNew (nLst lNil)) lNil)))) (lCons (fTup (lCons (fNew (nLst lNil)) lNil)) (lCons (fNew (nLst (lCons (fNew (nLst lNil)) (lCons (fVar 3) lNil)))) (lCons (fTup (lCons (fNew (nLst (lCons (fC (.int 0)) (lCons (fC (.int 0)) lNil)))) (lCons (fVar 3) lNil))) (lCons (fTup (lCons (fNew (nLst (lCons (fVar 2) lNil))) (lCons (fVar 3) lNil))) lNil)))))))))))
def S2_law_wrong : SSem := (sSet 4 (fBin pAdd (fVar 4) (fNew (nLst (lCons (fTup (lCons (fNew (nLst lNil)) (lCons (fSl (fVar 3) none (some (fUn pNeg (fC (.int 1))))) lNil))) (lCons (fTup (lCons (fNew (nLst lNil)) (lCons (fBin pAdd (fVar 3) (fNew (nLst (lCons (fVar 2) lNil)))) lNil))) (lCons (fTup (lCons (fNew (nLst lNil)) (lCons (fBin pMul (fNew (nLst (lCons (fC (.int 0)) lNil))) (fBin pAdd (fVar 2) (fC (.int 1)))) lNil))) (lCons (fTup (lCons (fNew (nLst (lCons (fUn pNeg (fC (.int 1))) lNil))) (lCons (fVar 3) lNil))) (lCons (fTup (lCons (fC (.str "")) (lCons (fVar 3) lNil))) lNil)))))))))
def S3_law_wrong : SSem := (sRet (fCall f_law_pick [] (lCons (fVar 0) (lCons (fBin pAdd (fVar 4) (fNew (nLst (lCons (fTup (lCons (fNew (nLst (lCons (fC (.bl true)) lNil))) (lCons (fVar 3) lNil))) (lCons (fTup (lCons (fNew (nLst lNil)) (lCons (fC .non) lNil))) (lCons (fTup (lCons (fNew (nLst (lCons (fC .non) lNil))) (lCons (fVar 3) lNil))) (lCons (fTup (lCons (fNew (nLst (lCons (fC (.int 0)) lNil))) (lCons (fBin pMulS (fC (.str "0")) (fVar 2)) lNil))) lNil))))))) lNil))))
def K3_law_wrong : SSem := sSeq S3_law_wrong sNil
theorem U3_law_wrong {a : Dn.Slot} {l : Env'} : K3_law_wrong (a :: l) = sSeq S3_law_wrong sNil (a :: l) := rfl
def K2_law_wrong : SSem := sSeq S2_law_wrong K3_law_wrong
theorem U2_law_wrong {a : Dn.Slot} {l : Env'} : K2_law_wrong (a :: l) = sSeq S2_law_wrong K3_law_wrong (a :: l) := rfl
def K1_law_wrong : SSem := sSeq S1_law_wrong K2_law_wrong
theorem U1_law_wrong {a : Dn.Slot} {l : Env'} : K1_law_wrong (a :: l) = sSeq S1_law_wrong K2_law_wrong (a :: l) := rfl
def K0_law_wrong : SSem := sSeq S0_law_wrong K1_law_wrong
theorem U0_law_wrong {a : Dn.Slot} {l : Env'} : K0_law_wrong (a :: l) = sSeq S0_law_wrong K1_law_wrong (a :: l) := rfl
def b_law_wrong : SSem := K0_law_wrong
def f_law_wrong : List AV → T AV := fnOf 2 5 b_law_wrong
theorem S_law_wrong : FnScope N_law_wrong ["_law_box_here", "_law_told"] (defScope s_law_wrong) := ⟨rfl, rfl, rfl, by decide +kernel, rfl, by decide +kernel, by decide +kernel⟩
theorem l_law_wrong {C_Rota : Addr} {C_TurnError : Addr} {C_InvalidRota : Addr} {C_InvalidSeason : Addr} (T : Bl mg) (Z_Rota : Tx_Rota K mg C_Rota) (ER : Ers K mg C_Rota C_TurnError C_InvalidRota C_InvalidSeason) (D_law_pick : Df P w K mg base CT0 BB 2 "_law_pick" 2 ["_law_box_here", "_law_items"] f_law_pick) {f : Addr} {cdv : Value} {A : Around} {outer : List Env} {s : Shared} {H : Hp} {E : XK} (hr : Room 2 (A.deeper (envOfC "_law_wrong" (defScope s_law_wrong) s.heap.objs.size f cdv))) :
  JSs (cxOf (L2.CX P w) P w K mg base N_law_wrong "_law_wrong" (defScope s_law_wrong) f cdv A outer s H E) CT0 BB E (defBody s_law_wrong) b_law_wrong := by
  have S := S_law_wrong
  have h64 : (A.deeper (envOfC "_law_wrong" (defScope s_law_wrong) s.heap.objs.size f cdv)).units + 64 < cLine := by
    have := hr.un
    omega
  have h65 : (A.deeper (envOfC "_law_wrong" (defScope s_law_wrong) s.heap.objs.size f cdv)).units + 65 < cLine := by
    have := hr.un
    omega
  have h1 : (A.deeper (envOfC "_law_wrong" (defScope s_law_wrong) s.heap.objs.size f cdv)).units + 1 < cLine := by
    have := hr.un
    omega
  refine js_cons ?_ (js_cons ?_ (js_cons ?_ (js_cons ?_ js_nil)))
  · exact (js_par 2 3 (by rfl) S.nd (jl_cons (j_ix (j_var 1) j_int) (jl_cons (j_new (jn_listRange (by rfl) (by rfl) T.n_list (by rfl) T.n_range (j_ix (j_var 1) j_int))) jl_nil)))
  · exact (js_set 4 (j_new (jn_lst (jl_cons j_non (jl_cons j_int (jl_cons j_str (jl_cons (j_tup (jl_cons (j_new (jn_lst jl_nil)) (jl_cons (j_var 3) (jl_cons (j_new (jn_lst jl_nil)) jl_nil)))) (jl_cons (j_tup (jl_cons (j_new (jn_lst jl_nil)) jl_nil)) (jl_cons (j_new (jn_lst (jl_cons (j_new (jn_lst jl_nil)) (jl_cons (j_var 3) jl_nil)))) (jl_cons (j_tup (jl_cons (j_new (jn_lst (jl_cons j_int (jl_cons j_int jl_nil)))) (jl_cons (j_var 3) jl_nil))) (jl_cons (j_tup (jl_cons (j_new (jn_lst (jl_cons (j_var 2) jl_nil))) (jl_cons (j_var 3) jl_nil))) jl_nil)))))))))) S.nd)
  · exact (js_set 4 (j_bin' op_addA o_add (j_var 4) (j_new (jn_lst (jl_cons (j_tup (jl_cons (j_new (jn_lst jl_nil)) (jl_cons (j_sl (j_var 3) jo_none (jo_some (j_un un_neg o_neg j_int))) jl_nil))) (jl_cons (j_tup (jl_cons (j_new (jn_lst jl_nil)) (jl_cons (j_bin' op_addA o_add (j_var 3) (j_new (jn_lst (jl_cons (j_var 2) jl_nil)))) jl_nil))) (jl_cons (j_tup (jl_cons (j_new (jn_lst jl_nil)) (jl_cons (j_bin' op_mulA o_mul (j_new (jn_lst (jl_cons j_int jl_nil))) (j_bin' op_addA o_add (j_var 2) j_int)) jl_nil))) (jl_cons (j_tup (jl_cons (j_new (jn_lst (jl_cons (j_un un_neg o_neg j_int) jl_nil))) (jl_cons (j_var 3) jl_nil))) (jl_cons (j_tup (jl_cons j_str (jl_cons (j_var 3) jl_nil))) jl_nil)))))))) S.nd)
  · exact (js_ret (j_callD (lv := 2) D_law_pick (hr.mono (by decide)) passB (jl_cons (j_var 0) (jl_cons (j_bin' op_addA o_add (j_var 4) (j_new (jn_lst (jl_cons (j_tup (jl_cons (j_new (jn_lst (jl_cons j_bl jl_nil))) (jl_cons (j_var 3) jl_nil))) (jl_cons (j_tup (jl_cons (j_new (jn_lst jl_nil)) (jl_cons j_non jl_nil))) (jl_cons (j_tup (jl_cons (j_new (jn_lst (jl_cons j_non jl_nil))) (jl_cons (j_var 3) jl_nil))) (jl_cons (j_tup (jl_cons (j_new (jn_lst (jl_cons j_int jl_nil))) (jl_cons (j_bin' op_mulS o_mulS j_str (j_var 2)) jl_nil))) jl_nil))))))) jl_nil))))
theorem d_law_wrong {C_Rota : Addr} {C_TurnError : Addr} {C_InvalidRota : Addr} {C_InvalidSeason : Addr} {fa : Addr} {fd : FuncData} (F : Fun K "_law_wrong" "_law_wrong" s_law_wrong fa fd) (h1 : mg "_law_wrong" = some (.ref fa)) (h2 : PySem.W.keepIn K (.ref fa) = true) (b : Binds K fd ["_law_box_here", "_law_told"] []) (T : Bl mg) (Z_Rota : Tx_Rota K mg C_Rota) (ER : Ers K mg C_Rota C_TurnError C_InvalidRota C_InvalidSeason) (D_law_pick : Df P w K mg base CT0 BB 2 "_law_pick" 2 ["_law_box_here", "_law_items"] f_law_pick) : Df P w K mg base CT0 BB 3 "_law_wrong" 2 ["_law_box_here", "_law_told"] f_law_wrong :=
  ⟨⟨fa, fd, fn_def (N := N_law_wrong) (ps := ["_law_box_here", "_law_told"]) (k := 2) (body := b_law_wrong) F S_law_wrong (by decide) fun _ _ _ _ _ _ hr => l_law_wrong T Z_Rota ER D_law_pick hr, h1, h2, b⟩, fnOf_len⟩
abbrev N_law_value : List Str := ["_law_box_here", "_law_some", "_law_deep", "_law_turn"]
def S3f0_law_value : SSem := (sSet 2 (fIf (fBlT (fBin pEq (fBin pMod (fVar 3) (fC (.int 2))) (fC (.int 0)))) (fNew (nLst (lCons (fVar 2) (lCons (fC (.int 1)) lNil)))) (fTup (lCons (fVar 2) lNil))))
def K3f0_law_value : SSem := sSeq S3f0_law_value sNil
theorem U3f0_law_value {a : Dn.Slot} {l : Env'} : K3f0_law_value (a :: l) = sSeq S3f0_law_value sNil (a :: l) := rfl
def S0_law_value : SSem := (sSet 1 (fNew (nLst (lCons (fC (.int 0)) (lCons (fUn pNeg (fC (.int 3))) (lCons (fBin pPow (fC (.int 10)) (fC (.int 9))) (lCons (fC (.str "")) (lCons (fC (.str "turn")) (lCons (fC .non) (lCons (fC (.bl true)) (lCons (fC (.bl false)) (lCons (fNew (nLst lNil)) (lCons (fNew (nLst (lCons (fC (.int 1)) (lCons (fC (.str "move")) lNil)))) (lCons (fTup (lCons (fC (.int 0)) (lCons (fC .non) lNil))) (lCons (fTup lNil) lNil)))))))))))))))
def S1_law_value : SSem := (sSet 1 (fBin pAdd (fVar 1) (fNew (nLst (lCons (fC (.str "none")) (lCons (fC (.int 2)) (lCons (fC (.str "x y")) (lCons (fNew (nLst (lCons (fC (.str "0")) lNil))) (lCons (fTup (lCons (fC (.int 1)) (lCons (fC (.int 0)) lNil))) (lCons (fC (.int 1)) lNil))))))))))
def S2_law_value : SSem := (sSet 2 (fTup lNil))
def S3_law_value : SSem := (sFor (iRange1 (fC (.int 7))) (tgName 3) K3f0_law_value)
def S4_law_value : SSem := (sRet (fCall f_law_pick [] (lCons (fVar 0) (lCons (fBin pAdd (fVar 1) (fNew (nLst (lCons (fVar 2) lNil)))) lNil))))
def K4_law_value : SSem := sSeq S4_law_value sNil
theorem U4_law_value {a : Dn.Slot} {l : Env'} : K4_law_value (a :: l) = sSeq S4_law_value sNil (a :: l) := rfl
def K3_law_value : SSem := sSeq S3_law_value K4_law_value
theorem U3_law_value {a : Dn.Slot} {l : Env'} : K3_law_value (a :: l) = sSeq S3_law_value K4_law_value (a :: l) := rfl
def K2_law_value : SSem := sSeq S2_law_value K3_law_value
theorem U2_law_value {a : Dn.Slot} {l : Env'} : K2_law_value (a :: l) = sSeq S2_law_value K3_law_value (a :: l) := rfl
def K1_law_value : SSem := sSeq S1_law_value K2_law_value
theorem U1_law_value {a : Dn.Slot} {l : Env'} : K1_law_value (a :: l) = sSeq S1_law_value K2_law_value (a :: l) := rfl
def K0_law_value : SSem := sSeq S0_law_value K1_law_value
theorem U0_law_value {a : Dn.Slot} {l : Env'} : K0_law_value (a :: l) = sSeq S0_law_value K1_law_value (a :: l) := rfl
def b_law_value : SSem := K0_law_value
def f_law_value : List AV → T AV := fnOf 1 4 b_law_value
theorem S_law_value : FnScope N_law_value ["_law_box_here"] (defScope s_law_value) := ⟨rfl, rfl, rfl, by decide +kernel, rfl, by decide +kernel, by decide +kernel⟩
theorem l_law_value {C_Rota : Addr} {C_TurnError : Addr} {C_InvalidRota : Addr} {C_InvalidSeason : Addr} (T : Bl mg) (Z_Rota : Tx_Rota K mg C_Rota) (ER : Ers K mg C_Rota C_TurnError C_InvalidRota C_InvalidSeason) (D_law_pick : Df P w K mg base CT0 BB 2 "_law_pick" 2 ["_law_box_here", "_law_items"] f_law_pick) {f : Addr} {cdv : Value} {A : Around} {outer : List Env} {s : Shared} {H : Hp} {E : XK} (hr : Room 2 (A.deeper (envOfC "_law_value" (defScope s_law_value) s.heap.objs.size f cdv))) :
  JSs (cxOf (L2.CX P w) P w K mg base N_law_value "_law_value" (defScope s_law_value) f cdv A outer s H E) CT0 BB E (defBody s_law_value) b_law_value := by
  have S := S_law_value
  have h64 : (A.deeper (envOfC "_law_value" (defScope s_law_value) s.heap.objs.size f cdv)).units + 64 < cLine := by
    have := hr.un
    omega
  have h65 : (A.deeper (envOfC "_law_value" (defScope s_law_value) s.heap.objs.size f cdv)).units + 65 < cLine := by
    have := hr.un
    omega
  have h1 : (A.deeper (envOfC "_law_value" (defScope s_law_value) s.heap.objs.size f cdv)).units + 1 < cLine := by
    have := hr.un
    omega
  refine js_cons ?_ (js_cons ?_ (js_cons ?_ (js_cons ?_ (js_cons ?_ js_nil))))
  · exact (js_set 1 (j_new (jn_lst (jl_cons j_int (jl_cons (j_un un_neg o_neg j_int) (jl_cons (j_bin op_pow o_pow j_int j_int) (jl_cons j_str (jl_cons j_str (jl_cons j_non (jl_cons j_bl (jl_cons j_bl (jl_cons (j_new (jn_lst jl_nil)) (jl_cons (j_new (jn_lst (jl_cons j_int (jl_cons j_str jl_nil)))) (jl_cons (j_tup (jl_cons j_int (jl_cons j_non jl_nil))) (jl_cons (j_tup jl_nil) jl_nil)))))))))))))) S.nd)
  · exact (js_set 1 (j_bin' op_addA o_add (j_var 1) (j_new (jn_lst (jl_cons j_str (jl_cons j_int (jl_cons j_str (jl_cons (j_new (jn_lst (jl_cons j_str jl_nil))) (jl_cons (j_tup (jl_cons j_int (jl_cons j_int jl_nil))) (jl_cons j_int jl_nil))))))))) S.nd)
  · exact (js_set 2 (j_tup jl_nil) S.nd)
  · refine js_for passOwnB (by rfl) (ji_range1 (by rfl) T.n_range j_int) (jg_name 3 S.nd) ?_
    refine js_cons ?_ js_nil
    · exact (js_set 2 (j_ifExp (jt_cmp (op_eqD h64) o_eq.op (j_bin op_mod o_mod (j_var 3) j_int) j_int (nomark _)) (j_new (jn_lst (jl_cons (j_var 2) (jl_cons j_int jl_nil)))) (j_tup (jl_cons (j_var 2) jl_nil))) S.nd)
  · exact (js_ret (j_callD (lv := 2) D_law_pick (hr.mono (by decide)) passB (jl_cons (j_var 0) (jl_cons (j_bin' op_addA o_add (j_var 1) (j_new (jn_lst (jl_cons (j_var 2) jl_nil)))) jl_nil))))
theorem d_law_value {C_Rota : Addr} {C_TurnError : Addr} {C_InvalidRota : Addr} {C_InvalidSeason : Addr} {fa : Addr} {fd : FuncData} (F : Fun K "_law_value" "_law_value" s_law_value fa fd) (h1 : mg "_law_value" = some (.ref fa)) (h2 : PySem.W.keepIn K (.ref fa) = true) (b : Binds K fd ["_law_box_here"] []) (T : Bl mg) (Z_Rota : Tx_Rota K mg C_Rota) (ER : Ers K mg C_Rota C_TurnError C_InvalidRota C_InvalidSeason) (D_law_pick : Df P w K mg base CT0 BB 2 "_law_pick" 2 ["_law_box_here", "_law_items"] f_law_pick) : Df P w K mg base CT0 BB 3 "_law_value" 1 ["_law_box_here"] f_law_value :=
  ⟨⟨fa, fd, fn_def (N := N_law_value) (ps := ["_law_box_here"]) (k := 2) (body := b_law_value) F S_law_value (by decide) fun _ _ _ _ _ _ hr => l_law_value T Z_Rota ER D_law_pick hr, h1, h2, b⟩, fnOf_len⟩
abbrev N_law : List Str := ["_law_script", "_law_k", "_law_box_here", "_law_turn", "_law_told", "_law_rows", "_law_at", "_law_bent", "_law_odd", "_law_turned", "_law_moves"]
def C0_law : SemN := nLc [9, 10] (iSeq (fBin pIx (fVar 4) (fC (.int 1)))) (tgTup 2 (tgCons (tgName 9) (tgCons (tgName 10) tgNil))) fYes (fTup (lCons (fVar 9) (lCons (fVar 10) lNil)))
def S0f1f2t0_law : SSem := (sRet (fC (.bl false)))
def K0f1f2t0_law : SSem := sSeq S0f1f2t0_law sNil
theorem U0f1f2t0_law {a : Dn.Slot} {l : Env'} : K0f1f2t0_law (a :: l) = sSeq S0f1f2t0_law sNil (a :: l) := rfl
def S0f1f5t0_law : SSem := (sRet (fC (.bl false)))
def K0f1f5t0_law : SSem := sSeq S0f1f5t0_law sNil
theorem U0f1f5t0_law {a : Dn.Slot} {l : Env'} : K0f1f5t0_law (a :: l) = sSeq S0f1f5t0_law sNil (a :: l) := rfl
def S0f1f7t0_law : SSem := (sRet (fC (.bl false)))
def K0f1f7t0_law : SSem := sSeq S0f1f7t0_law sNil
theorem U0f1f7t0_law {a : Dn.Slot} {l : Env'} : K0f1f7t0_law (a :: l) = sSeq S0f1f7t0_law sNil (a :: l) := rfl
def S0f1f0_law : SSem := (sSet 4 (fCall f_law_rota [] (lCons (fVar 2) (lCons (fC (.int 6)) (lCons (fC (.int 5)) lNil)))))
def S0f1f1_law : SSem := (sSet 5 (fNew C0_law))
def S0f1f2_law : SSem := (sIf (fOrT (fBlT (fBin pNotIs (fCall f_law_heard [] (lCons (fBin pIx (fVar 4) (fC (.int 0))) (lCons (fVar 5) lNil))) (fC .non))) (fBlT (fBin pNotIs (fCall f_law_heard [] (lCons (fBin pIx (fVar 4) (fC (.int 0))) (lCons (fUn pTuple (fVar 5)) lNil))) (fC .non)))) K0f1f2t0_law sNil)
def S0f1f3_law : SSem := (sSet 6 (fCall f_law_take [] (lCons (fVar 2) (lCons (fBin pAdd (fUn pLen (fVar 5)) (fC (.int 1))) lNil))))
def S0f1f4_law : SSem := (sSet 7 (fBin pAdd (fBin pAdd (fSl (fVar 5) none (some (fVar 6))) (fNew (nLst (lCons (fCall f_law_wrong [] (lCons (fVar 2) (lCons (fVar 4) lNil))) lNil)))) (fSl (fVar 5) (some (fVar 6)) none)))
def S0f1f5_law : SSem := (sIf (fOrT (fBlT (fBin pNe (fCall f_law_heard [] (lCons (fBin pIx (fVar 4) (fC (.int 0))) (lCons (fVar 7) lNil))) (fC (.str "rows")))) (fBlT (fBin pNe (fCall f_law_heard [] (lCons (fBin pIx (fVar 4) (fC (.int 0))) (lCons (fUn pTuple (fVar 7)) lNil))) (fC (.str "rows"))))) K0f1f5t0_law sNil)
def S0f1f6_law : SSem := (sSet 8 (fCall f_law_pick [] (lCons (fVar 2) (lCons (fNew (nLst (lCons (fC (.int 0)) (lCons (fUn pNeg (fC (.int 1))) (lCons (fC (.bl true)) (lCons (fC .non) (lCons (fC (.str "2")) (lCons (fNew (nLst (lCons (fC (.int 2)) lNil))) lNil)))))))) lNil))))
def S0f1f7_law : SSem := (sIf (fOrT (fBlT (fBin pNe (fCall f_law_heard [] (lCons (fVar 8) (lCons (fVar 7) lNil))) (fC (.str "places")))) (fBlT (fBin pNe (fCall f_law_heard [] (lCons (fBin pIx (fVar 4) (fC (.int 0))) (lCons (fCall f_law_value [] (lCons (fVar 2) lNil)) lNil))) (fC (.str "rows"))))) K0f1f7t0_law sNil)
def K0f1f7_law : SSem := sSeq S0f1f7_law sNil
theorem U0f1f7_law {a : Dn.Slot} {l : Env'} : K0f1f7_law (a :: l) = sSeq S0f1f7_law sNil (a :: l) := rfl
def K0f1f6_law : SSem := sSeq S0f1f6_law K0f1f7_law
theorem U0f1f6_law {a : Dn.Slot} {l : Env'} : K0f1f6_law (a :: l) = sSeq S0f1f6_law K0f1f7_law (a :: l) := rfl
def K0f1f5_law : SSem := sSeq S0f1f5_law K0f1f6_law
theorem U0f1f5_law {a : Dn.Slot} {l : Env'} : K0f1f5_law (a :: l) = sSeq S0f1f5_law K0f1f6_law (a :: l) := rfl
def K0f1f4_law : SSem := sSeq S0f1f4_law K0f1f5_law
theorem U0f1f4_law {a : Dn.Slot} {l : Env'} : K0f1f4_law (a :: l) = sSeq S0f1f4_law K0f1f5_law (a :: l) := rfl
def K0f1f3_law : SSem := sSeq S0f1f3_law K0f1f4_law
theorem U0f1f3_law {a : Dn.Slot} {l : Env'} : K0f1f3_law (a :: l) = sSeq S0f1f3_law K0f1f4_law (a :: l) := rfl
def K0f1f2_law : SSem := sSeq S0f1f2_law K0f1f3_law
theorem U0f1f2_law {a : Dn.Slot} {l : Env'} : K0f1f2_law (a :: l) = sSeq S0f1f2_law K0f1f3_law (a :: l) := rfl
def K0f1f1_law : SSem := sSeq S0f1f1_law K0f1f2_law
theorem U0f1f1_law {a : Dn.Slot} {l : Env'} : K0f1f1_law (a :: l) = sSeq S0f1f1_law K0f1f2_law (a :: l) := rfl
def K0f1f0_law : SSem := sSeq S0f1f0_law K0f1f1_law
theorem U0f1f0_law {a : Dn.Slot} {l : Env'} : K0f1f0_law (a :: l) = sSeq S0f1f0_law K0f1f1_law (a :: l) := rfl
def S0f0_law : SSem := (sSet 2 (fCall f_law_box [] (lCons (fVar 0) (lCons (fVar 1) (lCons (fC (.int 3)) lNil)))))
def S0f1_law : SSem := (sFor (iRange1 (fC (.int 8))) (tgName 3) K0f1f0_law)
def K0f1_law : SSem := sSeq S0f1_law sNil
theorem U0f1_law {a : Dn.Slot} {l : Env'} : K0f1_law (a :: l) = sSeq S0f1_law sNil (a :: l) := rfl
def K0f0_law : SSem := sSeq S0f0_law K0f1_law
theorem U0f0_law {a : Dn.Slot} {l : Env'} : K0f0_law (a :: l) = sSeq S0f0_law K0f1_law (a :: l) := rfl
def S0_law : SSem := (sFor (iRange1 (fBin pMax2 (fC (.int 1)) (fBin pMin2 (fC (.int 3)) (fUn pLen (fVar 0))))) (tgName 1) K0f0_law)
def S1_law : SSem := (sRet (fAnd (fBin pEq (fCall f_law_heard [] (lCons (fC (.int 1)) (lCons (fNew (nLst lNil)) lNil))) (fC (.str "rows"))) (fBin pIs (fCall f_law_heard [] (lCons (fC (.int 1)) (lCons (fNew (nLst (lCons (fTup (lCons (fNew (nLst (lCons (fC (.int 0)) lNil))) (lCons (fNew (nLst (lCons (fC (.int 0)) lNil))) lNil))) lNil))) lNil))) (fC .non))))
def K1_law : SSem := sSeq S1_law sNil
theorem U1_law {a : Dn.Slot} {l : Env'} : K1_law (a :: l) = sSeq S1_law sNil (a :: l) := rfl
def K0_law : SSem := sSeq S0_law K1_law
theorem U0_law {a : Dn.Slot} {l : Env'} : K0_law (a :: l) = sSeq S0_law K1_law (a :: l) := rfl
def b_law : SSem := K0_law
def f_law : List AV → T AV := fnOf 1 11 b_law
theorem S_law : FnScope N_law ["_law_script"] (defScope s_law) := ⟨rfl, rfl, rfl, by decide +kernel, rfl, by decide +kernel, by decide +kernel⟩
theorem l_law {C_Rota : Addr} {C_TurnError : Addr} {C_InvalidRota : Addr} {C_InvalidSeason : Addr} (T : Bl mg) (Z_Rota : Tx_Rota K mg C_Rota) (ER : Ers K mg C_Rota C_TurnError C_InvalidRota C_InvalidSeason) (D_law_box : Df P w K mg base CT0 BB 1 "_law_box" 3 ["_law_script", "_law_k", "_law_own"] f_law_box) (D_law_rota : Df P w K mg base CT0 BB 3 "_law_rota" 3 ["_law_box_here", "_law_most", "_law_rows"] f_law_rota) (D_law_heard : Df P w K mg base CT0 BB 9 "_law_heard" 2 ["_law_places", "_law_rows"] f_law_heard) (D_law_take : Df P w K mg base CT0 BB 1 "_law_take" 2 ["_law_box_here", "_law_bound"] f_law_take) (D_law_wrong : Df P w K mg base CT0 BB 3 "_law_wrong" 2 ["_law_box_here", "_law_told"] f_law_wrong) (D_law_pick : Df P w K mg base CT0 BB 2 "_law_pick" 2 ["_law_box_here", "_law_items"] f_law_pick) (D_law_value : Df P w K mg base CT0 BB 3 "_law_value" 1 ["_law_box_here"] f_law_value) {f : Addr} {cdv : Value} {A : Around} {outer : List Env} {s : Shared} {H : Hp} {E : XK} (hr : Room 9 (A.deeper (envOfC "law" (defScope s_law) s.heap.objs.size f cdv))) :
  JSs (cxOf (L2.CX P w) P w K mg base N_law "law" (defScope s_law) f cdv A outer s H E) CT0 BB E (defBody s_law) b_law := by
  have S := S_law
  have h64 : (A.deeper (envOfC "law" (defScope s_law) s.heap.objs.size f cdv)).units + 64 < cLine := by
    have := hr.un
    omega
  have h65 : (A.deeper (envOfC "law" (defScope s_law) s.heap.objs.size f cdv)).units + 65 < cLine := by
    have := hr.un
    omega
  have h1 : (A.deeper (envOfC "law" (defScope s_law) s.heap.objs.size f cdv)).units + 1 < cLine := by
    have := hr.un
    omega
  refine js_cons ?_ (js_cons ?_ js_nil)
  · refine js_for passOwnB (by rfl) (ji_range1 (by rfl) T.n_range (j_callB2 (call_max2 rfl) o_max2 (by rfl) T.n_max (by decide +kernel) j_int (j_callB2 (call_min2 rfl) o_min2 (by rfl) T.n_min (by decide +kernel) j_int (j_callB call_len o_len (by rfl) T.n_len (by decide +kernel) (j_var 0))))) (jg_name 1 S.nd) ?_
    refine js_cons ?_ (js_cons ?_ js_nil)
    · exact (js_set 2 (j_callD (lv := 1) D_law_box (hr.mono (by decide)) passB (jl_cons (j_var 0) (jl_cons (j_var 1) (jl_cons j_int jl_nil)))) S.nd)
    · refine js_for passOwnB (by rfl) (ji_range1 (by rfl) T.n_range j_int) (jg_name 3 S.nd) ?_
      refine js_cons ?_ (js_cons ?_ (js_cons ?_ (js_cons ?_ (js_cons ?_ (js_cons ?_ (js_cons ?_ (js_cons ?_ js_nil)))))))
      · exact (js_set 4 (j_callD (lv := 3) D_law_rota (hr.mono (by decide)) passB (jl_cons (j_var 2) (jl_cons j_int (jl_cons j_int jl_nil)))) S.nd)
      · exact (js_setLc 5 (own := [("_law_turned", 9), ("_law_moves", 10)]) (by rfl) S.nd (blkOk_by (N := N_law) (sc := defScope s_law) (by decide +kernel)) (by decide) (ji_seq (j_ix (j_var 4) j_int)) (fun _ _ _ _ _ => (jg_tup (by rfl) (jg_cons (jg_name 9 S.nd) (jg_cons (jg_name 10 S.nd) jg_nil)))) (fun _ _ _ _ _ => jts_nil) (fun _ _ _ _ _ => (j_tup (jl_cons (j_var 9) (jl_cons (j_var 10) jl_nil)))))
      · refine js_if (jw_pt (jw_or (jt_cmp op_isnotA o_isnotA.op (j_callD (lv := 9) D_law_heard (hr.mono (by decide)) passB (jl_cons (j_ix (j_var 4) j_int) (jl_cons (j_var 5) jl_nil))) j_non (nomark _)) (jw_or1 (jt_cmp op_isnotA o_isnotA.op (j_callD (lv := 9) D_law_heard (hr.mono (by decide)) passB (jl_cons (j_ix (j_var 4) j_int) (jl_cons (j_callTy call_tuple_of o_tuple (by rfl) T.n_tuple (by decide +kernel) (j_var 5)) jl_nil))) j_non (nomark _))))) ?_ ?_
        · refine js_cons ?_ js_nil
          · exact (js_ret j_bl)
        · exact js_nil
      · exact (js_set 6 (j_callD (lv := 1) D_law_take (hr.mono (by decide)) passB (jl_cons (j_var 2) (jl_cons (j_bin' op_addA o_add (j_callB call_len o_len (by rfl) T.n_len (by decide +kernel) (j_var 5)) j_int) jl_nil))) S.nd)
      · exact (js_set 7 (j_bin' op_addA o_add (j_bin' op_addA o_add (j_sl (j_var 5) jo_none (jo_some (j_var 6))) (j_new (jn_lst (jl_cons (j_callD (lv := 3) D_law_wrong (hr.mono (by decide)) passB (jl_cons (j_var 2) (jl_cons (j_var 4) jl_nil))) jl_nil)))) (j_sl (j_var 5) (jo_some (j_var 6)) jo_none)) S.nd)
      · refine js_if (jw_pt (jw_or (jt_cmp (op_neD h64) o_ne.op (j_callD (lv := 9) D_law_heard (hr.mono (by decide)) passB (jl_cons (j_ix (j_var 4) j_int) (jl_cons (j_var 7) jl_nil))) j_str (nomark _)) (jw_or1 (jt_cmp (op_neD h64) o_ne.op (j_callD (lv := 9) D_law_heard (hr.mono (by decide)) passB (jl_cons (j_ix (j_var 4) j_int) (jl_cons (j_callTy call_tuple_of o_tuple (by rfl) T.n_tuple (by decide +kernel) (j_var 7)) jl_nil))) j_str (nomark _))))) ?_ ?_
        · refine js_cons ?_ js_nil
          · exact (js_ret j_bl)
        · exact js_nil
      · exact (js_set 8 (j_callD (lv := 2) D_law_pick (hr.mono (by decide)) passB (jl_cons (j_var 2) (jl_cons (j_new (jn_lst (jl_cons j_int (jl_cons (j_un un_neg o_neg j_int) (jl_cons j_bl (jl_cons j_non (jl_cons j_str (jl_cons (j_new (jn_lst (jl_cons j_int jl_nil))) jl_nil)))))))) jl_nil))) S.nd)
      · refine js_if (jw_pt (jw_or (jt_cmp (op_neD h64) o_ne.op (j_callD (lv := 9) D_law_heard (hr.mono (by decide)) passB (jl_cons (j_var 8) (jl_cons (j_var 7) jl_nil))) j_str (nomark _)) (jw_or1 (jt_cmp (op_neD h64) o_ne.op (j_callD (lv := 9) D_law_heard (hr.mono (by decide)) passB (jl_cons (j_ix (j_var 4) j_int) (jl_cons (j_callD (lv := 3) D_law_value (hr.mono (by decide)) passB (jl_cons (j_var 2) jl_nil)) jl_nil))) j_str (nomark _))))) ?_ ?_
        · refine js_cons ?_ js_nil
          · exact (js_ret j_bl)
        · exact js_nil
  · exact (js_ret (j_and (j_cmp (op_eqD h64) o_eq.op (j_callD (lv := 9) D_law_heard (hr.mono (by decide)) passB (jl_cons j_int (jl_cons (j_new (jn_lst jl_nil)) jl_nil))) j_str (nomark _)) (j_one (j_cmp op_isA o_isA.op (j_callD (lv := 9) D_law_heard (hr.mono (by decide)) passB (jl_cons j_int (jl_cons (j_new (jn_lst (jl_cons (j_tup (jl_cons (j_new (jn_lst (jl_cons j_int jl_nil))) (jl_cons (j_new (jn_lst (jl_cons j_int jl_nil))) jl_nil))) jl_nil))) jl_nil))) j_non (nomark _)))))
end
end K03
set_option Elab.async false
set_option linter.all false
set_option maxRecDepth 100000
set_option maxHeartbeats 0
namespace K03
open PySem PySem.Spec PyProof.Rows L2 Dn
theorem take_eq {b : Int} (h1 : 1 ≤ b) (h2 : b < 18446744073709551616) : f_law_take [.box, .int b] = T.draw b.toNat fun r => T.ret (AV.int (r : Int)) := take_ok h1 h2
theorem law_mixed_all (xs : List AV) (h1 : xs.length < 1000) : (f_law_mixed [.box, .lst xs]).Al (ShufR xs) NoX := by
  refine aFnQ rfl ?_
  show (K0_law_mixed [.fro .box, .fro (.lst xs), .un, .un, .un]).Al _ _
  have b62 : below (xs.length : Int) 62 = true := below_of (by omega)
  repeat ((simp only [U1f0_law_mixed, U2_law_mixed, U1_law_mixed, U0_law_mixed, al_seq, nx_nx, lq_nx]; refine al_rd _ (by (simp -dsimp only [↓fUn_b, ↓lCons_b, ↓fCall_b, ↓sSeq_b, ↓sExpr_b, ↓sRet_b, ↓iSeq_b, ↓iRange1_b, ↓sFor_b, ↓nList_b, ↓fAppend_b, ↓fPopAt_b, ↓sParN_b, ↓fC_b, ↓lNil_b, ↓sNil_b, ↓fYes_b, ↓tgName_b, ↓tgNil_b, ↓tgCons_b, ↓tgTup_b, ↓lcRun_b, ↓frz_val, ↓lrs_val, ↓liftS_b, ↓liftN_b, ↓seqOf_t_b, ↓seqOf_l_b, ↓lstOf_l_b, ↓intOf_i_b, ↓blOf_b_b, ↓tru_n_b, ↓tru_b_b, ↓tru_i_b, ↓tru_t_b, ↓tru_l_b, ↓pLen_t_b, ↓pLen_l_b, ↓pLen_s_b, ↓pAdd_i_b, ↓atI_0_b, ↓atI_1_b, ↓atI_2_b, ↓atI_3_b, ↓lg0_b, ↓lg1_b, ↓lg2_b, ↓lg3_b, rs_val, outV_rt, outV_nx, backE_n, backE_u, wipeE_n, wipeE_u, froOf_f, froOf_u, seqOf_t, seqOf_l, lstOf_l, intOf_i, blOf_b, tru_n, tru_b, tru_i, tru_t, tru_l, pLen_t, pLen_l, pLen_s, pAdd_i, atI_0, atI_1, atI_2, atI_3, lg0, lg1, lg2, lg3, pIx_t, pIx_l, pAdd_t, pAdd_l, ↓keyOf1_ib, keyOf1_i, ↓T.bind_assoc, bind_ret', bind_bad', bind_exc', bind_draw', lift_some, lift_none', big, below62', below24', below64', below29', mul_ok, div_ok, mod_ok, ↓mArgs_bb, envB_self, tryT_ret, tryT_exc, tryT_draw, List.length_cons, List.length_nil, List.map_cons, List.map_nil, List.append_nil, List.nil_append, List.cons_append, List.replicate_succ, List.replicate_zero, List.isEmpty_nil, List.isEmpty_cons, Option.map_some, Option.map_none, Option.bind_some, Option.bind_none, true_and, and_true, and_self, false_and, and_false, true_or, or_true, false_or, or_false, not_true_eq_false, not_false_eq_true, Bool.not_true, Bool.not_false, Bool.true_and, Bool.and_true, Bool.false_and, Bool.and_false, Bool.true_or, Bool.or_true, Bool.or_false, Bool.false_or, decide_true, decide_false, decide_eq_true_eq, decide_eq_false_iff_not, if_true, if_false, ite_true, ite_false, ↓reduceIte, Int.natCast_nonneg, Nat.reduceLT, Nat.reduceLeDiff, Nat.reduceEqDiff, Nat.reduceSub, Nat.reduceMul, Int.reduceLT, Int.reduceLE, Int.reduceEq, Int.reduceAdd, Int.reduceSub, Int.reduceMul, Int.reduceNeg, Int.reducePow, List.length_map, List.length_range, eq_self, ne_eq, Classical.not_not, Bool.not_eq_true, Bool.not_eq_false, Bool.false_eq_true, reduceCtorEq, Int.toNat_natCast, Nat.add_eq, Nat.reduceAdd, Int.cast_ofNat_Int, Int.reduceToNat, Int.zero_add, Int.add_zero, Nat.zero_add, Nat.add_zero, Nat.sub_zero, Int.sub_zero, Int.natCast_zero, Int.natCast_one, Int.natCast_add, Int.natCast_succ, beq_self_eq_true, Bool.decide_eq_true, Bool.decide_eq_false, ↓vf0, ↓vm0, rf0, rm0, ↓qf0, ↓qm0, ↓zf0, ↓zm0, ↓im0, ss0, ↓vf1, ↓vm1, rf1, rm1, ↓qf1, ↓qm1, ↓zf1, ↓zm1, ↓im1, ss1, ↓vf2, ↓vm2, rf2, rm2, ↓qf2, ↓qm2, ↓zf2, ↓zm2, ↓im2, ss2, ↓vf3, ↓vm3, rf3, rm3, ↓qf3, ↓qm3, ↓zf3, ↓zm3, ↓im3, ss3, ↓vf4, ↓vm4, rf4, rm4, ↓qf4, ↓qm4, ↓zf4, ↓zm4, ↓im4, ss4, S1f0_law_mixed, S0_law_mixed, S1_law_mixed, S2_law_mixed, U1f0_law_mixed, U2_law_mixed, U1_law_mixed, U0_law_mixed]); (try simp only [T.bind_ret]); exact rfl) ?_); refine al_nx ?_)
  (simp only [U1f0_law_mixed, U2_law_mixed, U1_law_mixed, U0_law_mixed, al_seq, nx_nx, lq_nx]; refine al_rd _ (by (simp -dsimp only [↓fUn_b, ↓lCons_b, ↓fCall_b, ↓sSeq_b, ↓sExpr_b, ↓sRet_b, ↓iSeq_b, ↓iRange1_b, ↓sFor_b, ↓nList_b, ↓fAppend_b, ↓fPopAt_b, ↓sParN_b, ↓fC_b, ↓lNil_b, ↓sNil_b, ↓fYes_b, ↓tgName_b, ↓tgNil_b, ↓tgCons_b, ↓tgTup_b, ↓lcRun_b, ↓frz_val, ↓lrs_val, ↓liftS_b, ↓liftN_b, ↓seqOf_t_b, ↓seqOf_l_b, ↓lstOf_l_b, ↓intOf_i_b, ↓blOf_b_b, ↓tru_n_b, ↓tru_b_b, ↓tru_i_b, ↓tru_t_b, ↓tru_l_b, ↓pLen_t_b, ↓pLen_l_b, ↓pLen_s_b, ↓pAdd_i_b, ↓atI_0_b, ↓atI_1_b, ↓atI_2_b, ↓atI_3_b, ↓lg0_b, ↓lg1_b, ↓lg2_b, ↓lg3_b, rs_val, outV_rt, outV_nx, backE_n, backE_u, wipeE_n, wipeE_u, froOf_f, froOf_u, seqOf_t, seqOf_l, lstOf_l, intOf_i, blOf_b, tru_n, tru_b, tru_i, tru_t, tru_l, pLen_t, pLen_l, pLen_s, pAdd_i, atI_0, atI_1, atI_2, atI_3, lg0, lg1, lg2, lg3, pIx_t, pIx_l, pAdd_t, pAdd_l, ↓keyOf1_ib, keyOf1_i, ↓T.bind_assoc, bind_ret', bind_bad', bind_exc', bind_draw', lift_some, lift_none', big, below62', below24', below64', below29', mul_ok, div_ok, mod_ok, ↓mArgs_bb, envB_self, tryT_ret, tryT_exc, tryT_draw, List.length_cons, List.length_nil, List.map_cons, List.map_nil, List.append_nil, List.nil_append, List.cons_append, List.replicate_succ, List.replicate_zero, List.isEmpty_nil, List.isEmpty_cons, Option.map_some, Option.map_none, Option.bind_some, Option.bind_none, true_and, and_true, and_self, false_and, and_false, true_or, or_true, false_or, or_false, not_true_eq_false, not_false_eq_true, Bool.not_true, Bool.not_false, Bool.true_and, Bool.and_true, Bool.false_and, Bool.and_false, Bool.true_or, Bool.or_true, Bool.or_false, Bool.false_or, decide_true, decide_false, decide_eq_true_eq, decide_eq_false_iff_not, if_true, if_false, ite_true, ite_false, ↓reduceIte, Int.natCast_nonneg, Nat.reduceLT, Nat.reduceLeDiff, Nat.reduceEqDiff, Nat.reduceSub, Nat.reduceMul, Int.reduceLT, Int.reduceLE, Int.reduceEq, Int.reduceAdd, Int.reduceSub, Int.reduceMul, Int.reduceNeg, Int.reducePow, List.length_map, List.length_range, eq_self, ne_eq, Classical.not_not, Bool.not_eq_true, Bool.not_eq_false, Bool.false_eq_true, reduceCtorEq, Int.toNat_natCast, Nat.add_eq, Nat.reduceAdd, Int.cast_ofNat_Int, Int.reduceToNat, Int.zero_add, Int.add_zero, Nat.zero_add, Nat.add_zero, Nat.sub_zero, Int.sub_zero, Int.natCast_zero, Int.natCast_one, Int.natCast_add, Int.natCast_succ, beq_self_eq_true, Bool.decide_eq_true, Bool.decide_eq_false, ↓vf0, ↓vm0, rf0, rm0, ↓qf0, ↓qm0, ↓zf0, ↓zm0, ↓im0, ss0, ↓vf1, ↓vm1, rf1, rm1, ↓qf1, ↓qm1, ↓zf1, ↓zm1, ↓im1, ss1, ↓vf2, ↓vm2, rf2, rm2, ↓qf2, ↓qm2, ↓zf2, ↓zm2, ↓im2, ss2, ↓vf3, ↓vm3, rf3, rm3, ↓qf3, ↓qm3, ↓zf3, ↓zm3, ↓im3, ss3, ↓vf4, ↓vm4, rf4, rm4, ↓qf4, ↓qm4, ↓zf4, ↓zm4, ↓im4, ss4, S1f0_law_mixed, S0_law_mixed, S1_law_mixed, S2_law_mixed, U1f0_law_mixed, U2_law_mixed, U1_law_mixed, U0_law_mixed, b62]); (try simp only [T.bind_ret]); exact rfl) ?_); (try (with_reducible refine al_nx ?_))
  refine al_forL (fun i ρ => ∃ rest found s4, ρ = [.fro .box, .fro (.lst xs), .ml rest, .ml found, s4] ∧ (found ++ rest).Perm xs ∧ found.length = i) ⟨xs, [], .un, rfl, List.Perm.refl _, rfl⟩ (fun i x ρ hx hI => ?_) fun ρ hI => ?_
  · obtain ⟨rest, found, s4, rfl, hp, hf⟩ := hI
    obtain ⟨hi, rfl⟩ := range_get hx
    have hl := hp.length_eq
    rw [List.length_append, hf] at hl
    have tk := take_eq (b := (rest.length : Int)) (by omega) (by omega)
    (try refine al_rd _ (by (simp -dsimp only [↓fBin_b, ↓fUn_b, ↓fTru_b, ↓fBlT_b, ↓fNotT_b, ↓fOrT_b, ↓fAnd_b, ↓fNot_b, ↓fIf_b, ↓lCons_b, ↓fTup_b, ↓fSl_b, ↓fCall_b, ↓sSeq_b, ↓sExpr_b, ↓sRet_b, ↓sIf_b, ↓sSet_b, ↓sAsg_b, ↓iSeq_b, ↓iRange1_b, ↓sFor_b, ↓fNew_b, ↓nLst_b, ↓nList_b, ↓fAppend_b, ↓fPopAt_b, ↓nLc_b, ↓nListRange_b, ↓sPar_b, ↓sParE_b, ↓sParN_b, ↓sFldSet_b, ↓fC_b, ↓lNil_b, ↓sNil_b, ↓fYes_b, ↓tgName_b, ↓tgNil_b, ↓tgCons_b, ↓tgTup_b, ↓lcRun_b, ↓fPart_n, ↓fPart_s, ↓frz_val, ↓lrs_val, ↓liftS_b, ↓liftN_b, ↓seqOf_t_b, ↓seqOf_l_b, ↓lstOf_l_b, ↓intOf_i_b, ↓blOf_b_b, ↓tru_n_b, ↓tru_b_b, ↓tru_i_b, ↓tru_t_b, ↓tru_l_b, ↓pLen_t_b, ↓pLen_l_b, ↓pLen_s_b, ↓pTuple_t_b, ↓pTuple_l_b, ↓pAdd_i_b, ↓pNeg_i_b, ↓pLt_i_b, ↓pGt_i_b, ↓pGe_i_b, ↓pMax2_i_b, ↓pMin2_i_b, ↓pIs_nn_b, ↓pIs_in_b, ↓pIs_tn_b, ↓pIs_ln_b, ↓pIs_bn_b, ↓pIs_bb_b, ↓pNotIs_nn_b, ↓pNotIs_in_b, ↓pNotIs_tn_b, ↓pNotIs_ln_b, ↓pNotIs_bn_b, ↓pNotIs_bb_b, ↓pCut_t_b, ↓pCut_l_b, ↓atI_0_b, ↓atI_1_b, ↓atI_2_b, ↓atI_3_b, ↓lg0_b, ↓lg1_b, ↓lg2_b, ↓lg3_b, ↓isi_bl_int_b, ↓isi_bl_bool_b, ↓isi_bl_tuple_b, ↓isi2_bl_b, ↓isi_int_int_b, ↓isi_int_bool_b, ↓isi_int_tuple_b, ↓isi2_int_b, ↓isi_str_int_b, ↓isi_str_bool_b, ↓isi_str_tuple_b, ↓isi2_str_b, ↓isi_tup_int_b, ↓isi_tup_bool_b, ↓isi_tup_tuple_b, ↓isi2_tup_b, ↓isi_lst_int_b, ↓isi_lst_bool_b, ↓isi_lst_tuple_b, ↓isi2_lst_b, rs_val, outV_rt, outV_nx, backE_n, backE_u, wipeE_n, wipeE_u, froOf_f, froOf_u, seqOf_t, seqOf_l, lstOf_l, intOf_i, blOf_b, tru_n, tru_b, tru_i, tru_t, tru_l, pLen_t, pLen_l, pLen_s, pTuple_t, pTuple_l, pAdd_i, pNeg_i, pLt_i, pGt_i, pGe_i, pMax2_i, pMin2_i, pIs_nn, pIs_in, pIs_tn, pIs_ln, pIs_bn, pIs_bb, pNotIs_nn, pNotIs_in, pNotIs_tn, pNotIs_ln, pNotIs_bn, pNotIs_bb, pCut_t, pCut_l, atI_0, atI_1, atI_2, atI_3, lg0, lg1, lg2, lg3, isi_bl_int, isi_bl_bool, isi_bl_tuple, isi2_bl, isi_int_int, isi_int_bool, isi_int_tuple, isi2_int, isi_str_int, isi_str_bool, isi_str_tuple, isi2_str, isi_tup_int, isi_tup_bool, isi_tup_tuple, isi2_tup, isi_lst_int, isi_lst_bool, isi_lst_tuple, isi2_lst, pIx_t, pIx_l, pAdd_t, pAdd_l, ↓keyOf1_ib, keyOf1_i, ↓T.bind_assoc, bind_ret', bind_bad', bind_exc', bind_draw', lift_some, lift_none', big, below62', below24', below64', below29', mul_ok, div_ok, mod_ok, ↓sRaise_b, ↓sTryB_b, mDrop_b, ↓mArgs_bb, mArgs_b, mIfX_b, mIfS_b, envB_self, tryT_ret, tryT_exc, tryT_draw, List.length_cons, List.length_nil, List.map_cons, List.map_nil, List.append_nil, List.nil_append, List.cons_append, List.replicate_succ, List.replicate_zero, List.isEmpty_nil, List.isEmpty_cons, Option.map_some, Option.map_none, Option.bind_some, Option.bind_none, true_and, and_true, and_self, false_and, and_false, true_or, or_true, false_or, or_false, not_true_eq_false, not_false_eq_true, Bool.not_true, Bool.not_false, Bool.true_and, Bool.and_true, Bool.false_and, Bool.and_false, Bool.true_or, Bool.or_true, Bool.or_false, Bool.false_or, decide_true, decide_false, decide_eq_true_eq, decide_eq_false_iff_not, if_true, if_false, ite_true, ite_false, ↓reduceIte, Int.natCast_nonneg, Nat.reduceLT, Nat.reduceLeDiff, Nat.reduceEqDiff, Nat.reduceSub, Nat.reduceMul, Int.reduceLT, Int.reduceLE, Int.reduceEq, Int.reduceAdd, Int.reduceSub, Int.reduceMul, Int.reduceNeg, Int.reducePow, List.length_map, List.length_range, eq_self, ne_eq, Classical.not_not, Bool.not_eq_true, Bool.not_eq_false, Bool.false_eq_true, reduceCtorEq, Int.toNat_natCast, Nat.add_eq, Nat.reduceAdd, Int.cast_ofNat_Int, Int.reduceToNat, Int.zero_add, Int.add_zero, Nat.zero_add, Nat.add_zero, Nat.sub_zero, Int.sub_zero, Int.natCast_zero, Int.natCast_one, Int.natCast_add, Int.natCast_succ, beq_self_eq_true, Bool.decide_eq_true, Bool.decide_eq_false, ↓vf0, ↓vm0, rf0, rm0, ↓qf0, ↓qm0, ↓zf0, ↓zm0, ↓im0, ss0, ↓imd0, ↓vf1, ↓vm1, rf1, rm1, ↓qf1, ↓qm1, ↓zf1, ↓zm1, ↓im1, ss1, ↓imd1, ↓vf2, ↓vm2, rf2, rm2, ↓qf2, ↓qm2, ↓zf2, ↓zm2, ↓im2, ss2, ↓imd2, ↓vf3, ↓vm3, rf3, rm3, ↓qf3, ↓qm3, ↓zf3, ↓zm3, ↓im3, ss3, ↓imd3, ↓vf4, ↓vm4, rf4, rm4, ↓qf4, ↓qm4, ↓zf4, ↓zm4, ↓im4, ss4, ↓imd4, ↓vf5, ↓vm5, rf5, rm5, ↓qf5, ↓qm5, ↓zf5, ↓zm5, ↓im5, ss5, ↓imd5, ↓vf6, ↓vm6, rf6, rm6, ↓qf6, ↓qm6, ↓zf6, ↓zm6, ↓im6, ss6, ↓imd6, ↓vf7, ↓vm7, rf7, rm7, ↓qf7, ↓qm7, ↓zf7, ↓zm7, ↓im7, ss7, ↓imd7, ↓vf8, ↓vm8, rf8, rm8, ↓qf8, ↓qm8, ↓zf8, ↓zm8, ↓im8, ss8, ↓imd8, ↓vf9, ↓vm9, rf9, rm9, ↓qf9, ↓qm9, ↓zf9, ↓zm9, ↓im9, ss9, ↓imd9, ↓vf10, ↓vm10, rf10, rm10, ↓qf10, ↓qm10, ↓zf10, ↓zm10, ↓im10, ss10, ↓imd10]); (try simp only [T.bind_ret]); exact rfl) ?_); (try (with_reducible refine al_nx ?_)); refine al_retI.mpr ?_
    (simp only [U1f0_law_mixed, U2_law_mixed, U1_law_mixed, U0_law_mixed, al_seq, nx_nx, lq_nx]; refine al_rd _ (by (simp -dsimp only [↓fUn_b, ↓lCons_b, ↓fCall_b, ↓sSeq_b, ↓sExpr_b, ↓sRet_b, ↓iSeq_b, ↓iRange1_b, ↓sFor_b, ↓nList_b, ↓fAppend_b, ↓fPopAt_b, ↓sParN_b, ↓fC_b, ↓lNil_b, ↓sNil_b, ↓fYes_b, ↓tgName_b, ↓tgNil_b, ↓tgCons_b, ↓tgTup_b, ↓lcRun_b, ↓frz_val, ↓lrs_val, ↓liftS_b, ↓liftN_b, ↓seqOf_t_b, ↓seqOf_l_b, ↓lstOf_l_b, ↓intOf_i_b, ↓blOf_b_b, ↓tru_n_b, ↓tru_b_b, ↓tru_i_b, ↓tru_t_b, ↓tru_l_b, ↓pLen_t_b, ↓pLen_l_b, ↓pLen_s_b, ↓pAdd_i_b, ↓atI_0_b, ↓atI_1_b, ↓atI_2_b, ↓atI_3_b, ↓lg0_b, ↓lg1_b, ↓lg2_b, ↓lg3_b, rs_val, outV_rt, outV_nx, backE_n, backE_u, wipeE_n, wipeE_u, froOf_f, froOf_u, seqOf_t, seqOf_l, lstOf_l, intOf_i, blOf_b, tru_n, tru_b, tru_i, tru_t, tru_l, pLen_t, pLen_l, pLen_s, pAdd_i, atI_0, atI_1, atI_2, atI_3, lg0, lg1, lg2, lg3, pIx_t, pIx_l, pAdd_t, pAdd_l, ↓keyOf1_ib, keyOf1_i, ↓T.bind_assoc, bind_ret', bind_bad', bind_exc', bind_draw', lift_some, lift_none', big, below62', below24', below64', below29', mul_ok, div_ok, mod_ok, ↓mArgs_bb, envB_self, tryT_ret, tryT_exc, tryT_draw, List.length_cons, List.length_nil, List.map_cons, List.map_nil, List.append_nil, List.nil_append, List.cons_append, List.replicate_succ, List.replicate_zero, List.isEmpty_nil, List.isEmpty_cons, Option.map_some, Option.map_none, Option.bind_some, Option.bind_none, true_and, and_true, and_self, false_and, and_false, true_or, or_true, false_or, or_false, not_true_eq_false, not_false_eq_true, Bool.not_true, Bool.not_false, Bool.true_and, Bool.and_true, Bool.false_and, Bool.and_false, Bool.true_or, Bool.or_true, Bool.or_false, Bool.false_or, decide_true, decide_false, decide_eq_true_eq, decide_eq_false_iff_not, if_true, if_false, ite_true, ite_false, ↓reduceIte, Int.natCast_nonneg, Nat.reduceLT, Nat.reduceLeDiff, Nat.reduceEqDiff, Nat.reduceSub, Nat.reduceMul, Int.reduceLT, Int.reduceLE, Int.reduceEq, Int.reduceAdd, Int.reduceSub, Int.reduceMul, Int.reduceNeg, Int.reducePow, List.length_map, List.length_range, eq_self, ne_eq, Classical.not_not, Bool.not_eq_true, Bool.not_eq_false, Bool.false_eq_true, reduceCtorEq, Int.toNat_natCast, Nat.add_eq, Nat.reduceAdd, Int.cast_ofNat_Int, Int.reduceToNat, Int.zero_add, Int.add_zero, Nat.zero_add, Nat.add_zero, Nat.sub_zero, Int.sub_zero, Int.natCast_zero, Int.natCast_one, Int.natCast_add, Int.natCast_succ, beq_self_eq_true, Bool.decide_eq_true, Bool.decide_eq_false, ↓vf0, ↓vm0, rf0, rm0, ↓qf0, ↓qm0, ↓zf0, ↓zm0, ↓im0, ss0, ↓vf1, ↓vm1, rf1, rm1, ↓qf1, ↓qm1, ↓zf1, ↓zm1, ↓im1, ss1, ↓vf2, ↓vm2, rf2, rm2, ↓qf2, ↓qm2, ↓zf2, ↓zm2, ↓im2, ss2, ↓vf3, ↓vm3, rf3, rm3, ↓qf3, ↓qm3, ↓zf3, ↓zm3, ↓im3, ss3, ↓vf4, ↓vm4, rf4, rm4, ↓qf4, ↓qm4, ↓zf4, ↓zm4, ↓im4, ss4, S1f0_law_mixed, S0_law_mixed, S1_law_mixed, S2_law_mixed, U1f0_law_mixed, U2_law_mixed, U1_law_mixed, U0_law_mixed, tk]); (try simp only [T.bind_ret]); exact rfl) ?_); (try (with_reducible refine al_nx ?_))
    refine al_dr fun r hr => ?_
    have e : rest[r]? = some rest[r] := List.getElem?_eq_getElem hr
    have hfl : found.length < 1000000 := by omega
    have br : below (r : Int) 62 = true := below_of (by omega)
    (try refine al_rd _ (by (simp -dsimp only [↓fBin_b, ↓fUn_b, ↓fTru_b, ↓fBlT_b, ↓fNotT_b, ↓fOrT_b, ↓fAnd_b, ↓fNot_b, ↓fIf_b, ↓lCons_b, ↓fTup_b, ↓fSl_b, ↓fCall_b, ↓sSeq_b, ↓sExpr_b, ↓sRet_b, ↓sIf_b, ↓sSet_b, ↓sAsg_b, ↓iSeq_b, ↓iRange1_b, ↓sFor_b, ↓fNew_b, ↓nLst_b, ↓nList_b, ↓fAppend_b, ↓fPopAt_b, ↓nLc_b, ↓nListRange_b, ↓sPar_b, ↓sParE_b, ↓sParN_b, ↓sFldSet_b, ↓fC_b, ↓lNil_b, ↓sNil_b, ↓fYes_b, ↓tgName_b, ↓tgNil_b, ↓tgCons_b, ↓tgTup_b, ↓lcRun_b, ↓fPart_n, ↓fPart_s, ↓frz_val, ↓lrs_val, ↓liftS_b, ↓liftN_b, ↓seqOf_t_b, ↓seqOf_l_b, ↓lstOf_l_b, ↓intOf_i_b, ↓blOf_b_b, ↓tru_n_b, ↓tru_b_b, ↓tru_i_b, ↓tru_t_b, ↓tru_l_b, ↓pLen_t_b, ↓pLen_l_b, ↓pLen_s_b, ↓pTuple_t_b, ↓pTuple_l_b, ↓pAdd_i_b, ↓pNeg_i_b, ↓pLt_i_b, ↓pGt_i_b, ↓pGe_i_b, ↓pMax2_i_b, ↓pMin2_i_b, ↓pIs_nn_b, ↓pIs_in_b, ↓pIs_tn_b, ↓pIs_ln_b, ↓pIs_bn_b, ↓pIs_bb_b, ↓pNotIs_nn_b, ↓pNotIs_in_b, ↓pNotIs_tn_b, ↓pNotIs_ln_b, ↓pNotIs_bn_b, ↓pNotIs_bb_b, ↓pCut_t_b, ↓pCut_l_b, ↓atI_0_b, ↓atI_1_b, ↓atI_2_b, ↓atI_3_b, ↓lg0_b, ↓lg1_b, ↓lg2_b, ↓lg3_b, ↓isi_bl_int_b, ↓isi_bl_bool_b, ↓isi_bl_tuple_b, ↓isi2_bl_b, ↓isi_int_int_b, ↓isi_int_bool_b, ↓isi_int_tuple_b, ↓isi2_int_b, ↓isi_str_int_b, ↓isi_str_bool_b, ↓isi_str_tuple_b, ↓isi2_str_b, ↓isi_tup_int_b, ↓isi_tup_bool_b, ↓isi_tup_tuple_b, ↓isi2_tup_b, ↓isi_lst_int_b, ↓isi_lst_bool_b, ↓isi_lst_tuple_b, ↓isi2_lst_b, rs_val, outV_rt, outV_nx, backE_n, backE_u, wipeE_n, wipeE_u, froOf_f, froOf_u, seqOf_t, seqOf_l, lstOf_l, intOf_i, blOf_b, tru_n, tru_b, tru_i, tru_t, tru_l, pLen_t, pLen_l, pLen_s, pTuple_t, pTuple_l, pAdd_i, pNeg_i, pLt_i, pGt_i, pGe_i, pMax2_i, pMin2_i, pIs_nn, pIs_in, pIs_tn, pIs_ln, pIs_bn, pIs_bb, pNotIs_nn, pNotIs_in, pNotIs_tn, pNotIs_ln, pNotIs_bn, pNotIs_bb, pCut_t, pCut_l, atI_0, atI_1, atI_2, atI_3, lg0, lg1, lg2, lg3, isi_bl_int, isi_bl_bool, isi_bl_tuple, isi2_bl, isi_int_int, isi_int_bool, isi_int_tuple, isi2_int, isi_str_int, isi_str_bool, isi_str_tuple, isi2_str, isi_tup_int, isi_tup_bool, isi_tup_tuple, isi2_tup, isi_lst_int, isi_lst_bool, isi_lst_tuple, isi2_lst, pIx_t, pIx_l, pAdd_t, pAdd_l, ↓keyOf1_ib, keyOf1_i, ↓T.bind_assoc, bind_ret', bind_bad', bind_exc', bind_draw', lift_some, lift_none', big, below62', below24', below64', below29', mul_ok, div_ok, mod_ok, ↓sRaise_b, ↓sTryB_b, mDrop_b, ↓mArgs_bb, mArgs_b, mIfX_b, mIfS_b, envB_self, tryT_ret, tryT_exc, tryT_draw, List.length_cons, List.length_nil, List.map_cons, List.map_nil, List.append_nil, List.nil_append, List.cons_append, List.replicate_succ, List.replicate_zero, List.isEmpty_nil, List.isEmpty_cons, Option.map_some, Option.map_none, Option.bind_some, Option.bind_none, true_and, and_true, and_self, false_and, and_false, true_or, or_true, false_or, or_false, not_true_eq_false, not_false_eq_true, Bool.not_true, Bool.not_false, Bool.true_and, Bool.and_true, Bool.false_and, Bool.and_false, Bool.true_or, Bool.or_true, Bool.or_false, Bool.false_or, decide_true, decide_false, decide_eq_true_eq, decide_eq_false_iff_not, if_true, if_false, ite_true, ite_false, ↓reduceIte, Int.natCast_nonneg, Nat.reduceLT, Nat.reduceLeDiff, Nat.reduceEqDiff, Nat.reduceSub, Nat.reduceMul, Int.reduceLT, Int.reduceLE, Int.reduceEq, Int.reduceAdd, Int.reduceSub, Int.reduceMul, Int.reduceNeg, Int.reducePow, List.length_map, List.length_range, eq_self, ne_eq, Classical.not_not, Bool.not_eq_true, Bool.not_eq_false, Bool.false_eq_true, reduceCtorEq, Int.toNat_natCast, Nat.add_eq, Nat.reduceAdd, Int.cast_ofNat_Int, Int.reduceToNat, Int.zero_add, Int.add_zero, Nat.zero_add, Nat.add_zero, Nat.sub_zero, Int.sub_zero, Int.natCast_zero, Int.natCast_one, Int.natCast_add, Int.natCast_succ, beq_self_eq_true, Bool.decide_eq_true, Bool.decide_eq_false, ↓vf0, ↓vm0, rf0, rm0, ↓qf0, ↓qm0, ↓zf0, ↓zm0, ↓im0, ss0, ↓imd0, ↓vf1, ↓vm1, rf1, rm1, ↓qf1, ↓qm1, ↓zf1, ↓zm1, ↓im1, ss1, ↓imd1, ↓vf2, ↓vm2, rf2, rm2, ↓qf2, ↓qm2, ↓zf2, ↓zm2, ↓im2, ss2, ↓imd2, ↓vf3, ↓vm3, rf3, rm3, ↓qf3, ↓qm3, ↓zf3, ↓zm3, ↓im3, ss3, ↓imd3, ↓vf4, ↓vm4, rf4, rm4, ↓qf4, ↓qm4, ↓zf4, ↓zm4, ↓im4, ss4, ↓imd4, ↓vf5, ↓vm5, rf5, rm5, ↓qf5, ↓qm5, ↓zf5, ↓zm5, ↓im5, ss5, ↓imd5, ↓vf6, ↓vm6, rf6, rm6, ↓qf6, ↓qm6, ↓zf6, ↓zm6, ↓im6, ss6, ↓imd6, ↓vf7, ↓vm7, rf7, rm7, ↓qf7, ↓qm7, ↓zf7, ↓zm7, ↓im7, ss7, ↓imd7, ↓vf8, ↓vm8, rf8, rm8, ↓qf8, ↓qm8, ↓zf8, ↓zm8, ↓im8, ss8, ↓imd8, ↓vf9, ↓vm9, rf9, rm9, ↓qf9, ↓qm9, ↓zf9, ↓zm9, ↓im9, ss9, ↓imd9, ↓vf10, ↓vm10, rf10, rm10, ↓qf10, ↓qm10, ↓zf10, ↓zm10, ↓im10, ss10, ↓imd10, e, hfl, br]); (try simp only [T.bind_ret]); exact rfl) ?_); (try (with_reducible refine al_nx ?_))
    refine al_endL ?_
    refine ⟨rest.eraseIdx r, found ++ [rest[r]], _, rfl, ?_, by simp [hf]⟩
    rw [List.append_assoc]
    exact (List.Perm.append_left found (perm_pop e)).trans hp
  · obtain ⟨rest, found, s4, rfl, hp, hf⟩ := hI
    rw [range_len] at hf
    have hl := hp.length_eq
    rw [List.length_append, hf] at hl
    have : rest = [] := List.eq_nil_of_length_eq_zero (by omega)
    rw [this, List.append_nil] at hp
    (simp only [U1f0_law_mixed, U2_law_mixed, U1_law_mixed, U0_law_mixed, al_seq, nx_nx, lq_nx]; refine al_rd _ (by (simp -dsimp only [↓fUn_b, ↓lCons_b, ↓fCall_b, ↓sSeq_b, ↓sExpr_b, ↓sRet_b, ↓iSeq_b, ↓iRange1_b, ↓sFor_b, ↓nList_b, ↓fAppend_b, ↓fPopAt_b, ↓sParN_b, ↓fC_b, ↓lNil_b, ↓sNil_b, ↓fYes_b, ↓tgName_b, ↓tgNil_b, ↓tgCons_b, ↓tgTup_b, ↓lcRun_b, ↓frz_val, ↓lrs_val, ↓liftS_b, ↓liftN_b, ↓seqOf_t_b, ↓seqOf_l_b, ↓lstOf_l_b, ↓intOf_i_b, ↓blOf_b_b, ↓tru_n_b, ↓tru_b_b, ↓tru_i_b, ↓tru_t_b, ↓tru_l_b, ↓pLen_t_b, ↓pLen_l_b, ↓pLen_s_b, ↓pAdd_i_b, ↓atI_0_b, ↓atI_1_b, ↓atI_2_b, ↓atI_3_b, ↓lg0_b, ↓lg1_b, ↓lg2_b, ↓lg3_b, rs_val, outV_rt, outV_nx, backE_n, backE_u, wipeE_n, wipeE_u, froOf_f, froOf_u, seqOf_t, seqOf_l, lstOf_l, intOf_i, blOf_b, tru_n, tru_b, tru_i, tru_t, tru_l, pLen_t, pLen_l, pLen_s, pAdd_i, atI_0, atI_1, atI_2, atI_3, lg0, lg1, lg2, lg3, pIx_t, pIx_l, pAdd_t, pAdd_l, ↓keyOf1_ib, keyOf1_i, ↓T.bind_assoc, bind_ret', bind_bad', bind_exc', bind_draw', lift_some, lift_none', big, below62', below24', below64', below29', mul_ok, div_ok, mod_ok, ↓mArgs_bb, envB_self, tryT_ret, tryT_exc, tryT_draw, List.length_cons, List.length_nil, List.map_cons, List.map_nil, List.append_nil, List.nil_append, List.cons_append, List.replicate_succ, List.replicate_zero, List.isEmpty_nil, List.isEmpty_cons, Option.map_some, Option.map_none, Option.bind_some, Option.bind_none, true_and, and_true, and_self, false_and, and_false, true_or, or_true, false_or, or_false, not_true_eq_false, not_false_eq_true, Bool.not_true, Bool.not_false, Bool.true_and, Bool.and_true, Bool.false_and, Bool.and_false, Bool.true_or, Bool.or_true, Bool.or_false, Bool.false_or, decide_true, decide_false, decide_eq_true_eq, decide_eq_false_iff_not, if_true, if_false, ite_true, ite_false, ↓reduceIte, Int.natCast_nonneg, Nat.reduceLT, Nat.reduceLeDiff, Nat.reduceEqDiff, Nat.reduceSub, Nat.reduceMul, Int.reduceLT, Int.reduceLE, Int.reduceEq, Int.reduceAdd, Int.reduceSub, Int.reduceMul, Int.reduceNeg, Int.reducePow, List.length_map, List.length_range, eq_self, ne_eq, Classical.not_not, Bool.not_eq_true, Bool.not_eq_false, Bool.false_eq_true, reduceCtorEq, Int.toNat_natCast, Nat.add_eq, Nat.reduceAdd, Int.cast_ofNat_Int, Int.reduceToNat, Int.zero_add, Int.add_zero, Nat.zero_add, Nat.add_zero, Nat.sub_zero, Int.sub_zero, Int.natCast_zero, Int.natCast_one, Int.natCast_add, Int.natCast_succ, beq_self_eq_true, Bool.decide_eq_true, Bool.decide_eq_false, ↓vf0, ↓vm0, rf0, rm0, ↓qf0, ↓qm0, ↓zf0, ↓zm0, ↓im0, ss0, ↓vf1, ↓vm1, rf1, rm1, ↓qf1, ↓qm1, ↓zf1, ↓zm1, ↓im1, ss1, ↓vf2, ↓vm2, rf2, rm2, ↓qf2, ↓qm2, ↓zf2, ↓zm2, ↓im2, ss2, ↓vf3, ↓vm3, rf3, rm3, ↓qf3, ↓qm3, ↓zf3, ↓zm3, ↓im3, ss3, ↓vf4, ↓vm4, rf4, rm4, ↓qf4, ↓qm4, ↓zf4, ↓zm4, ↓im4, ss4, S1f0_law_mixed, S0_law_mixed, S1_law_mixed, S2_law_mixed, U1f0_law_mixed, U2_law_mixed, U1_law_mixed, U0_law_mixed]); (try simp only [T.bind_ret]); exact rfl) ?_); (try (with_reducible refine al_nx ?_))
    refine al_rtF ?_
    exact ⟨found, rfl, hp⟩
theorem C0_law_rota_all (l : List Nat) (hl : l.length < 1000) (s1 s2 s3 s4 s5 s7 s8 : Dn.Slot) :
    (C0_law_rota [.fro .box, s1, s2, s3, s4, s5, .fro (.lst (nl l)), s7, s8, .un]).Al (fun q => q.2 = [.fro .box, s1, s2, s3, s4, s5, .fro (.lst (nl l)), s7, s8, .un] ∧ ∃ sub : List Nat, q.1 = nl sub ∧ sub.Sublist l) NoX := by
  refine al_mono (al_nLcD (fun i acc => ∃ sub : List Nat, acc = nl sub ∧ sub.Sublist (l.take i)) (nl l) (by refine t_eq ?_; simp -dsimp only [↓fBin_b, ↓fBlT_b, ↓fIf_b, ↓lCons_b, ↓fTup_b, ↓fCall_b, ↓sSeq_b, ↓sExpr_b, ↓sRet_b, ↓sSet_b, ↓iSeq_b, ↓iRange1_b, ↓sFor_b, ↓fNew_b, ↓fAppend_b, ↓nLc_b, ↓nListRange_b, ↓sParE_b, ↓fC_b, ↓lNil_b, ↓sNil_b, ↓fYes_b, ↓tgName_b, ↓tgNil_b, ↓tgCons_b, ↓tgTup_b, ↓lcRun_b, ↓frz_val, ↓lrs_val, ↓liftS_b, ↓liftN_b, ↓seqOf_t_b, ↓seqOf_l_b, ↓lstOf_l_b, ↓intOf_i_b, ↓blOf_b_b, ↓tru_n_b, ↓tru_b_b, ↓tru_i_b, ↓tru_t_b, ↓tru_l_b, ↓pLen_t_b, ↓pLen_l_b, ↓pLen_s_b, ↓pAdd_i_b, ↓pLt_i_b, ↓pGt_i_b, ↓atI_0_b, ↓atI_1_b, ↓atI_2_b, ↓atI_3_b, ↓lg0_b, ↓lg1_b, ↓lg2_b, ↓lg3_b, rs_val, outV_rt, outV_nx, backE_n, backE_u, wipeE_n, wipeE_u, froOf_f, froOf_u, seqOf_t, seqOf_l, lstOf_l, intOf_i, blOf_b, tru_n, tru_b, tru_i, tru_t, tru_l, pLen_t, pLen_l, pLen_s, pAdd_i, pLt_i, pGt_i, atI_0, atI_1, atI_2, atI_3, lg0, lg1, lg2, lg3, pIx_t, pIx_l, pAdd_t, pAdd_l, ↓keyOf1_ib, keyOf1_i, ↓T.bind_assoc, bind_ret', bind_bad', bind_exc', bind_draw', lift_some, lift_none', big, below62', below24', below64', below29', mul_ok, div_ok, mod_ok, ↓mArgs_bb, envB_self, tryT_ret, tryT_exc, tryT_draw, List.length_cons, List.length_nil, List.map_cons, List.map_nil, List.append_nil, List.nil_append, List.cons_append, List.replicate_succ, List.replicate_zero, List.isEmpty_nil, List.isEmpty_cons, Option.map_some, Option.map_none, Option.bind_some, Option.bind_none, true_and, and_true, and_self, false_and, and_false, true_or, or_true, false_or, or_false, not_true_eq_false, not_false_eq_true, Bool.not_true, Bool.not_false, Bool.true_and, Bool.and_true, Bool.false_and, Bool.and_false, Bool.true_or, Bool.or_true, Bool.or_false, Bool.false_or, decide_true, decide_false, decide_eq_true_eq, decide_eq_false_iff_not, if_true, if_false, ite_true, ite_false, ↓reduceIte, Int.natCast_nonneg, Nat.reduceLT, Nat.reduceLeDiff, Nat.reduceEqDiff, Nat.reduceSub, Nat.reduceMul, Int.reduceLT, Int.reduceLE, Int.reduceEq, Int.reduceAdd, Int.reduceSub, Int.reduceMul, Int.reduceNeg, Int.reducePow, List.length_map, List.length_range, eq_self, ne_eq, Classical.not_not, Bool.not_eq_true, Bool.not_eq_false, Bool.false_eq_true, reduceCtorEq, Int.toNat_natCast, Nat.add_eq, Nat.reduceAdd, Int.cast_ofNat_Int, Int.reduceToNat, Int.zero_add, Int.add_zero, Nat.zero_add, Nat.add_zero, Nat.sub_zero, Int.sub_zero, Int.natCast_zero, Int.natCast_one, Int.natCast_add, Int.natCast_succ, beq_self_eq_true, Bool.decide_eq_true, Bool.decide_eq_false, ↓vf0, ↓vm0, rf0, rm0, ↓qf0, ↓qm0, ↓zf0, ↓zm0, ↓im0, ss0, ↓vf1, ↓vm1, rf1, rm1, ↓qf1, ↓qm1, ↓zf1, ↓zm1, ↓im1, ss1, ↓vf2, ↓vm2, rf2, rm2, ↓qf2, ↓qm2, ↓zf2, ↓zm2, ↓im2, ss2, ↓vf3, ↓vm3, rf3, rm3, ↓qf3, ↓qm3, ↓zf3, ↓zm3, ↓im3, ss3, ↓vf4, ↓vm4, rf4, rm4, ↓qf4, ↓qm4, ↓zf4, ↓zm4, ↓im4, ss4, ↓vf5, ↓vm5, rf5, rm5, ↓qf5, ↓qm5, ↓zf5, ↓zm5, ↓im5, ss5, ↓vf6, ↓vm6, rf6, rm6, ↓qf6, ↓qm6, ↓zf6, ↓zm6, ↓im6, ss6, ↓vf7, ↓vm7, rf7, rm7, ↓qf7, ↓qm7, ↓zf7, ↓zm7, ↓im7, ss7, ↓vf8, ↓vm8, rf8, rm8, ↓qf8, ↓qm8, ↓zf8, ↓zm8, ↓im8, ss8, ↓vf9, ↓vm9, rf9, rm9, ↓qf9, ↓qm9, ↓zf9, ↓zm9, ↓im9, ss9]; (try simp only [T.bind_ret])) (by rw [nl_len]; exact Nat.lt_of_lt_of_le hl (by decide)) rfl ⟨[], rfl, by simp⟩ fun i x acc hx hI => ?_) fun q hq => ⟨hq.1, ?_⟩
  · obtain ⟨sub, rfl, hs⟩ := hI
    have hi : i < l.length := by
      have := (List.getElem?_eq_some_iff.mp hx).1
      rwa [nl_len] at this
    rw [nl_get hi] at hx
    cases hx
    (try refine al_rd _ (by (simp -dsimp only [↓fBin_b, ↓fUn_b, ↓fTru_b, ↓fBlT_b, ↓fNotT_b, ↓fOrT_b, ↓fAnd_b, ↓fNot_b, ↓fIf_b, ↓lCons_b, ↓fTup_b, ↓fSl_b, ↓fCall_b, ↓sSeq_b, ↓sExpr_b, ↓sRet_b, ↓sIf_b, ↓sSet_b, ↓sAsg_b, ↓iSeq_b, ↓iRange1_b, ↓sFor_b, ↓fNew_b, ↓nLst_b, ↓nList_b, ↓fAppend_b, ↓fPopAt_b, ↓nLc_b, ↓nListRange_b, ↓sPar_b, ↓sParE_b, ↓sParN_b, ↓sFldSet_b, ↓fC_b, ↓lNil_b, ↓sNil_b, ↓fYes_b, ↓tgName_b, ↓tgNil_b, ↓tgCons_b, ↓tgTup_b, ↓lcRun_b, ↓fPart_n, ↓fPart_s, ↓frz_val, ↓lrs_val, ↓liftS_b, ↓liftN_b, ↓seqOf_t_b, ↓seqOf_l_b, ↓lstOf_l_b, ↓intOf_i_b, ↓blOf_b_b, ↓tru_n_b, ↓tru_b_b, ↓tru_i_b, ↓tru_t_b, ↓tru_l_b, ↓pLen_t_b, ↓pLen_l_b, ↓pLen_s_b, ↓pTuple_t_b, ↓pTuple_l_b, ↓pAdd_i_b, ↓pNeg_i_b, ↓pLt_i_b, ↓pGt_i_b, ↓pGe_i_b, ↓pMax2_i_b, ↓pMin2_i_b, ↓pIs_nn_b, ↓pIs_in_b, ↓pIs_tn_b, ↓pIs_ln_b, ↓pIs_bn_b, ↓pIs_bb_b, ↓pNotIs_nn_b, ↓pNotIs_in_b, ↓pNotIs_tn_b, ↓pNotIs_ln_b, ↓pNotIs_bn_b, ↓pNotIs_bb_b, ↓pCut_t_b, ↓pCut_l_b, ↓atI_0_b, ↓atI_1_b, ↓atI_2_b, ↓atI_3_b, ↓lg0_b, ↓lg1_b, ↓lg2_b, ↓lg3_b, ↓isi_bl_int_b, ↓isi_bl_bool_b, ↓isi_bl_tuple_b, ↓isi2_bl_b, ↓isi_int_int_b, ↓isi_int_bool_b, ↓isi_int_tuple_b, ↓isi2_int_b, ↓isi_str_int_b, ↓isi_str_bool_b, ↓isi_str_tuple_b, ↓isi2_str_b, ↓isi_tup_int_b, ↓isi_tup_bool_b, ↓isi_tup_tuple_b, ↓isi2_tup_b, ↓isi_lst_int_b, ↓isi_lst_bool_b, ↓isi_lst_tuple_b, ↓isi2_lst_b, rs_val, outV_rt, outV_nx, backE_n, backE_u, wipeE_n, wipeE_u, froOf_f, froOf_u, seqOf_t, seqOf_l, lstOf_l, intOf_i, blOf_b, tru_n, tru_b, tru_i, tru_t, tru_l, pLen_t, pLen_l, pLen_s, pTuple_t, pTuple_l, pAdd_i, pNeg_i, pLt_i, pGt_i, pGe_i, pMax2_i, pMin2_i, pIs_nn, pIs_in, pIs_tn, pIs_ln, pIs_bn, pIs_bb, pNotIs_nn, pNotIs_in, pNotIs_tn, pNotIs_ln, pNotIs_bn, pNotIs_bb, pCut_t, pCut_l, atI_0, atI_1, atI_2, atI_3, lg0, lg1, lg2, lg3, isi_bl_int, isi_bl_bool, isi_bl_tuple, isi2_bl, isi_int_int, isi_int_bool, isi_int_tuple, isi2_int, isi_str_int, isi_str_bool, isi_str_tuple, isi2_str, isi_tup_int, isi_tup_bool, isi_tup_tuple, isi2_tup, isi_lst_int, isi_lst_bool, isi_lst_tuple, isi2_lst, pIx_t, pIx_l, pAdd_t, pAdd_l, ↓keyOf1_ib, keyOf1_i, ↓T.bind_assoc, bind_ret', bind_bad', bind_exc', bind_draw', lift_some, lift_none', big, below62', below24', below64', below29', mul_ok, div_ok, mod_ok, ↓sRaise_b, ↓sTryB_b, mDrop_b, ↓mArgs_bb, mArgs_b, mIfX_b, mIfS_b, envB_self, tryT_ret, tryT_exc, tryT_draw, List.length_cons, List.length_nil, List.map_cons, List.map_nil, List.append_nil, List.nil_append, List.cons_append, List.replicate_succ, List.replicate_zero, List.isEmpty_nil, List.isEmpty_cons, Option.map_some, Option.map_none, Option.bind_some, Option.bind_none, true_and, and_true, and_self, false_and, and_false, true_or, or_true, false_or, or_false, not_true_eq_false, not_false_eq_true, Bool.not_true, Bool.not_false, Bool.true_and, Bool.and_true, Bool.false_and, Bool.and_false, Bool.true_or, Bool.or_true, Bool.or_false, Bool.false_or, decide_true, decide_false, decide_eq_true_eq, decide_eq_false_iff_not, if_true, if_false, ite_true, ite_false, ↓reduceIte, Int.natCast_nonneg, Nat.reduceLT, Nat.reduceLeDiff, Nat.reduceEqDiff, Nat.reduceSub, Nat.reduceMul, Int.reduceLT, Int.reduceLE, Int.reduceEq, Int.reduceAdd, Int.reduceSub, Int.reduceMul, Int.reduceNeg, Int.reducePow, List.length_map, List.length_range, eq_self, ne_eq, Classical.not_not, Bool.not_eq_true, Bool.not_eq_false, Bool.false_eq_true, reduceCtorEq, Int.toNat_natCast, Nat.add_eq, Nat.reduceAdd, Int.cast_ofNat_Int, Int.reduceToNat, Int.zero_add, Int.add_zero, Nat.zero_add, Nat.add_zero, Nat.sub_zero, Int.sub_zero, Int.natCast_zero, Int.natCast_one, Int.natCast_add, Int.natCast_succ, beq_self_eq_true, Bool.decide_eq_true, Bool.decide_eq_false, ↓vf0, ↓vm0, rf0, rm0, ↓qf0, ↓qm0, ↓zf0, ↓zm0, ↓im0, ss0, ↓imd0, ↓vf1, ↓vm1, rf1, rm1, ↓qf1, ↓qm1, ↓zf1, ↓zm1, ↓im1, ss1, ↓imd1, ↓vf2, ↓vm2, rf2, rm2, ↓qf2, ↓qm2, ↓zf2, ↓zm2, ↓im2, ss2, ↓imd2, ↓vf3, ↓vm3, rf3, rm3, ↓qf3, ↓qm3, ↓zf3, ↓zm3, ↓im3, ss3, ↓imd3, ↓vf4, ↓vm4, rf4, rm4, ↓qf4, ↓qm4, ↓zf4, ↓zm4, ↓im4, ss4, ↓imd4, ↓vf5, ↓vm5, rf5, rm5, ↓qf5, ↓qm5, ↓zf5, ↓zm5, ↓im5, ss5, ↓imd5, ↓vf6, ↓vm6, rf6, rm6, ↓qf6, ↓qm6, ↓zf6, ↓zm6, ↓im6, ss6, ↓imd6, ↓vf7, ↓vm7, rf7, rm7, ↓qf7, ↓qm7, ↓zf7, ↓zm7, ↓im7, ss7, ↓imd7, ↓vf8, ↓vm8, rf8, rm8, ↓qf8, ↓qm8, ↓zf8, ↓zm8, ↓im8, ss8, ↓imd8, ↓vf9, ↓vm9, rf9, rm9, ↓qf9, ↓qm9, ↓zf9, ↓zm9, ↓im9, ss9, ↓imd9, ↓vf10, ↓vm10, rf10, rm10, ↓qf10, ↓qm10, ↓zf10, ↓zm10, ↓im10, ss10, ↓imd10]); (try simp only [T.bind_ret]); exact rfl) ?_); (try (with_reducible refine al_nx ?_))
    refine al_retI.mpr ?_
    (try refine al_rd _ (by (simp -dsimp only [↓fBin_b, ↓fUn_b, ↓fTru_b, ↓fBlT_b, ↓fNotT_b, ↓fOrT_b, ↓fAnd_b, ↓fNot_b, ↓fIf_b, ↓lCons_b, ↓fTup_b, ↓fSl_b, ↓fCall_b, ↓sSeq_b, ↓sExpr_b, ↓sRet_b, ↓sIf_b, ↓sSet_b, ↓sAsg_b, ↓iSeq_b, ↓iRange1_b, ↓sFor_b, ↓fNew_b, ↓nLst_b, ↓nList_b, ↓fAppend_b, ↓fPopAt_b, ↓nLc_b, ↓nListRange_b, ↓sPar_b, ↓sParE_b, ↓sParN_b, ↓sFldSet_b, ↓fC_b, ↓lNil_b, ↓sNil_b, ↓fYes_b, ↓tgName_b, ↓tgNil_b, ↓tgCons_b, ↓tgTup_b, ↓lcRun_b, ↓fPart_n, ↓fPart_s, ↓frz_val, ↓lrs_val, ↓liftS_b, ↓liftN_b, ↓seqOf_t_b, ↓seqOf_l_b, ↓lstOf_l_b, ↓intOf_i_b, ↓blOf_b_b, ↓tru_n_b, ↓tru_b_b, ↓tru_i_b, ↓tru_t_b, ↓tru_l_b, ↓pLen_t_b, ↓pLen_l_b, ↓pLen_s_b, ↓pTuple_t_b, ↓pTuple_l_b, ↓pAdd_i_b, ↓pNeg_i_b, ↓pLt_i_b, ↓pGt_i_b, ↓pGe_i_b, ↓pMax2_i_b, ↓pMin2_i_b, ↓pIs_nn_b, ↓pIs_in_b, ↓pIs_tn_b, ↓pIs_ln_b, ↓pIs_bn_b, ↓pIs_bb_b, ↓pNotIs_nn_b, ↓pNotIs_in_b, ↓pNotIs_tn_b, ↓pNotIs_ln_b, ↓pNotIs_bn_b, ↓pNotIs_bb_b, ↓pCut_t_b, ↓pCut_l_b, ↓atI_0_b, ↓atI_1_b, ↓atI_2_b, ↓atI_3_b, ↓lg0_b, ↓lg1_b, ↓lg2_b, ↓lg3_b, ↓isi_bl_int_b, ↓isi_bl_bool_b, ↓isi_bl_tuple_b, ↓isi2_bl_b, ↓isi_int_int_b, ↓isi_int_bool_b, ↓isi_int_tuple_b, ↓isi2_int_b, ↓isi_str_int_b, ↓isi_str_bool_b, ↓isi_str_tuple_b, ↓isi2_str_b, ↓isi_tup_int_b, ↓isi_tup_bool_b, ↓isi_tup_tuple_b, ↓isi2_tup_b, ↓isi_lst_int_b, ↓isi_lst_bool_b, ↓isi_lst_tuple_b, ↓isi2_lst_b, rs_val, outV_rt, outV_nx, backE_n, backE_u, wipeE_n, wipeE_u, froOf_f, froOf_u, seqOf_t, seqOf_l, lstOf_l, intOf_i, blOf_b, tru_n, tru_b, tru_i, tru_t, tru_l, pLen_t, pLen_l, pLen_s, pTuple_t, pTuple_l, pAdd_i, pNeg_i, pLt_i, pGt_i, pGe_i, pMax2_i, pMin2_i, pIs_nn, pIs_in, pIs_tn, pIs_ln, pIs_bn, pIs_bb, pNotIs_nn, pNotIs_in, pNotIs_tn, pNotIs_ln, pNotIs_bn, pNotIs_bb, pCut_t, pCut_l, atI_0, atI_1, atI_2, atI_3, lg0, lg1, lg2, lg3, isi_bl_int, isi_bl_bool, isi_bl_tuple, isi2_bl, isi_int_int, isi_int_bool, isi_int_tuple, isi2_int, isi_str_int, isi_str_bool, isi_str_tuple, isi2_str, isi_tup_int, isi_tup_bool, isi_tup_tuple, isi2_tup, isi_lst_int, isi_lst_bool, isi_lst_tuple, isi2_lst, pIx_t, pIx_l, pAdd_t, pAdd_l, ↓keyOf1_ib, keyOf1_i, ↓T.bind_assoc, bind_ret', bind_bad', bind_exc', bind_draw', lift_some, lift_none', big, below62', below24', below64', below29', mul_ok, div_ok, mod_ok, ↓sRaise_b, ↓sTryB_b, mDrop_b, ↓mArgs_bb, mArgs_b, mIfX_b, mIfS_b, envB_self, tryT_ret, tryT_exc, tryT_draw, List.length_cons, List.length_nil, List.map_cons, List.map_nil, List.append_nil, List.nil_append, List.cons_append, List.replicate_succ, List.replicate_zero, List.isEmpty_nil, List.isEmpty_cons, Option.map_some, Option.map_none, Option.bind_some, Option.bind_none, true_and, and_true, and_self, false_and, and_false, true_or, or_true, false_or, or_false, not_true_eq_false, not_false_eq_true, Bool.not_true, Bool.not_false, Bool.true_and, Bool.and_true, Bool.false_and, Bool.and_false, Bool.true_or, Bool.or_true, Bool.or_false, Bool.false_or, decide_true, decide_false, decide_eq_true_eq, decide_eq_false_iff_not, if_true, if_false, ite_true, ite_false, ↓reduceIte, Int.natCast_nonneg, Nat.reduceLT, Nat.reduceLeDiff, Nat.reduceEqDiff, Nat.reduceSub, Nat.reduceMul, Int.reduceLT, Int.reduceLE, Int.reduceEq, Int.reduceAdd, Int.reduceSub, Int.reduceMul, Int.reduceNeg, Int.reducePow, List.length_map, List.length_range, eq_self, ne_eq, Classical.not_not, Bool.not_eq_true, Bool.not_eq_false, Bool.false_eq_true, reduceCtorEq, Int.toNat_natCast, Nat.add_eq, Nat.reduceAdd, Int.cast_ofNat_Int, Int.reduceToNat, Int.zero_add, Int.add_zero, Nat.zero_add, Nat.add_zero, Nat.sub_zero, Int.sub_zero, Int.natCast_zero, Int.natCast_one, Int.natCast_add, Int.natCast_succ, beq_self_eq_true, Bool.decide_eq_true, Bool.decide_eq_false, ↓vf0, ↓vm0, rf0, rm0, ↓qf0, ↓qm0, ↓zf0, ↓zm0, ↓im0, ss0, ↓imd0, ↓vf1, ↓vm1, rf1, rm1, ↓qf1, ↓qm1, ↓zf1, ↓zm1, ↓im1, ss1, ↓imd1, ↓vf2, ↓vm2, rf2, rm2, ↓qf2, ↓qm2, ↓zf2, ↓zm2, ↓im2, ss2, ↓imd2, ↓vf3, ↓vm3, rf3, rm3, ↓qf3, ↓qm3, ↓zf3, ↓zm3, ↓im3, ss3, ↓imd3, ↓vf4, ↓vm4, rf4, rm4, ↓qf4, ↓qm4, ↓zf4, ↓zm4, ↓im4, ss4, ↓imd4, ↓vf5, ↓vm5, rf5, rm5, ↓qf5, ↓qm5, ↓zf5, ↓zm5, ↓im5, ss5, ↓imd5, ↓vf6, ↓vm6, rf6, rm6, ↓qf6, ↓qm6, ↓zf6, ↓zm6, ↓im6, ss6, ↓imd6, ↓vf7, ↓vm7, rf7, rm7, ↓qf7, ↓qm7, ↓zf7, ↓zm7, ↓im7, ss7, ↓imd7, ↓vf8, ↓vm8, rf8, rm8, ↓qf8, ↓qm8, ↓zf8, ↓zm8, ↓im8, ss8, ↓imd8, ↓vf9, ↓vm9, rf9, rm9, ↓qf9, ↓qm9, ↓zf9, ↓zm9, ↓im9, ss9, ↓imd9, ↓vf10, ↓vm10, rf10, rm10, ↓qf10, ↓qm10, ↓zf10, ↓zm10, ↓im10, ss10, ↓imd10, take_eq]); (try simp only [T.bind_ret]); exact rfl) ?_); (try (with_reducible refine al_nx ?_))
    refine al_dr fun r hr => al_retI.mpr ?_
    by_cases h : (r : Int) < 2
    · rw [if_pos (by simpa using h)]
      (try refine al_rd _ (by (simp -dsimp only [↓fBin_b, ↓fUn_b, ↓fTru_b, ↓fBlT_b, ↓fNotT_b, ↓fOrT_b, ↓fAnd_b, ↓fNot_b, ↓fIf_b, ↓lCons_b, ↓fTup_b, ↓fSl_b, ↓fCall_b, ↓sSeq_b, ↓sExpr_b, ↓sRet_b, ↓sIf_b, ↓sSet_b, ↓sAsg_b, ↓iSeq_b, ↓iRange1_b, ↓sFor_b, ↓fNew_b, ↓nLst_b, ↓nList_b, ↓fAppend_b, ↓fPopAt_b, ↓nLc_b, ↓nListRange_b, ↓sPar_b, ↓sParE_b, ↓sParN_b, ↓sFldSet_b, ↓fC_b, ↓lNil_b, ↓sNil_b, ↓fYes_b, ↓tgName_b, ↓tgNil_b, ↓tgCons_b, ↓tgTup_b, ↓lcRun_b, ↓fPart_n, ↓fPart_s, ↓frz_val, ↓lrs_val, ↓liftS_b, ↓liftN_b, ↓seqOf_t_b, ↓seqOf_l_b, ↓lstOf_l_b, ↓intOf_i_b, ↓blOf_b_b, ↓tru_n_b, ↓tru_b_b, ↓tru_i_b, ↓tru_t_b, ↓tru_l_b, ↓pLen_t_b, ↓pLen_l_b, ↓pLen_s_b, ↓pTuple_t_b, ↓pTuple_l_b, ↓pAdd_i_b, ↓pNeg_i_b, ↓pLt_i_b, ↓pGt_i_b, ↓pGe_i_b, ↓pMax2_i_b, ↓pMin2_i_b, ↓pIs_nn_b, ↓pIs_in_b, ↓pIs_tn_b, ↓pIs_ln_b, ↓pIs_bn_b, ↓pIs_bb_b, ↓pNotIs_nn_b, ↓pNotIs_in_b, ↓pNotIs_tn_b, ↓pNotIs_ln_b, ↓pNotIs_bn_b, ↓pNotIs_bb_b, ↓pCut_t_b, ↓pCut_l_b, ↓atI_0_b, ↓atI_1_b, ↓atI_2_b, ↓atI_3_b, ↓lg0_b, ↓lg1_b, ↓lg2_b, ↓lg3_b, ↓isi_bl_int_b, ↓isi_bl_bool_b, ↓isi_bl_tuple_b, ↓isi2_bl_b, ↓isi_int_int_b, ↓isi_int_bool_b, ↓isi_int_tuple_b, ↓isi2_int_b, ↓isi_str_int_b, ↓isi_str_bool_b, ↓isi_str_tuple_b, ↓isi2_str_b, ↓isi_tup_int_b, ↓isi_tup_bool_b, ↓isi_tup_tuple_b, ↓isi2_tup_b, ↓isi_lst_int_b, ↓isi_lst_bool_b, ↓isi_lst_tuple_b, ↓isi2_lst_b, rs_val, outV_rt, outV_nx, backE_n, backE_u, wipeE_n, wipeE_u, froOf_f, froOf_u, seqOf_t, seqOf_l, lstOf_l, intOf_i, blOf_b, tru_n, tru_b, tru_i, tru_t, tru_l, pLen_t, pLen_l, pLen_s, pTuple_t, pTuple_l, pAdd_i, pNeg_i, pLt_i, pGt_i, pGe_i, pMax2_i, pMin2_i, pIs_nn, pIs_in, pIs_tn, pIs_ln, pIs_bn, pIs_bb, pNotIs_nn, pNotIs_in, pNotIs_tn, pNotIs_ln, pNotIs_bn, pNotIs_bb, pCut_t, pCut_l, atI_0, atI_1, atI_2, atI_3, lg0, lg1, lg2, lg3, isi_bl_int, isi_bl_bool, isi_bl_tuple, isi2_bl, isi_int_int, isi_int_bool, isi_int_tuple, isi2_int, isi_str_int, isi_str_bool, isi_str_tuple, isi2_str, isi_tup_int, isi_tup_bool, isi_tup_tuple, isi2_tup, isi_lst_int, isi_lst_bool, isi_lst_tuple, isi2_lst, pIx_t, pIx_l, pAdd_t, pAdd_l, ↓keyOf1_ib, keyOf1_i, ↓T.bind_assoc, bind_ret', bind_bad', bind_exc', bind_draw', lift_some, lift_none', big, below62', below24', below64', below29', mul_ok, div_ok, mod_ok, ↓sRaise_b, ↓sTryB_b, mDrop_b, ↓mArgs_bb, mArgs_b, mIfX_b, mIfS_b, envB_self, tryT_ret, tryT_exc, tryT_draw, List.length_cons, List.length_nil, List.map_cons, List.map_nil, List.append_nil, List.nil_append, List.cons_append, List.replicate_succ, List.replicate_zero, List.isEmpty_nil, List.isEmpty_cons, Option.map_some, Option.map_none, Option.bind_some, Option.bind_none, true_and, and_true, and_self, false_and, and_false, true_or, or_true, false_or, or_false, not_true_eq_false, not_false_eq_true, Bool.not_true, Bool.not_false, Bool.true_and, Bool.and_true, Bool.false_and, Bool.and_false, Bool.true_or, Bool.or_true, Bool.or_false, Bool.false_or, decide_true, decide_false, decide_eq_true_eq, decide_eq_false_iff_not, if_true, if_false, ite_true, ite_false, ↓reduceIte, Int.natCast_nonneg, Nat.reduceLT, Nat.reduceLeDiff, Nat.reduceEqDiff, Nat.reduceSub, Nat.reduceMul, Int.reduceLT, Int.reduceLE, Int.reduceEq, Int.reduceAdd, Int.reduceSub, Int.reduceMul, Int.reduceNeg, Int.reducePow, List.length_map, List.length_range, eq_self, ne_eq, Classical.not_not, Bool.not_eq_true, Bool.not_eq_false, Bool.false_eq_true, reduceCtorEq, Int.toNat_natCast, Nat.add_eq, Nat.reduceAdd, Int.cast_ofNat_Int, Int.reduceToNat, Int.zero_add, Int.add_zero, Nat.zero_add, Nat.add_zero, Nat.sub_zero, Int.sub_zero, Int.natCast_zero, Int.natCast_one, Int.natCast_add, Int.natCast_succ, beq_self_eq_true, Bool.decide_eq_true, Bool.decide_eq_false, ↓vf0, ↓vm0, rf0, rm0, ↓qf0, ↓qm0, ↓zf0, ↓zm0, ↓im0, ss0, ↓imd0, ↓vf1, ↓vm1, rf1, rm1, ↓qf1, ↓qm1, ↓zf1, ↓zm1, ↓im1, ss1, ↓imd1, ↓vf2, ↓vm2, rf2, rm2, ↓qf2, ↓qm2, ↓zf2, ↓zm2, ↓im2, ss2, ↓imd2, ↓vf3, ↓vm3, rf3, rm3, ↓qf3, ↓qm3, ↓zf3, ↓zm3, ↓im3, ss3, ↓imd3, ↓vf4, ↓vm4, rf4, rm4, ↓qf4, ↓qm4, ↓zf4, ↓zm4, ↓im4, ss4, ↓imd4, ↓vf5, ↓vm5, rf5, rm5, ↓qf5, ↓qm5, ↓zf5, ↓zm5, ↓im5, ss5, ↓imd5, ↓vf6, ↓vm6, rf6, rm6, ↓qf6, ↓qm6, ↓zf6, ↓zm6, ↓im6, ss6, ↓imd6, ↓vf7, ↓vm7, rf7, rm7, ↓qf7, ↓qm7, ↓zf7, ↓zm7, ↓im7, ss7, ↓imd7, ↓vf8, ↓vm8, rf8, rm8, ↓qf8, ↓qm8, ↓zf8, ↓zm8, ↓im8, ss8, ↓imd8, ↓vf9, ↓vm9, rf9, rm9, ↓qf9, ↓qm9, ↓zf9, ↓zm9, ↓im9, ss9, ↓imd9, ↓vf10, ↓vm10, rf10, rm10, ↓qf10, ↓qm10, ↓zf10, ↓zm10, ↓im10, ss10, ↓imd10]); (try simp only [T.bind_ret]); exact rfl) ?_); (try (with_reducible refine al_nx ?_))
      refine al_retI.mpr ?_
      (try refine al_rd _ (by (simp -dsimp only [↓fBin_b, ↓fUn_b, ↓fTru_b, ↓fBlT_b, ↓fNotT_b, ↓fOrT_b, ↓fAnd_b, ↓fNot_b, ↓fIf_b, ↓lCons_b, ↓fTup_b, ↓fSl_b, ↓fCall_b, ↓sSeq_b, ↓sExpr_b, ↓sRet_b, ↓sIf_b, ↓sSet_b, ↓sAsg_b, ↓iSeq_b, ↓iRange1_b, ↓sFor_b, ↓fNew_b, ↓nLst_b, ↓nList_b, ↓fAppend_b, ↓fPopAt_b, ↓nLc_b, ↓nListRange_b, ↓sPar_b, ↓sParE_b, ↓sParN_b, ↓sFldSet_b, ↓fC_b, ↓lNil_b, ↓sNil_b, ↓fYes_b, ↓tgName_b, ↓tgNil_b, ↓tgCons_b, ↓tgTup_b, ↓lcRun_b, ↓fPart_n, ↓fPart_s, ↓frz_val, ↓lrs_val, ↓liftS_b, ↓liftN_b, ↓seqOf_t_b, ↓seqOf_l_b, ↓lstOf_l_b, ↓intOf_i_b, ↓blOf_b_b, ↓tru_n_b, ↓tru_b_b, ↓tru_i_b, ↓tru_t_b, ↓tru_l_b, ↓pLen_t_b, ↓pLen_l_b, ↓pLen_s_b, ↓pTuple_t_b, ↓pTuple_l_b, ↓pAdd_i_b, ↓pNeg_i_b, ↓pLt_i_b, ↓pGt_i_b, ↓pGe_i_b, ↓pMax2_i_b, ↓pMin2_i_b, ↓pIs_nn_b, ↓pIs_in_b, ↓pIs_tn_b, ↓pIs_ln_b, ↓pIs_bn_b, ↓pIs_bb_b, ↓pNotIs_nn_b, ↓pNotIs_in_b, ↓pNotIs_tn_b, ↓pNotIs_ln_b, ↓pNotIs_bn_b, ↓pNotIs_bb_b, ↓pCut_t_b, ↓pCut_l_b, ↓atI_0_b, ↓atI_1_b, ↓atI_2_b, ↓atI_3_b, ↓lg0_b, ↓lg1_b, ↓lg2_b, ↓lg3_b, ↓isi_bl_int_b, ↓isi_bl_bool_b, ↓isi_bl_tuple_b, ↓isi2_bl_b, ↓isi_int_int_b, ↓isi_int_bool_b, ↓isi_int_tuple_b, ↓isi2_int_b, ↓isi_str_int_b, ↓isi_str_bool_b, ↓isi_str_tuple_b, ↓isi2_str_b, ↓isi_tup_int_b, ↓isi_tup_bool_b, ↓isi_tup_tuple_b, ↓isi2_tup_b, ↓isi_lst_int_b, ↓isi_lst_bool_b, ↓isi_lst_tuple_b, ↓isi2_lst_b, rs_val, outV_rt, outV_nx, backE_n, backE_u, wipeE_n, wipeE_u, froOf_f, froOf_u, seqOf_t, seqOf_l, lstOf_l, intOf_i, blOf_b, tru_n, tru_b, tru_i, tru_t, tru_l, pLen_t, pLen_l, pLen_s, pTuple_t, pTuple_l, pAdd_i, pNeg_i, pLt_i, pGt_i, pGe_i, pMax2_i, pMin2_i, pIs_nn, pIs_in, pIs_tn, pIs_ln, pIs_bn, pIs_bb, pNotIs_nn, pNotIs_in, pNotIs_tn, pNotIs_ln, pNotIs_bn, pNotIs_bb, pCut_t, pCut_l, atI_0, atI_1, atI_2, atI_3, lg0, lg1, lg2, lg3, isi_bl_int, isi_bl_bool, isi_bl_tuple, isi2_bl, isi_int_int, isi_int_bool, isi_int_tuple, isi2_int, isi_str_int, isi_str_bool, isi_str_tuple, isi2_str, isi_tup_int, isi_tup_bool, isi_tup_tuple, isi2_tup, isi_lst_int, isi_lst_bool, isi_lst_tuple, isi2_lst, pIx_t, pIx_l, pAdd_t, pAdd_l, ↓keyOf1_ib, keyOf1_i, ↓T.bind_assoc, bind_ret', bind_bad', bind_exc', bind_draw', lift_some, lift_none', big, below62', below24', below64', below29', mul_ok, div_ok, mod_ok, ↓sRaise_b, ↓sTryB_b, mDrop_b, ↓mArgs_bb, mArgs_b, mIfX_b, mIfS_b, envB_self, tryT_ret, tryT_exc, tryT_draw, List.length_cons, List.length_nil, List.map_cons, List.map_nil, List.append_nil, List.nil_append, List.cons_append, List.replicate_succ, List.replicate_zero, List.isEmpty_nil, List.isEmpty_cons, Option.map_some, Option.map_none, Option.bind_some, Option.bind_none, true_and, and_true, and_self, false_and, and_false, true_or, or_true, false_or, or_false, not_true_eq_false, not_false_eq_true, Bool.not_true, Bool.not_false, Bool.true_and, Bool.and_true, Bool.false_and, Bool.and_false, Bool.true_or, Bool.or_true, Bool.or_false, Bool.false_or, decide_true, decide_false, decide_eq_true_eq, decide_eq_false_iff_not, if_true, if_false, ite_true, ite_false, ↓reduceIte, Int.natCast_nonneg, Nat.reduceLT, Nat.reduceLeDiff, Nat.reduceEqDiff, Nat.reduceSub, Nat.reduceMul, Int.reduceLT, Int.reduceLE, Int.reduceEq, Int.reduceAdd, Int.reduceSub, Int.reduceMul, Int.reduceNeg, Int.reducePow, List.length_map, List.length_range, eq_self, ne_eq, Classical.not_not, Bool.not_eq_true, Bool.not_eq_false, Bool.false_eq_true, reduceCtorEq, Int.toNat_natCast, Nat.add_eq, Nat.reduceAdd, Int.cast_ofNat_Int, Int.reduceToNat, Int.zero_add, Int.add_zero, Nat.zero_add, Nat.add_zero, Nat.sub_zero, Int.sub_zero, Int.natCast_zero, Int.natCast_one, Int.natCast_add, Int.natCast_succ, beq_self_eq_true, Bool.decide_eq_true, Bool.decide_eq_false, ↓vf0, ↓vm0, rf0, rm0, ↓qf0, ↓qm0, ↓zf0, ↓zm0, ↓im0, ss0, ↓imd0, ↓vf1, ↓vm1, rf1, rm1, ↓qf1, ↓qm1, ↓zf1, ↓zm1, ↓im1, ss1, ↓imd1, ↓vf2, ↓vm2, rf2, rm2, ↓qf2, ↓qm2, ↓zf2, ↓zm2, ↓im2, ss2, ↓imd2, ↓vf3, ↓vm3, rf3, rm3, ↓qf3, ↓qm3, ↓zf3, ↓zm3, ↓im3, ss3, ↓imd3, ↓vf4, ↓vm4, rf4, rm4, ↓qf4, ↓qm4, ↓zf4, ↓zm4, ↓im4, ss4, ↓imd4, ↓vf5, ↓vm5, rf5, rm5, ↓qf5, ↓qm5, ↓zf5, ↓zm5, ↓im5, ss5, ↓imd5, ↓vf6, ↓vm6, rf6, rm6, ↓qf6, ↓qm6, ↓zf6, ↓zm6, ↓im6, ss6, ↓imd6, ↓vf7, ↓vm7, rf7, rm7, ↓qf7, ↓qm7, ↓zf7, ↓zm7, ↓im7, ss7, ↓imd7, ↓vf8, ↓vm8, rf8, rm8, ↓qf8, ↓qm8, ↓zf8, ↓zm8, ↓im8, ss8, ↓imd8, ↓vf9, ↓vm9, rf9, rm9, ↓qf9, ↓qm9, ↓zf9, ↓zm9, ↓im9, ss9, ↓imd9, ↓vf10, ↓vm10, rf10, rm10, ↓qf10, ↓qm10, ↓zf10, ↓zm10, ↓im10, ss10, ↓imd10]); (try simp only [T.bind_ret]); exact rfl) ?_); (try (with_reducible refine al_nx ?_))
      refine al_retI.mpr ⟨rfl, sub ++ [l.getD i 0], (nl_snoc sub _), ?_⟩
      rw [List.take_succ, List.getElem?_eq_getElem hi, List.getD_eq_getElem?_getD, List.getElem?_eq_getElem hi]
      exact hs.append (List.Sublist.refl _)
    · rw [if_neg (by simpa using h)]
      exact ⟨rfl, sub, rfl, hs.trans (by rw [List.take_succ]; exact List.sublist_append_left _ _)⟩
  · obtain ⟨sub, e, hs⟩ := hq.2
    rw [nl_len, List.take_length] at hs
    exact ⟨sub, e, hs⟩
theorem law_rota_all (most rws : Int) (hm1 : 1 ≤ most) (hm2 : most ≤ 100) (hr1 : 1 ≤ rws) (hr2 : rws ≤ 100) : (f_law_rota [.box, .int most, .int rws]).Al (fun t => ∃ (n : Nat) (rows : List Rw), t = .tup [.int n, .lst (rows.map rawV)] ∧ WR n rows ∧ (n : Int) ≤ most ∧ (rows.length : Int) ≤ rws) NoX := by
  refine aFnQ rfl ?_
  show (K0_law_rota [.fro .box, .fro (.int most), .fro (.int rws), .un, .un, .un, .un, .un, .un, .un]).Al _ _
  have t1 := take_eq hm1 (by omega)
  have t2 := take_eq hr1 (by omega)
  (simp only [U1f3_law_rota, U1f2_law_rota, U1f1_law_rota, U1f0_law_rota, U2_law_rota, U1_law_rota, U0_law_rota, al_seq, nx_nx, lq_nx]; refine al_rd _ (by (simp -dsimp only [↓fBin_b, ↓fBlT_b, ↓fIf_b, ↓lCons_b, ↓fTup_b, ↓fCall_b, ↓sSeq_b, ↓sExpr_b, ↓sRet_b, ↓sSet_b, ↓iSeq_b, ↓iRange1_b, ↓sFor_b, ↓fNew_b, ↓fAppend_b, ↓nLc_b, ↓nListRange_b, ↓sParE_b, ↓fC_b, ↓lNil_b, ↓sNil_b, ↓fYes_b, ↓tgName_b, ↓tgNil_b, ↓tgCons_b, ↓tgTup_b, ↓lcRun_b, ↓frz_val, ↓lrs_val, ↓liftS_b, ↓liftN_b, ↓seqOf_t_b, ↓seqOf_l_b, ↓lstOf_l_b, ↓intOf_i_b, ↓blOf_b_b, ↓tru_n_b, ↓tru_b_b, ↓tru_i_b, ↓tru_t_b, ↓tru_l_b, ↓pLen_t_b, ↓pLen_l_b, ↓pLen_s_b, ↓pAdd_i_b, ↓pLt_i_b, ↓pGt_i_b, ↓atI_0_b, ↓atI_1_b, ↓atI_2_b, ↓atI_3_b, ↓lg0_b, ↓lg1_b, ↓lg2_b, ↓lg3_b, rs_val, outV_rt, outV_nx, backE_n, backE_u, wipeE_n, wipeE_u, froOf_f, froOf_u, seqOf_t, seqOf_l, lstOf_l, intOf_i, blOf_b, tru_n, tru_b, tru_i, tru_t, tru_l, pLen_t, pLen_l, pLen_s, pAdd_i, pLt_i, pGt_i, atI_0, atI_1, atI_2, atI_3, lg0, lg1, lg2, lg3, pIx_t, pIx_l, pAdd_t, pAdd_l, ↓keyOf1_ib, keyOf1_i, ↓T.bind_assoc, bind_ret', bind_bad', bind_exc', bind_draw', lift_some, lift_none', big, below62', below24', below64', below29', mul_ok, div_ok, mod_ok, ↓mArgs_bb, envB_self, tryT_ret, tryT_exc, tryT_draw, List.length_cons, List.length_nil, List.map_cons, List.map_nil, List.append_nil, List.nil_append, List.cons_append, List.replicate_succ, List.replicate_zero, List.isEmpty_nil, List.isEmpty_cons, Option.map_some, Option.map_none, Option.bind_some, Option.bind_none, true_and, and_true, and_self, false_and, and_false, true_or, or_true, false_or, or_false, not_true_eq_false, not_false_eq_true, Bool.not_true, Bool.not_false, Bool.true_and, Bool.and_true, Bool.false_and, Bool.and_false, Bool.true_or, Bool.or_true, Bool.or_false, Bool.false_or, decide_true, decide_false, decide_eq_true_eq, decide_eq_false_iff_not, if_true, if_false, ite_true, ite_false, ↓reduceIte, Int.natCast_nonneg, Nat.reduceLT, Nat.reduceLeDiff, Nat.reduceEqDiff, Nat.reduceSub, Nat.reduceMul, Int.reduceLT, Int.reduceLE, Int.reduceEq, Int.reduceAdd, Int.reduceSub, Int.reduceMul, Int.reduceNeg, Int.reducePow, List.length_map, List.length_range, eq_self, ne_eq, Classical.not_not, Bool.not_eq_true, Bool.not_eq_false, Bool.false_eq_true, reduceCtorEq, Int.toNat_natCast, Nat.add_eq, Nat.reduceAdd, Int.cast_ofNat_Int, Int.reduceToNat, Int.zero_add, Int.add_zero, Nat.zero_add, Nat.add_zero, Nat.sub_zero, Int.sub_zero, Int.natCast_zero, Int.natCast_one, Int.natCast_add, Int.natCast_succ, beq_self_eq_true, Bool.decide_eq_true, Bool.decide_eq_false, ↓vf0, ↓vm0, rf0, rm0, ↓qf0, ↓qm0, ↓zf0, ↓zm0, ↓im0, ss0, ↓vf1, ↓vm1, rf1, rm1, ↓qf1, ↓qm1, ↓zf1, ↓zm1, ↓im1, ss1, ↓vf2, ↓vm2, rf2, rm2, ↓qf2, ↓qm2, ↓zf2, ↓zm2, ↓im2, ss2, ↓vf3, ↓vm3, rf3, rm3, ↓qf3, ↓qm3, ↓zf3, ↓zm3, ↓im3, ss3, ↓vf4, ↓vm4, rf4, rm4, ↓qf4, ↓qm4, ↓zf4, ↓zm4, ↓im4, ss4, ↓vf5, ↓vm5, rf5, rm5, ↓qf5, ↓qm5, ↓zf5, ↓zm5, ↓im5, ss5, ↓vf6, ↓vm6, rf6, rm6, ↓qf6, ↓qm6, ↓zf6, ↓zm6, ↓im6, ss6, ↓vf7, ↓vm7, rf7, rm7, ↓qf7, ↓qm7, ↓zf7, ↓zm7, ↓im7, ss7, ↓vf8, ↓vm8, rf8, rm8, ↓qf8, ↓qm8, ↓zf8, ↓zm8, ↓im8, ss8, ↓vf9, ↓vm9, rf9, rm9, ↓qf9, ↓qm9, ↓zf9, ↓zm9, ↓im9, ss9, S1f0_law_rota, S1f1_law_rota, S1f2_law_rota, S1f3_law_rota, S0_law_rota, S1_law_rota, S2_law_rota, U1f3_law_rota, U1f2_law_rota, U1f1_law_rota, U1f0_law_rota, U2_law_rota, U1_law_rota, U0_law_rota, t1]); (try simp only [T.bind_ret]); exact rfl) ?_); (try (with_reducible refine al_nx ?_))
  refine al_dr fun p hp => ?_
  (try refine al_rd _ (by (simp -dsimp only [↓fBin_b, ↓fUn_b, ↓fTru_b, ↓fBlT_b, ↓fNotT_b, ↓fOrT_b, ↓fAnd_b, ↓fNot_b, ↓fIf_b, ↓lCons_b, ↓fTup_b, ↓fSl_b, ↓fCall_b, ↓sSeq_b, ↓sExpr_b, ↓sRet_b, ↓sIf_b, ↓sSet_b, ↓sAsg_b, ↓iSeq_b, ↓iRange1_b, ↓sFor_b, ↓fNew_b, ↓nLst_b, ↓nList_b, ↓fAppend_b, ↓fPopAt_b, ↓nLc_b, ↓nListRange_b, ↓sPar_b, ↓sParE_b, ↓sParN_b, ↓sFldSet_b, ↓fC_b, ↓lNil_b, ↓sNil_b, ↓fYes_b, ↓tgName_b, ↓tgNil_b, ↓tgCons_b, ↓tgTup_b, ↓lcRun_b, ↓fPart_n, ↓fPart_s, ↓frz_val, ↓lrs_val, ↓liftS_b, ↓liftN_b, ↓seqOf_t_b, ↓seqOf_l_b, ↓lstOf_l_b, ↓intOf_i_b, ↓blOf_b_b, ↓tru_n_b, ↓tru_b_b, ↓tru_i_b, ↓tru_t_b, ↓tru_l_b, ↓pLen_t_b, ↓pLen_l_b, ↓pLen_s_b, ↓pTuple_t_b, ↓pTuple_l_b, ↓pAdd_i_b, ↓pNeg_i_b, ↓pLt_i_b, ↓pGt_i_b, ↓pGe_i_b, ↓pMax2_i_b, ↓pMin2_i_b, ↓pIs_nn_b, ↓pIs_in_b, ↓pIs_tn_b, ↓pIs_ln_b, ↓pIs_bn_b, ↓pIs_bb_b, ↓pNotIs_nn_b, ↓pNotIs_in_b, ↓pNotIs_tn_b, ↓pNotIs_ln_b, ↓pNotIs_bn_b, ↓pNotIs_bb_b, ↓pCut_t_b, ↓pCut_l_b, ↓atI_0_b, ↓atI_1_b, ↓atI_2_b, ↓atI_3_b, ↓lg0_b, ↓lg1_b, ↓lg2_b, ↓lg3_b, ↓isi_bl_int_b, ↓isi_bl_bool_b, ↓isi_bl_tuple_b, ↓isi2_bl_b, ↓isi_int_int_b, ↓isi_int_bool_b, ↓isi_int_tuple_b, ↓isi2_int_b, ↓isi_str_int_b, ↓isi_str_bool_b, ↓isi_str_tuple_b, ↓isi2_str_b, ↓isi_tup_int_b, ↓isi_tup_bool_b, ↓isi_tup_tuple_b, ↓isi2_tup_b, ↓isi_lst_int_b, ↓isi_lst_bool_b, ↓isi_lst_tuple_b, ↓isi2_lst_b, rs_val, outV_rt, outV_nx, backE_n, backE_u, wipeE_n, wipeE_u, froOf_f, froOf_u, seqOf_t, seqOf_l, lstOf_l, intOf_i, blOf_b, tru_n, tru_b, tru_i, tru_t, tru_l, pLen_t, pLen_l, pLen_s, pTuple_t, pTuple_l, pAdd_i, pNeg_i, pLt_i, pGt_i, pGe_i, pMax2_i, pMin2_i, pIs_nn, pIs_in, pIs_tn, pIs_ln, pIs_bn, pIs_bb, pNotIs_nn, pNotIs_in, pNotIs_tn, pNotIs_ln, pNotIs_bn, pNotIs_bb, pCut_t, pCut_l, atI_0, atI_1, atI_2, atI_3, lg0, lg1, lg2, lg3, isi_bl_int, isi_bl_bool, isi_bl_tuple, isi2_bl, isi_int_int, isi_int_bool, isi_int_tuple, isi2_int, isi_str_int, isi_str_bool, isi_str_tuple, isi2_str, isi_tup_int, isi_tup_bool, isi_tup_tuple, isi2_tup, isi_lst_int, isi_lst_bool, isi_lst_tuple, isi2_lst, pIx_t, pIx_l, pAdd_t, pAdd_l, ↓keyOf1_ib, keyOf1_i, ↓T.bind_assoc, bind_ret', bind_bad', bind_exc', bind_draw', lift_some, lift_none', big, below62', below24', below64', below29', mul_ok, div_ok, mod_ok, ↓sRaise_b, ↓sTryB_b, mDrop_b, ↓mArgs_bb, mArgs_b, mIfX_b, mIfS_b, envB_self, tryT_ret, tryT_exc, tryT_draw, List.length_cons, List.length_nil, List.map_cons, List.map_nil, List.append_nil, List.nil_append, List.cons_append, List.replicate_succ, List.replicate_zero, List.isEmpty_nil, List.isEmpty_cons, Option.map_some, Option.map_none, Option.bind_some, Option.bind_none, true_and, and_true, and_self, false_and, and_false, true_or, or_true, false_or, or_false, not_true_eq_false, not_false_eq_true, Bool.not_true, Bool.not_false, Bool.true_and, Bool.and_true, Bool.false_and, Bool.and_false, Bool.true_or, Bool.or_true, Bool.or_false, Bool.false_or, decide_true, decide_false, decide_eq_true_eq, decide_eq_false_iff_not, if_true, if_false, ite_true, ite_false, ↓reduceIte, Int.natCast_nonneg, Nat.reduceLT, Nat.reduceLeDiff, Nat.reduceEqDiff, Nat.reduceSub, Nat.reduceMul, Int.reduceLT, Int.reduceLE, Int.reduceEq, Int.reduceAdd, Int.reduceSub, Int.reduceMul, Int.reduceNeg, Int.reducePow, List.length_map, List.length_range, eq_self, ne_eq, Classical.not_not, Bool.not_eq_true, Bool.not_eq_false, Bool.false_eq_true, reduceCtorEq, Int.toNat_natCast, Nat.add_eq, Nat.reduceAdd, Int.cast_ofNat_Int, Int.reduceToNat, Int.zero_add, Int.add_zero, Nat.zero_add, Nat.add_zero, Nat.sub_zero, Int.sub_zero, Int.natCast_zero, Int.natCast_one, Int.natCast_add, Int.natCast_succ, beq_self_eq_true, Bool.decide_eq_true, Bool.decide_eq_false, ↓vf0, ↓vm0, rf0, rm0, ↓qf0, ↓qm0, ↓zf0, ↓zm0, ↓im0, ss0, ↓imd0, ↓vf1, ↓vm1, rf1, rm1, ↓qf1, ↓qm1, ↓zf1, ↓zm1, ↓im1, ss1, ↓imd1, ↓vf2, ↓vm2, rf2, rm2, ↓qf2, ↓qm2, ↓zf2, ↓zm2, ↓im2, ss2, ↓imd2, ↓vf3, ↓vm3, rf3, rm3, ↓qf3, ↓qm3, ↓zf3, ↓zm3, ↓im3, ss3, ↓imd3, ↓vf4, ↓vm4, rf4, rm4, ↓qf4, ↓qm4, ↓zf4, ↓zm4, ↓im4, ss4, ↓imd4, ↓vf5, ↓vm5, rf5, rm5, ↓qf5, ↓qm5, ↓zf5, ↓zm5, ↓im5, ss5, ↓imd5, ↓vf6, ↓vm6, rf6, rm6, ↓qf6, ↓qm6, ↓zf6, ↓zm6, ↓im6, ss6, ↓imd6, ↓vf7, ↓vm7, rf7, rm7, ↓qf7, ↓qm7, ↓zf7, ↓zm7, ↓im7, ss7, ↓imd7, ↓vf8, ↓vm8, rf8, rm8, ↓qf8, ↓qm8, ↓zf8, ↓zm8, ↓im8, ss8, ↓imd8, ↓vf9, ↓vm9, rf9, rm9, ↓qf9, ↓qm9, ↓zf9, ↓zm9, ↓im9, ss9, ↓imd9, ↓vf10, ↓vm10, rf10, rm10, ↓qf10, ↓qm10, ↓zf10, ↓zm10, ↓im10, ss10, ↓imd10]); (try simp only [T.bind_ret]); exact rfl) ?_); (try (with_reducible refine al_nx ?_))
  have hn : (1 + (p : Int)) = ((p + 1 : Nat) : Int) := by omega
  rw [hn]
  generalize hN : p + 1 = n
  have n0 : 0 < n := by omega
  have n1 : (n : Int) ≤ most := by omega
  (simp only [U1f3_law_rota, U1f2_law_rota, U1f1_law_rota, U1f0_law_rota, U2_law_rota, U1_law_rota, U0_law_rota, al_seq, nx_nx, lq_nx]; refine al_rd _ (by (simp -dsimp only [↓fBin_b, ↓fBlT_b, ↓fIf_b, ↓lCons_b, ↓fTup_b, ↓fCall_b, ↓sSeq_b, ↓sExpr_b, ↓sRet_b, ↓sSet_b, ↓iSeq_b, ↓iRange1_b, ↓sFor_b, ↓fNew_b, ↓fAppend_b, ↓nLc_b, ↓nListRange_b, ↓sParE_b, ↓fC_b, ↓lNil_b, ↓sNil_b, ↓fYes_b, ↓tgName_b, ↓tgNil_b, ↓tgCons_b, ↓tgTup_b, ↓lcRun_b, ↓frz_val, ↓lrs_val, ↓liftS_b, ↓liftN_b, ↓seqOf_t_b, ↓seqOf_l_b, ↓lstOf_l_b, ↓intOf_i_b, ↓blOf_b_b, ↓tru_n_b, ↓tru_b_b, ↓tru_i_b, ↓tru_t_b, ↓tru_l_b, ↓pLen_t_b, ↓pLen_l_b, ↓pLen_s_b, ↓pAdd_i_b, ↓pLt_i_b, ↓pGt_i_b, ↓atI_0_b, ↓atI_1_b, ↓atI_2_b, ↓atI_3_b, ↓lg0_b, ↓lg1_b, ↓lg2_b, ↓lg3_b, rs_val, outV_rt, outV_nx, backE_n, backE_u, wipeE_n, wipeE_u, froOf_f, froOf_u, seqOf_t, seqOf_l, lstOf_l, intOf_i, blOf_b, tru_n, tru_b, tru_i, tru_t, tru_l, pLen_t, pLen_l, pLen_s, pAdd_i, pLt_i, pGt_i, atI_0, atI_1, atI_2, atI_3, lg0, lg1, lg2, lg3, pIx_t, pIx_l, pAdd_t, pAdd_l, ↓keyOf1_ib, keyOf1_i, ↓T.bind_assoc, bind_ret', bind_bad', bind_exc', bind_draw', lift_some, lift_none', big, below62', below24', below64', below29', mul_ok, div_ok, mod_ok, ↓mArgs_bb, envB_self, tryT_ret, tryT_exc, tryT_draw, List.length_cons, List.length_nil, List.map_cons, List.map_nil, List.append_nil, List.nil_append, List.cons_append, List.replicate_succ, List.replicate_zero, List.isEmpty_nil, List.isEmpty_cons, Option.map_some, Option.map_none, Option.bind_some, Option.bind_none, true_and, and_true, and_self, false_and, and_false, true_or, or_true, false_or, or_false, not_true_eq_false, not_false_eq_true, Bool.not_true, Bool.not_false, Bool.true_and, Bool.and_true, Bool.false_and, Bool.and_false, Bool.true_or, Bool.or_true, Bool.or_false, Bool.false_or, decide_true, decide_false, decide_eq_true_eq, decide_eq_false_iff_not, if_true, if_false, ite_true, ite_false, ↓reduceIte, Int.natCast_nonneg, Nat.reduceLT, Nat.reduceLeDiff, Nat.reduceEqDiff, Nat.reduceSub, Nat.reduceMul, Int.reduceLT, Int.reduceLE, Int.reduceEq, Int.reduceAdd, Int.reduceSub, Int.reduceMul, Int.reduceNeg, Int.reducePow, List.length_map, List.length_range, eq_self, ne_eq, Classical.not_not, Bool.not_eq_true, Bool.not_eq_false, Bool.false_eq_true, reduceCtorEq, Int.toNat_natCast, Nat.add_eq, Nat.reduceAdd, Int.cast_ofNat_Int, Int.reduceToNat, Int.zero_add, Int.add_zero, Nat.zero_add, Nat.add_zero, Nat.sub_zero, Int.sub_zero, Int.natCast_zero, Int.natCast_one, Int.natCast_add, Int.natCast_succ, beq_self_eq_true, Bool.decide_eq_true, Bool.decide_eq_false, ↓vf0, ↓vm0, rf0, rm0, ↓qf0, ↓qm0, ↓zf0, ↓zm0, ↓im0, ss0, ↓vf1, ↓vm1, rf1, rm1, ↓qf1, ↓qm1, ↓zf1, ↓zm1, ↓im1, ss1, ↓vf2, ↓vm2, rf2, rm2, ↓qf2, ↓qm2, ↓zf2, ↓zm2, ↓im2, ss2, ↓vf3, ↓vm3, rf3, rm3, ↓qf3, ↓qm3, ↓zf3, ↓zm3, ↓im3, ss3, ↓vf4, ↓vm4, rf4, rm4, ↓qf4, ↓qm4, ↓zf4, ↓zm4, ↓im4, ss4, ↓vf5, ↓vm5, rf5, rm5, ↓qf5, ↓qm5, ↓zf5, ↓zm5, ↓im5, ss5, ↓vf6, ↓vm6, rf6, rm6, ↓qf6, ↓qm6, ↓zf6, ↓zm6, ↓im6, ss6, ↓vf7, ↓vm7, rf7, rm7, ↓qf7, ↓qm7, ↓zf7, ↓zm7, ↓im7, ss7, ↓vf8, ↓vm8, rf8, rm8, ↓qf8, ↓qm8, ↓zf8, ↓zm8, ↓im8, ss8, ↓vf9, ↓vm9, rf9, rm9, ↓qf9, ↓qm9, ↓zf9, ↓zm9, ↓im9, ss9, S1f0_law_rota, S1f1_law_rota, S1f2_law_rota, S1f3_law_rota, S0_law_rota, S1_law_rota, S2_law_rota, U1f3_law_rota, U1f2_law_rota, U1f1_law_rota, U1f0_law_rota, U2_law_rota, U1_law_rota, U0_law_rota, t2]); (try simp only [T.bind_ret]); exact rfl) ?_); (try (with_reducible refine al_nx ?_))
  refine al_dr fun m hm => ?_
  have b62 : below (1 + (m : Int)) 62 = true := below_of (by omega)
  (try refine al_rd _ (by (simp -dsimp only [↓fBin_b, ↓fUn_b, ↓fTru_b, ↓fBlT_b, ↓fNotT_b, ↓fOrT_b, ↓fAnd_b, ↓fNot_b, ↓fIf_b, ↓lCons_b, ↓fTup_b, ↓fSl_b, ↓fCall_b, ↓sSeq_b, ↓sExpr_b, ↓sRet_b, ↓sIf_b, ↓sSet_b, ↓sAsg_b, ↓iSeq_b, ↓iRange1_b, ↓sFor_b, ↓fNew_b, ↓nLst_b, ↓nList_b, ↓fAppend_b, ↓fPopAt_b, ↓nLc_b, ↓nListRange_b, ↓sPar_b, ↓sParE_b, ↓sParN_b, ↓sFldSet_b, ↓fC_b, ↓lNil_b, ↓sNil_b, ↓fYes_b, ↓tgName_b, ↓tgNil_b, ↓tgCons_b, ↓tgTup_b, ↓lcRun_b, ↓fPart_n, ↓fPart_s, ↓frz_val, ↓lrs_val, ↓liftS_b, ↓liftN_b, ↓seqOf_t_b, ↓seqOf_l_b, ↓lstOf_l_b, ↓intOf_i_b, ↓blOf_b_b, ↓tru_n_b, ↓tru_b_b, ↓tru_i_b, ↓tru_t_b, ↓tru_l_b, ↓pLen_t_b, ↓pLen_l_b, ↓pLen_s_b, ↓pTuple_t_b, ↓pTuple_l_b, ↓pAdd_i_b, ↓pNeg_i_b, ↓pLt_i_b, ↓pGt_i_b, ↓pGe_i_b, ↓pMax2_i_b, ↓pMin2_i_b, ↓pIs_nn_b, ↓pIs_in_b, ↓pIs_tn_b, ↓pIs_ln_b, ↓pIs_bn_b, ↓pIs_bb_b, ↓pNotIs_nn_b, ↓pNotIs_in_b, ↓pNotIs_tn_b, ↓pNotIs_ln_b, ↓pNotIs_bn_b, ↓pNotIs_bb_b, ↓pCut_t_b, ↓pCut_l_b, ↓atI_0_b, ↓atI_1_b, ↓atI_2_b, ↓atI_3_b, ↓lg0_b, ↓lg1_b, ↓lg2_b, ↓lg3_b, ↓isi_bl_int_b, ↓isi_bl_bool_b, ↓isi_bl_tuple_b, ↓isi2_bl_b, ↓isi_int_int_b, ↓isi_int_bool_b, ↓isi_int_tuple_b, ↓isi2_int_b, ↓isi_str_int_b, ↓isi_str_bool_b, ↓isi_str_tuple_b, ↓isi2_str_b, ↓isi_tup_int_b, ↓isi_tup_bool_b, ↓isi_tup_tuple_b, ↓isi2_tup_b, ↓isi_lst_int_b, ↓isi_lst_bool_b, ↓isi_lst_tuple_b, ↓isi2_lst_b, rs_val, outV_rt, outV_nx, backE_n, backE_u, wipeE_n, wipeE_u, froOf_f, froOf_u, seqOf_t, seqOf_l, lstOf_l, intOf_i, blOf_b, tru_n, tru_b, tru_i, tru_t, tru_l, pLen_t, pLen_l, pLen_s, pTuple_t, pTuple_l, pAdd_i, pNeg_i, pLt_i, pGt_i, pGe_i, pMax2_i, pMin2_i, pIs_nn, pIs_in, pIs_tn, pIs_ln, pIs_bn, pIs_bb, pNotIs_nn, pNotIs_in, pNotIs_tn, pNotIs_ln, pNotIs_bn, pNotIs_bb, pCut_t, pCut_l, atI_0, atI_1, atI_2, atI_3, lg0, lg1, lg2, lg3, isi_bl_int, isi_bl_bool, isi_bl_tuple, isi2_bl, isi_int_int, isi_int_bool, isi_int_tuple, isi2_int, isi_str_int, isi_str_bool, isi_str_tuple, isi2_str, isi_tup_int, isi_tup_bool, isi_tup_tuple, isi2_tup, isi_lst_int, isi_lst_bool, isi_lst_tuple, isi2_lst, pIx_t, pIx_l, pAdd_t, pAdd_l, ↓keyOf1_ib, keyOf1_i, ↓T.bind_assoc, bind_ret', bind_bad', bind_exc', bind_draw', lift_some, lift_none', big, below62', below24', below64', below29', mul_ok, div_ok, mod_ok, ↓sRaise_b, ↓sTryB_b, mDrop_b, ↓mArgs_bb, mArgs_b, mIfX_b, mIfS_b, envB_self, tryT_ret, tryT_exc, tryT_draw, List.length_cons, List.length_nil, List.map_cons, List.map_nil, List.append_nil, List.nil_append, List.cons_append, List.replicate_succ, List.replicate_zero, List.isEmpty_nil, List.isEmpty_cons, Option.map_some, Option.map_none, Option.bind_some, Option.bind_none, true_and, and_true, and_self, false_and, and_false, true_or, or_true, false_or, or_false, not_true_eq_false, not_false_eq_true, Bool.not_true, Bool.not_false, Bool.true_and, Bool.and_true, Bool.false_and, Bool.and_false, Bool.true_or, Bool.or_true, Bool.or_false, Bool.false_or, decide_true, decide_false, decide_eq_true_eq, decide_eq_false_iff_not, if_true, if_false, ite_true, ite_false, ↓reduceIte, Int.natCast_nonneg, Nat.reduceLT, Nat.reduceLeDiff, Nat.reduceEqDiff, Nat.reduceSub, Nat.reduceMul, Int.reduceLT, Int.reduceLE, Int.reduceEq, Int.reduceAdd, Int.reduceSub, Int.reduceMul, Int.reduceNeg, Int.reducePow, List.length_map, List.length_range, eq_self, ne_eq, Classical.not_not, Bool.not_eq_true, Bool.not_eq_false, Bool.false_eq_true, reduceCtorEq, Int.toNat_natCast, Nat.add_eq, Nat.reduceAdd, Int.cast_ofNat_Int, Int.reduceToNat, Int.zero_add, Int.add_zero, Nat.zero_add, Nat.add_zero, Nat.sub_zero, Int.sub_zero, Int.natCast_zero, Int.natCast_one, Int.natCast_add, Int.natCast_succ, beq_self_eq_true, Bool.decide_eq_true, Bool.decide_eq_false, ↓vf0, ↓vm0, rf0, rm0, ↓qf0, ↓qm0, ↓zf0, ↓zm0, ↓im0, ss0, ↓imd0, ↓vf1, ↓vm1, rf1, rm1, ↓qf1, ↓qm1, ↓zf1, ↓zm1, ↓im1, ss1, ↓imd1, ↓vf2, ↓vm2, rf2, rm2, ↓qf2, ↓qm2, ↓zf2, ↓zm2, ↓im2, ss2, ↓imd2, ↓vf3, ↓vm3, rf3, rm3, ↓qf3, ↓qm3, ↓zf3, ↓zm3, ↓im3, ss3, ↓imd3, ↓vf4, ↓vm4, rf4, rm4, ↓qf4, ↓qm4, ↓zf4, ↓zm4, ↓im4, ss4, ↓imd4, ↓vf5, ↓vm5, rf5, rm5, ↓qf5, ↓qm5, ↓zf5, ↓zm5, ↓im5, ss5, ↓imd5, ↓vf6, ↓vm6, rf6, rm6, ↓qf6, ↓qm6, ↓zf6, ↓zm6, ↓im6, ss6, ↓imd6, ↓vf7, ↓vm7, rf7, rm7, ↓qf7, ↓qm7, ↓zf7, ↓zm7, ↓im7, ss7, ↓imd7, ↓vf8, ↓vm8, rf8, rm8, ↓qf8, ↓qm8, ↓zf8, ↓zm8, ↓im8, ss8, ↓imd8, ↓vf9, ↓vm9, rf9, rm9, ↓qf9, ↓qm9, ↓zf9, ↓zm9, ↓im9, ss9, ↓imd9, ↓vf10, ↓vm10, rf10, rm10, ↓qf10, ↓qm10, ↓zf10, ↓zm10, ↓im10, ss10, ↓imd10, b62]); (try simp only [T.bind_ret]); exact rfl) ?_); (try (with_reducible refine al_nx ?_))
  refine al_forL (fun i ρ => ∃ (rows : List Rw) (s5 s6 s7 s8 : Dn.Slot), ρ = [.fro .box, .fro (.int most), .fro (.int rws), .fro (.int n), .ml (rows.map rawV), s5, s6, s7, s8, .un] ∧ rows.length = i ∧ ∀ r ∈ rows, RowOk n r) ⟨[], _, _, _, _, rfl, rfl, fun r hr => by simp at hr⟩ (fun i x ρ hx hI => ?_) fun ρ hI => ?_
  · obtain ⟨rows, s5, s6, s7, s8, rfl, hlen, hok⟩ := hI
    obtain ⟨hi, rfl⟩ := range_get hx
    have bn : below (n : Int) 24 = true := below_of (by omega)
    (try refine al_rd _ (by (simp -dsimp only [↓fBin_b, ↓fUn_b, ↓fTru_b, ↓fBlT_b, ↓fNotT_b, ↓fOrT_b, ↓fAnd_b, ↓fNot_b, ↓fIf_b, ↓lCons_b, ↓fTup_b, ↓fSl_b, ↓fCall_b, ↓sSeq_b, ↓sExpr_b, ↓sRet_b, ↓sIf_b, ↓sSet_b, ↓sAsg_b, ↓iSeq_b, ↓iRange1_b, ↓sFor_b, ↓fNew_b, ↓nLst_b, ↓nList_b, ↓fAppend_b, ↓fPopAt_b, ↓nLc_b, ↓nListRange_b, ↓sPar_b, ↓sParE_b, ↓sParN_b, ↓sFldSet_b, ↓fC_b, ↓lNil_b, ↓sNil_b, ↓fYes_b, ↓tgName_b, ↓tgNil_b, ↓tgCons_b, ↓tgTup_b, ↓lcRun_b, ↓fPart_n, ↓fPart_s, ↓frz_val, ↓lrs_val, ↓liftS_b, ↓liftN_b, ↓seqOf_t_b, ↓seqOf_l_b, ↓lstOf_l_b, ↓intOf_i_b, ↓blOf_b_b, ↓tru_n_b, ↓tru_b_b, ↓tru_i_b, ↓tru_t_b, ↓tru_l_b, ↓pLen_t_b, ↓pLen_l_b, ↓pLen_s_b, ↓pTuple_t_b, ↓pTuple_l_b, ↓pAdd_i_b, ↓pNeg_i_b, ↓pLt_i_b, ↓pGt_i_b, ↓pGe_i_b, ↓pMax2_i_b, ↓pMin2_i_b, ↓pIs_nn_b, ↓pIs_in_b, ↓pIs_tn_b, ↓pIs_ln_b, ↓pIs_bn_b, ↓pIs_bb_b, ↓pNotIs_nn_b, ↓pNotIs_in_b, ↓pNotIs_tn_b, ↓pNotIs_ln_b, ↓pNotIs_bn_b, ↓pNotIs_bb_b, ↓pCut_t_b, ↓pCut_l_b, ↓atI_0_b, ↓atI_1_b, ↓atI_2_b, ↓atI_3_b, ↓lg0_b, ↓lg1_b, ↓lg2_b, ↓lg3_b, ↓isi_bl_int_b, ↓isi_bl_bool_b, ↓isi_bl_tuple_b, ↓isi2_bl_b, ↓isi_int_int_b, ↓isi_int_bool_b, ↓isi_int_tuple_b, ↓isi2_int_b, ↓isi_str_int_b, ↓isi_str_bool_b, ↓isi_str_tuple_b, ↓isi2_str_b, ↓isi_tup_int_b, ↓isi_tup_bool_b, ↓isi_tup_tuple_b, ↓isi2_tup_b, ↓isi_lst_int_b, ↓isi_lst_bool_b, ↓isi_lst_tuple_b, ↓isi2_lst_b, rs_val, outV_rt, outV_nx, backE_n, backE_u, wipeE_n, wipeE_u, froOf_f, froOf_u, seqOf_t, seqOf_l, lstOf_l, intOf_i, blOf_b, tru_n, tru_b, tru_i, tru_t, tru_l, pLen_t, pLen_l, pLen_s, pTuple_t, pTuple_l, pAdd_i, pNeg_i, pLt_i, pGt_i, pGe_i, pMax2_i, pMin2_i, pIs_nn, pIs_in, pIs_tn, pIs_ln, pIs_bn, pIs_bb, pNotIs_nn, pNotIs_in, pNotIs_tn, pNotIs_ln, pNotIs_bn, pNotIs_bb, pCut_t, pCut_l, atI_0, atI_1, atI_2, atI_3, lg0, lg1, lg2, lg3, isi_bl_int, isi_bl_bool, isi_bl_tuple, isi2_bl, isi_int_int, isi_int_bool, isi_int_tuple, isi2_int, isi_str_int, isi_str_bool, isi_str_tuple, isi2_str, isi_tup_int, isi_tup_bool, isi_tup_tuple, isi2_tup, isi_lst_int, isi_lst_bool, isi_lst_tuple, isi2_lst, pIx_t, pIx_l, pAdd_t, pAdd_l, ↓keyOf1_ib, keyOf1_i, ↓T.bind_assoc, bind_ret', bind_bad', bind_exc', bind_draw', lift_some, lift_none', big, below62', below24', below64', below29', mul_ok, div_ok, mod_ok, ↓sRaise_b, ↓sTryB_b, mDrop_b, ↓mArgs_bb, mArgs_b, mIfX_b, mIfS_b, envB_self, tryT_ret, tryT_exc, tryT_draw, List.length_cons, List.length_nil, List.map_cons, List.map_nil, List.append_nil, List.nil_append, List.cons_append, List.replicate_succ, List.replicate_zero, List.isEmpty_nil, List.isEmpty_cons, Option.map_some, Option.map_none, Option.bind_some, Option.bind_none, true_and, and_true, and_self, false_and, and_false, true_or, or_true, false_or, or_false, not_true_eq_false, not_false_eq_true, Bool.not_true, Bool.not_false, Bool.true_and, Bool.and_true, Bool.false_and, Bool.and_false, Bool.true_or, Bool.or_true, Bool.or_false, Bool.false_or, decide_true, decide_false, decide_eq_true_eq, decide_eq_false_iff_not, if_true, if_false, ite_true, ite_false, ↓reduceIte, Int.natCast_nonneg, Nat.reduceLT, Nat.reduceLeDiff, Nat.reduceEqDiff, Nat.reduceSub, Nat.reduceMul, Int.reduceLT, Int.reduceLE, Int.reduceEq, Int.reduceAdd, Int.reduceSub, Int.reduceMul, Int.reduceNeg, Int.reducePow, List.length_map, List.length_range, eq_self, ne_eq, Classical.not_not, Bool.not_eq_true, Bool.not_eq_false, Bool.false_eq_true, reduceCtorEq, Int.toNat_natCast, Nat.add_eq, Nat.reduceAdd, Int.cast_ofNat_Int, Int.reduceToNat, Int.zero_add, Int.add_zero, Nat.zero_add, Nat.add_zero, Nat.sub_zero, Int.sub_zero, Int.natCast_zero, Int.natCast_one, Int.natCast_add, Int.natCast_succ, beq_self_eq_true, Bool.decide_eq_true, Bool.decide_eq_false, ↓vf0, ↓vm0, rf0, rm0, ↓qf0, ↓qm0, ↓zf0, ↓zm0, ↓im0, ss0, ↓imd0, ↓vf1, ↓vm1, rf1, rm1, ↓qf1, ↓qm1, ↓zf1, ↓zm1, ↓im1, ss1, ↓imd1, ↓vf2, ↓vm2, rf2, rm2, ↓qf2, ↓qm2, ↓zf2, ↓zm2, ↓im2, ss2, ↓imd2, ↓vf3, ↓vm3, rf3, rm3, ↓qf3, ↓qm3, ↓zf3, ↓zm3, ↓im3, ss3, ↓imd3, ↓vf4, ↓vm4, rf4, rm4, ↓qf4, ↓qm4, ↓zf4, ↓zm4, ↓im4, ss4, ↓imd4, ↓vf5, ↓vm5, rf5, rm5, ↓qf5, ↓qm5, ↓zf5, ↓zm5, ↓im5, ss5, ↓imd5, ↓vf6, ↓vm6, rf6, rm6, ↓qf6, ↓qm6, ↓zf6, ↓zm6, ↓im6, ss6, ↓imd6, ↓vf7, ↓vm7, rf7, rm7, ↓qf7, ↓qm7, ↓zf7, ↓zm7, ↓im7, ss7, ↓imd7, ↓vf8, ↓vm8, rf8, rm8, ↓qf8, ↓qm8, ↓zf8, ↓zm8, ↓im8, ss8, ↓imd8, ↓vf9, ↓vm9, rf9, rm9, ↓qf9, ↓qm9, ↓zf9, ↓zm9, ↓im9, ss9, ↓imd9, ↓vf10, ↓vm10, rf10, rm10, ↓qf10, ↓qm10, ↓zf10, ↓zm10, ↓im10, ss10, ↓imd10]); (try simp only [T.bind_ret]); exact rfl) ?_); (try (with_reducible refine al_nx ?_)); refine al_retI.mpr ?_
    (simp only [U1f3_law_rota, U1f2_law_rota, U1f1_law_rota, U1f0_law_rota, U2_law_rota, U1_law_rota, U0_law_rota, al_seq, nx_nx, lq_nx]; refine al_rd _ (by (simp -dsimp only [↓fBin_b, ↓fBlT_b, ↓fIf_b, ↓lCons_b, ↓fTup_b, ↓fCall_b, ↓sSeq_b, ↓sExpr_b, ↓sRet_b, ↓sSet_b, ↓iSeq_b, ↓iRange1_b, ↓sFor_b, ↓fNew_b, ↓fAppend_b, ↓nLc_b, ↓nListRange_b, ↓sParE_b, ↓fC_b, ↓lNil_b, ↓sNil_b, ↓fYes_b, ↓tgName_b, ↓tgNil_b, ↓tgCons_b, ↓tgTup_b, ↓lcRun_b, ↓frz_val, ↓lrs_val, ↓liftS_b, ↓liftN_b, ↓seqOf_t_b, ↓seqOf_l_b, ↓lstOf_l_b, ↓intOf_i_b, ↓blOf_b_b, ↓tru_n_b, ↓tru_b_b, ↓tru_i_b, ↓tru_t_b, ↓tru_l_b, ↓pLen_t_b, ↓pLen_l_b, ↓pLen_s_b, ↓pAdd_i_b, ↓pLt_i_b, ↓pGt_i_b, ↓atI_0_b, ↓atI_1_b, ↓atI_2_b, ↓atI_3_b, ↓lg0_b, ↓lg1_b, ↓lg2_b, ↓lg3_b, rs_val, outV_rt, outV_nx, backE_n, backE_u, wipeE_n, wipeE_u, froOf_f, froOf_u, seqOf_t, seqOf_l, lstOf_l, intOf_i, blOf_b, tru_n, tru_b, tru_i, tru_t, tru_l, pLen_t, pLen_l, pLen_s, pAdd_i, pLt_i, pGt_i, atI_0, atI_1, atI_2, atI_3, lg0, lg1, lg2, lg3, pIx_t, pIx_l, pAdd_t, pAdd_l, ↓keyOf1_ib, keyOf1_i, ↓T.bind_assoc, bind_ret', bind_bad', bind_exc', bind_draw', lift_some, lift_none', big, below62', below24', below64', below29', mul_ok, div_ok, mod_ok, ↓mArgs_bb, envB_self, tryT_ret, tryT_exc, tryT_draw, List.length_cons, List.length_nil, List.map_cons, List.map_nil, List.append_nil, List.nil_append, List.cons_append, List.replicate_succ, List.replicate_zero, List.isEmpty_nil, List.isEmpty_cons, Option.map_some, Option.map_none, Option.bind_some, Option.bind_none, true_and, and_true, and_self, false_and, and_false, true_or, or_true, false_or, or_false, not_true_eq_false, not_false_eq_true, Bool.not_true, Bool.not_false, Bool.true_and, Bool.and_true, Bool.false_and, Bool.and_false, Bool.true_or, Bool.or_true, Bool.or_false, Bool.false_or, decide_true, decide_false, decide_eq_true_eq, decide_eq_false_iff_not, if_true, if_false, ite_true, ite_false, ↓reduceIte, Int.natCast_nonneg, Nat.reduceLT, Nat.reduceLeDiff, Nat.reduceEqDiff, Nat.reduceSub, Nat.reduceMul, Int.reduceLT, Int.reduceLE, Int.reduceEq, Int.reduceAdd, Int.reduceSub, Int.reduceMul, Int.reduceNeg, Int.reducePow, List.length_map, List.length_range, eq_self, ne_eq, Classical.not_not, Bool.not_eq_true, Bool.not_eq_false, Bool.false_eq_true, reduceCtorEq, Int.toNat_natCast, Nat.add_eq, Nat.reduceAdd, Int.cast_ofNat_Int, Int.reduceToNat, Int.zero_add, Int.add_zero, Nat.zero_add, Nat.add_zero, Nat.sub_zero, Int.sub_zero, Int.natCast_zero, Int.natCast_one, Int.natCast_add, Int.natCast_succ, beq_self_eq_true, Bool.decide_eq_true, Bool.decide_eq_false, ↓vf0, ↓vm0, rf0, rm0, ↓qf0, ↓qm0, ↓zf0, ↓zm0, ↓im0, ss0, ↓vf1, ↓vm1, rf1, rm1, ↓qf1, ↓qm1, ↓zf1, ↓zm1, ↓im1, ss1, ↓vf2, ↓vm2, rf2, rm2, ↓qf2, ↓qm2, ↓zf2, ↓zm2, ↓im2, ss2, ↓vf3, ↓vm3, rf3, rm3, ↓qf3, ↓qm3, ↓zf3, ↓zm3, ↓im3, ss3, ↓vf4, ↓vm4, rf4, rm4, ↓qf4, ↓qm4, ↓zf4, ↓zm4, ↓im4, ss4, ↓vf5, ↓vm5, rf5, rm5, ↓qf5, ↓qm5, ↓zf5, ↓zm5, ↓im5, ss5, ↓vf6, ↓vm6, rf6, rm6, ↓qf6, ↓qm6, ↓zf6, ↓zm6, ↓im6, ss6, ↓vf7, ↓vm7, rf7, rm7, ↓qf7, ↓qm7, ↓zf7, ↓zm7, ↓im7, ss7, ↓vf8, ↓vm8, rf8, rm8, ↓qf8, ↓qm8, ↓zf8, ↓zm8, ↓im8, ss8, ↓vf9, ↓vm9, rf9, rm9, ↓qf9, ↓qm9, ↓zf9, ↓zm9, ↓im9, ss9, S1f0_law_rota, S1f1_law_rota, S1f2_law_rota, S1f3_law_rota, S0_law_rota, S1_law_rota, S2_law_rota, U1f3_law_rota, U1f2_law_rota, U1f1_law_rota, U1f0_law_rota, U2_law_rota, U1_law_rota, U0_law_rota, bn]); (try simp only [T.bind_ret]); exact rfl) ?_); (try (with_reducible refine al_nx ?_))
    rw [rangeL_nl]
    (simp only [U1f3_law_rota, U1f2_law_rota, U1f1_law_rota, U1f0_law_rota, U2_law_rota, U1_law_rota, U0_law_rota, al_seq, nx_nx, lq_nx]; refine al_rd _ (by (simp -dsimp only [↓fBin_b, ↓fBlT_b, ↓fIf_b, ↓lCons_b, ↓fTup_b, ↓fCall_b, ↓sSeq_b, ↓sExpr_b, ↓sRet_b, ↓sSet_b, ↓iSeq_b, ↓iRange1_b, ↓sFor_b, ↓fNew_b, ↓fAppend_b, ↓nLc_b, ↓nListRange_b, ↓sParE_b, ↓fC_b, ↓lNil_b, ↓sNil_b, ↓fYes_b, ↓tgName_b, ↓tgNil_b, ↓tgCons_b, ↓tgTup_b, ↓lcRun_b, ↓frz_val, ↓lrs_val, ↓liftS_b, ↓liftN_b, ↓seqOf_t_b, ↓seqOf_l_b, ↓lstOf_l_b, ↓intOf_i_b, ↓blOf_b_b, ↓tru_n_b, ↓tru_b_b, ↓tru_i_b, ↓tru_t_b, ↓tru_l_b, ↓pLen_t_b, ↓pLen_l_b, ↓pLen_s_b, ↓pAdd_i_b, ↓pLt_i_b, ↓pGt_i_b, ↓atI_0_b, ↓atI_1_b, ↓atI_2_b, ↓atI_3_b, ↓lg0_b, ↓lg1_b, ↓lg2_b, ↓lg3_b, rs_val, outV_rt, outV_nx, backE_n, backE_u, wipeE_n, wipeE_u, froOf_f, froOf_u, seqOf_t, seqOf_l, lstOf_l, intOf_i, blOf_b, tru_n, tru_b, tru_i, tru_t, tru_l, pLen_t, pLen_l, pLen_s, pAdd_i, pLt_i, pGt_i, atI_0, atI_1, atI_2, atI_3, lg0, lg1, lg2, lg3, pIx_t, pIx_l, pAdd_t, pAdd_l, ↓keyOf1_ib, keyOf1_i, ↓T.bind_assoc, bind_ret', bind_bad', bind_exc', bind_draw', lift_some, lift_none', big, below62', below24', below64', below29', mul_ok, div_ok, mod_ok, ↓mArgs_bb, envB_self, tryT_ret, tryT_exc, tryT_draw, List.length_cons, List.length_nil, List.map_cons, List.map_nil, List.append_nil, List.nil_append, List.cons_append, List.replicate_succ, List.replicate_zero, List.isEmpty_nil, List.isEmpty_cons, Option.map_some, Option.map_none, Option.bind_some, Option.bind_none, true_and, and_true, and_self, false_and, and_false, true_or, or_true, false_or, or_false, not_true_eq_false, not_false_eq_true, Bool.not_true, Bool.not_false, Bool.true_and, Bool.and_true, Bool.false_and, Bool.and_false, Bool.true_or, Bool.or_true, Bool.or_false, Bool.false_or, decide_true, decide_false, decide_eq_true_eq, decide_eq_false_iff_not, if_true, if_false, ite_true, ite_false, ↓reduceIte, Int.natCast_nonneg, Nat.reduceLT, Nat.reduceLeDiff, Nat.reduceEqDiff, Nat.reduceSub, Nat.reduceMul, Int.reduceLT, Int.reduceLE, Int.reduceEq, Int.reduceAdd, Int.reduceSub, Int.reduceMul, Int.reduceNeg, Int.reducePow, List.length_map, List.length_range, eq_self, ne_eq, Classical.not_not, Bool.not_eq_true, Bool.not_eq_false, Bool.false_eq_true, reduceCtorEq, Int.toNat_natCast, Nat.add_eq, Nat.reduceAdd, Int.cast_ofNat_Int, Int.reduceToNat, Int.zero_add, Int.add_zero, Nat.zero_add, Nat.add_zero, Nat.sub_zero, Int.sub_zero, Int.natCast_zero, Int.natCast_one, Int.natCast_add, Int.natCast_succ, beq_self_eq_true, Bool.decide_eq_true, Bool.decide_eq_false, ↓vf0, ↓vm0, rf0, rm0, ↓qf0, ↓qm0, ↓zf0, ↓zm0, ↓im0, ss0, ↓vf1, ↓vm1, rf1, rm1, ↓qf1, ↓qm1, ↓zf1, ↓zm1, ↓im1, ss1, ↓vf2, ↓vm2, rf2, rm2, ↓qf2, ↓qm2, ↓zf2, ↓zm2, ↓im2, ss2, ↓vf3, ↓vm3, rf3, rm3, ↓qf3, ↓qm3, ↓zf3, ↓zm3, ↓im3, ss3, ↓vf4, ↓vm4, rf4, rm4, ↓qf4, ↓qm4, ↓zf4, ↓zm4, ↓im4, ss4, ↓vf5, ↓vm5, rf5, rm5, ↓qf5, ↓qm5, ↓zf5, ↓zm5, ↓im5, ss5, ↓vf6, ↓vm6, rf6, rm6, ↓qf6, ↓qm6, ↓zf6, ↓zm6, ↓im6, ss6, ↓vf7, ↓vm7, rf7, rm7, ↓qf7, ↓qm7, ↓zf7, ↓zm7, ↓im7, ss7, ↓vf8, ↓vm8, rf8, rm8, ↓qf8, ↓qm8, ↓zf8, ↓zm8, ↓im8, ss8, ↓vf9, ↓vm9, rf9, rm9, ↓qf9, ↓qm9, ↓zf9, ↓zm9, ↓im9, ss9, S1f0_law_rota, S1f1_law_rota, S1f2_law_rota, S1f3_law_rota, S0_law_rota, S1_law_rota, S2_law_rota, U1f3_law_rota, U1f2_law_rota, U1f1_law_rota, U1f0_law_rota, U2_law_rota, U1_law_rota, U0_law_rota]); (try simp only [T.bind_ret]); exact rfl) ?_); (try (with_reducible refine al_nx ?_))
    refine al_by (C0_law_rota_all (List.range n) (by rw [List.length_range]; omega) _ _ _ _ _ _ _) fun q hq => ?_
    obtain ⟨q1, q2⟩ := q
    obtain ⟨hq, sub, hq1, hs⟩ := hq
    subst hq
    subst hq1
    (try refine al_rd _ (by (simp -dsimp only [↓fBin_b, ↓fUn_b, ↓fTru_b, ↓fBlT_b, ↓fNotT_b, ↓fOrT_b, ↓fAnd_b, ↓fNot_b, ↓fIf_b, ↓lCons_b, ↓fTup_b, ↓fSl_b, ↓fCall_b, ↓sSeq_b, ↓sExpr_b, ↓sRet_b, ↓sIf_b, ↓sSet_b, ↓sAsg_b, ↓iSeq_b, ↓iRange1_b, ↓sFor_b, ↓fNew_b, ↓nLst_b, ↓nList_b, ↓fAppend_b, ↓fPopAt_b, ↓nLc_b, ↓nListRange_b, ↓sPar_b, ↓sParE_b, ↓sParN_b, ↓sFldSet_b, ↓fC_b, ↓lNil_b, ↓sNil_b, ↓fYes_b, ↓tgName_b, ↓tgNil_b, ↓tgCons_b, ↓tgTup_b, ↓lcRun_b, ↓fPart_n, ↓fPart_s, ↓frz_val, ↓lrs_val, ↓liftS_b, ↓liftN_b, ↓seqOf_t_b, ↓seqOf_l_b, ↓lstOf_l_b, ↓intOf_i_b, ↓blOf_b_b, ↓tru_n_b, ↓tru_b_b, ↓tru_i_b, ↓tru_t_b, ↓tru_l_b, ↓pLen_t_b, ↓pLen_l_b, ↓pLen_s_b, ↓pTuple_t_b, ↓pTuple_l_b, ↓pAdd_i_b, ↓pNeg_i_b, ↓pLt_i_b, ↓pGt_i_b, ↓pGe_i_b, ↓pMax2_i_b, ↓pMin2_i_b, ↓pIs_nn_b, ↓pIs_in_b, ↓pIs_tn_b, ↓pIs_ln_b, ↓pIs_bn_b, ↓pIs_bb_b, ↓pNotIs_nn_b, ↓pNotIs_in_b, ↓pNotIs_tn_b, ↓pNotIs_ln_b, ↓pNotIs_bn_b, ↓pNotIs_bb_b, ↓pCut_t_b, ↓pCut_l_b, ↓atI_0_b, ↓atI_1_b, ↓atI_2_b, ↓atI_3_b, ↓lg0_b, ↓lg1_b, ↓lg2_b, ↓lg3_b, ↓isi_bl_int_b, ↓isi_bl_bool_b, ↓isi_bl_tuple_b, ↓isi2_bl_b, ↓isi_int_int_b, ↓isi_int_bool_b, ↓isi_int_tuple_b, ↓isi2_int_b, ↓isi_str_int_b, ↓isi_str_bool_b, ↓isi_str_tuple_b, ↓isi2_str_b, ↓isi_tup_int_b, ↓isi_tup_bool_b, ↓isi_tup_tuple_b, ↓isi2_tup_b, ↓isi_lst_int_b, ↓isi_lst_bool_b, ↓isi_lst_tuple_b, ↓isi2_lst_b, rs_val, outV_rt, outV_nx, backE_n, backE_u, wipeE_n, wipeE_u, froOf_f, froOf_u, seqOf_t, seqOf_l, lstOf_l, intOf_i, blOf_b, tru_n, tru_b, tru_i, tru_t, tru_l, pLen_t, pLen_l, pLen_s, pTuple_t, pTuple_l, pAdd_i, pNeg_i, pLt_i, pGt_i, pGe_i, pMax2_i, pMin2_i, pIs_nn, pIs_in, pIs_tn, pIs_ln, pIs_bn, pIs_bb, pNotIs_nn, pNotIs_in, pNotIs_tn, pNotIs_ln, pNotIs_bn, pNotIs_bb, pCut_t, pCut_l, atI_0, atI_1, atI_2, atI_3, lg0, lg1, lg2, lg3, isi_bl_int, isi_bl_bool, isi_bl_tuple, isi2_bl, isi_int_int, isi_int_bool, isi_int_tuple, isi2_int, isi_str_int, isi_str_bool, isi_str_tuple, isi2_str, isi_tup_int, isi_tup_bool, isi_tup_tuple, isi2_tup, isi_lst_int, isi_lst_bool, isi_lst_tuple, isi2_lst, pIx_t, pIx_l, pAdd_t, pAdd_l, ↓keyOf1_ib, keyOf1_i, ↓T.bind_assoc, bind_ret', bind_bad', bind_exc', bind_draw', lift_some, lift_none', big, below62', below24', below64', below29', mul_ok, div_ok, mod_ok, ↓sRaise_b, ↓sTryB_b, mDrop_b, ↓mArgs_bb, mArgs_b, mIfX_b, mIfS_b, envB_self, tryT_ret, tryT_exc, tryT_draw, List.length_cons, List.length_nil, List.map_cons, List.map_nil, List.append_nil, List.nil_append, List.cons_append, List.replicate_succ, List.replicate_zero, List.isEmpty_nil, List.isEmpty_cons, Option.map_some, Option.map_none, Option.bind_some, Option.bind_none, true_and, and_true, and_self, false_and, and_false, true_or, or_true, false_or, or_false, not_true_eq_false, not_false_eq_true, Bool.not_true, Bool.not_false, Bool.true_and, Bool.and_true, Bool.false_and, Bool.and_false, Bool.true_or, Bool.or_true, Bool.or_false, Bool.false_or, decide_true, decide_false, decide_eq_true_eq, decide_eq_false_iff_not, if_true, if_false, ite_true, ite_false, ↓reduceIte, Int.natCast_nonneg, Nat.reduceLT, Nat.reduceLeDiff, Nat.reduceEqDiff, Nat.reduceSub, Nat.reduceMul, Int.reduceLT, Int.reduceLE, Int.reduceEq, Int.reduceAdd, Int.reduceSub, Int.reduceMul, Int.reduceNeg, Int.reducePow, List.length_map, List.length_range, eq_self, ne_eq, Classical.not_not, Bool.not_eq_true, Bool.not_eq_false, Bool.false_eq_true, reduceCtorEq, Int.toNat_natCast, Nat.add_eq, Nat.reduceAdd, Int.cast_ofNat_Int, Int.reduceToNat, Int.zero_add, Int.add_zero, Nat.zero_add, Nat.add_zero, Nat.sub_zero, Int.sub_zero, Int.natCast_zero, Int.natCast_one, Int.natCast_add, Int.natCast_succ, beq_self_eq_true, Bool.decide_eq_true, Bool.decide_eq_false, ↓vf0, ↓vm0, rf0, rm0, ↓qf0, ↓qm0, ↓zf0, ↓zm0, ↓im0, ss0, ↓imd0, ↓vf1, ↓vm1, rf1, rm1, ↓qf1, ↓qm1, ↓zf1, ↓zm1, ↓im1, ss1, ↓imd1, ↓vf2, ↓vm2, rf2, rm2, ↓qf2, ↓qm2, ↓zf2, ↓zm2, ↓im2, ss2, ↓imd2, ↓vf3, ↓vm3, rf3, rm3, ↓qf3, ↓qm3, ↓zf3, ↓zm3, ↓im3, ss3, ↓imd3, ↓vf4, ↓vm4, rf4, rm4, ↓qf4, ↓qm4, ↓zf4, ↓zm4, ↓im4, ss4, ↓imd4, ↓vf5, ↓vm5, rf5, rm5, ↓qf5, ↓qm5, ↓zf5, ↓zm5, ↓im5, ss5, ↓imd5, ↓vf6, ↓vm6, rf6, rm6, ↓qf6, ↓qm6, ↓zf6, ↓zm6, ↓im6, ss6, ↓imd6, ↓vf7, ↓vm7, rf7, rm7, ↓qf7, ↓qm7, ↓zf7, ↓zm7, ↓im7, ss7, ↓imd7, ↓vf8, ↓vm8, rf8, rm8, ↓qf8, ↓qm8, ↓zf8, ↓zm8, ↓im8, ss8, ↓imd8, ↓vf9, ↓vm9, rf9, rm9, ↓qf9, ↓qm9, ↓zf9, ↓zm9, ↓im9, ss9, ↓imd9, ↓vf10, ↓vm10, rf10, rm10, ↓qf10, ↓qm10, ↓zf10, ↓zm10, ↓im10, ss10, ↓imd10]); (try simp only [T.bind_ret]); exact rfl) ?_); (try (with_reducible refine al_nx ?_))
    simp only [U1f3_law_rota, U1f2_law_rota, U1f1_law_rota, U1f0_law_rota, U2_law_rota, U1_law_rota, U0_law_rota, al_seq, nx_nx, lq_nx]
    refine al_cut (fun ρ => ∃ mv : List Nat, ρ = [.fro .box, .fro (.int most), .fro (.int rws), .fro (.int n), .ml (rows.map rawV), .fro (.int (i : Int)), .fro (.lst (nl (List.range n))), .fro (.lst (nl sub)), .fro (.lst (nl mv)), .un] ∧ mv.Perm (List.range n)) ?_ ?_
    · (try refine al_rd _ (by (simp -dsimp only [↓fBin_b, ↓fUn_b, ↓fTru_b, ↓fBlT_b, ↓fNotT_b, ↓fOrT_b, ↓fAnd_b, ↓fNot_b, ↓fIf_b, ↓lCons_b, ↓fTup_b, ↓fSl_b, ↓fCall_b, ↓sSeq_b, ↓sExpr_b, ↓sRet_b, ↓sIf_b, ↓sSet_b, ↓sAsg_b, ↓iSeq_b, ↓iRange1_b, ↓sFor_b, ↓fNew_b, ↓nLst_b, ↓nList_b, ↓fAppend_b, ↓fPopAt_b, ↓nLc_b, ↓nListRange_b, ↓sPar_b, ↓sParE_b, ↓sParN_b, ↓sFldSet_b, ↓fC_b, ↓lNil_b, ↓sNil_b, ↓fYes_b, ↓tgName_b, ↓tgNil_b, ↓tgCons_b, ↓tgTup_b, ↓lcRun_b, ↓fPart_n, ↓fPart_s, ↓frz_val, ↓lrs_val, ↓liftS_b, ↓liftN_b, ↓seqOf_t_b, ↓seqOf_l_b, ↓lstOf_l_b, ↓intOf_i_b, ↓blOf_b_b, ↓tru_n_b, ↓tru_b_b, ↓tru_i_b, ↓tru_t_b, ↓tru_l_b, ↓pLen_t_b, ↓pLen_l_b, ↓pLen_s_b, ↓pTuple_t_b, ↓pTuple_l_b, ↓pAdd_i_b, ↓pNeg_i_b, ↓pLt_i_b, ↓pGt_i_b, ↓pGe_i_b, ↓pMax2_i_b, ↓pMin2_i_b, ↓pIs_nn_b, ↓pIs_in_b, ↓pIs_tn_b, ↓pIs_ln_b, ↓pIs_bn_b, ↓pIs_bb_b, ↓pNotIs_nn_b, ↓pNotIs_in_b, ↓pNotIs_tn_b, ↓pNotIs_ln_b, ↓pNotIs_bn_b, ↓pNotIs_bb_b, ↓pCut_t_b, ↓pCut_l_b, ↓atI_0_b, ↓atI_1_b, ↓atI_2_b, ↓atI_3_b, ↓lg0_b, ↓lg1_b, ↓lg2_b, ↓lg3_b, ↓isi_bl_int_b, ↓isi_bl_bool_b, ↓isi_bl_tuple_b, ↓isi2_bl_b, ↓isi_int_int_b, ↓isi_int_bool_b, ↓isi_int_tuple_b, ↓isi2_int_b, ↓isi_str_int_b, ↓isi_str_bool_b, ↓isi_str_tuple_b, ↓isi2_str_b, ↓isi_tup_int_b, ↓isi_tup_bool_b, ↓isi_tup_tuple_b, ↓isi2_tup_b, ↓isi_lst_int_b, ↓isi_lst_bool_b, ↓isi_lst_tuple_b, ↓isi2_lst_b, rs_val, outV_rt, outV_nx, backE_n, backE_u, wipeE_n, wipeE_u, froOf_f, froOf_u, seqOf_t, seqOf_l, lstOf_l, intOf_i, blOf_b, tru_n, tru_b, tru_i, tru_t, tru_l, pLen_t, pLen_l, pLen_s, pTuple_t, pTuple_l, pAdd_i, pNeg_i, pLt_i, pGt_i, pGe_i, pMax2_i, pMin2_i, pIs_nn, pIs_in, pIs_tn, pIs_ln, pIs_bn, pIs_bb, pNotIs_nn, pNotIs_in, pNotIs_tn, pNotIs_ln, pNotIs_bn, pNotIs_bb, pCut_t, pCut_l, atI_0, atI_1, atI_2, atI_3, lg0, lg1, lg2, lg3, isi_bl_int, isi_bl_bool, isi_bl_tuple, isi2_bl, isi_int_int, isi_int_bool, isi_int_tuple, isi2_int, isi_str_int, isi_str_bool, isi_str_tuple, isi2_str, isi_tup_int, isi_tup_bool, isi_tup_tuple, isi2_tup, isi_lst_int, isi_lst_bool, isi_lst_tuple, isi2_lst, pIx_t, pIx_l, pAdd_t, pAdd_l, ↓keyOf1_ib, keyOf1_i, ↓T.bind_assoc, bind_ret', bind_bad', bind_exc', bind_draw', lift_some, lift_none', big, below62', below24', below64', below29', mul_ok, div_ok, mod_ok, ↓sRaise_b, ↓sTryB_b, mDrop_b, ↓mArgs_bb, mArgs_b, mIfX_b, mIfS_b, envB_self, tryT_ret, tryT_exc, tryT_draw, List.length_cons, List.length_nil, List.map_cons, List.map_nil, List.append_nil, List.nil_append, List.cons_append, List.replicate_succ, List.replicate_zero, List.isEmpty_nil, List.isEmpty_cons, Option.map_some, Option.map_none, Option.bind_some, Option.bind_none, true_and, and_true, and_self, false_and, and_false, true_or, or_true, false_or, or_false, not_true_eq_false, not_false_eq_true, Bool.not_true, Bool.not_false, Bool.true_and, Bool.and_true, Bool.false_and, Bool.and_false, Bool.true_or, Bool.or_true, Bool.or_false, Bool.false_or, decide_true, decide_false, decide_eq_true_eq, decide_eq_false_iff_not, if_true, if_false, ite_true, ite_false, ↓reduceIte, Int.natCast_nonneg, Nat.reduceLT, Nat.reduceLeDiff, Nat.reduceEqDiff, Nat.reduceSub, Nat.reduceMul, Int.reduceLT, Int.reduceLE, Int.reduceEq, Int.reduceAdd, Int.reduceSub, Int.reduceMul, Int.reduceNeg, Int.reducePow, List.length_map, List.length_range, eq_self, ne_eq, Classical.not_not, Bool.not_eq_true, Bool.not_eq_false, Bool.false_eq_true, reduceCtorEq, Int.toNat_natCast, Nat.add_eq, Nat.reduceAdd, Int.cast_ofNat_Int, Int.reduceToNat, Int.zero_add, Int.add_zero, Nat.zero_add, Nat.add_zero, Nat.sub_zero, Int.sub_zero, Int.natCast_zero, Int.natCast_one, Int.natCast_add, Int.natCast_succ, beq_self_eq_true, Bool.decide_eq_true, Bool.decide_eq_false, ↓vf0, ↓vm0, rf0, rm0, ↓qf0, ↓qm0, ↓zf0, ↓zm0, ↓im0, ss0, ↓imd0, ↓vf1, ↓vm1, rf1, rm1, ↓qf1, ↓qm1, ↓zf1, ↓zm1, ↓im1, ss1, ↓imd1, ↓vf2, ↓vm2, rf2, rm2, ↓qf2, ↓qm2, ↓zf2, ↓zm2, ↓im2, ss2, ↓imd2, ↓vf3, ↓vm3, rf3, rm3, ↓qf3, ↓qm3, ↓zf3, ↓zm3, ↓im3, ss3, ↓imd3, ↓vf4, ↓vm4, rf4, rm4, ↓qf4, ↓qm4, ↓zf4, ↓zm4, ↓im4, ss4, ↓imd4, ↓vf5, ↓vm5, rf5, rm5, ↓qf5, ↓qm5, ↓zf5, ↓zm5, ↓im5, ss5, ↓imd5, ↓vf6, ↓vm6, rf6, rm6, ↓qf6, ↓qm6, ↓zf6, ↓zm6, ↓im6, ss6, ↓imd6, ↓vf7, ↓vm7, rf7, rm7, ↓qf7, ↓qm7, ↓zf7, ↓zm7, ↓im7, ss7, ↓imd7, ↓vf8, ↓vm8, rf8, rm8, ↓qf8, ↓qm8, ↓zf8, ↓zm8, ↓im8, ss8, ↓imd8, ↓vf9, ↓vm9, rf9, rm9, ↓qf9, ↓qm9, ↓zf9, ↓zm9, ↓im9, ss9, ↓imd9, ↓vf10, ↓vm10, rf10, rm10, ↓qf10, ↓qm10, ↓zf10, ↓zm10, ↓im10, ss10, ↓imd10, take_eq, S1f2_law_rota]); (try simp only [T.bind_ret]); exact rfl) ?_); (try (with_reducible refine al_nx ?_))
      refine al_dr fun r hr => ?_
      by_cases h : 0 < (r : Int)
      · (try refine al_rd _ (by (simp -dsimp only [↓fBin_b, ↓fUn_b, ↓fTru_b, ↓fBlT_b, ↓fNotT_b, ↓fOrT_b, ↓fAnd_b, ↓fNot_b, ↓fIf_b, ↓lCons_b, ↓fTup_b, ↓fSl_b, ↓fCall_b, ↓sSeq_b, ↓sExpr_b, ↓sRet_b, ↓sIf_b, ↓sSet_b, ↓sAsg_b, ↓iSeq_b, ↓iRange1_b, ↓sFor_b, ↓fNew_b, ↓nLst_b, ↓nList_b, ↓fAppend_b, ↓fPopAt_b, ↓nLc_b, ↓nListRange_b, ↓sPar_b, ↓sParE_b, ↓sParN_b, ↓sFldSet_b, ↓fC_b, ↓lNil_b, ↓sNil_b, ↓fYes_b, ↓tgName_b, ↓tgNil_b, ↓tgCons_b, ↓tgTup_b, ↓lcRun_b, ↓fPart_n, ↓fPart_s, ↓frz_val, ↓lrs_val, ↓liftS_b, ↓liftN_b, ↓seqOf_t_b, ↓seqOf_l_b, ↓lstOf_l_b, ↓intOf_i_b, ↓blOf_b_b, ↓tru_n_b, ↓tru_b_b, ↓tru_i_b, ↓tru_t_b, ↓tru_l_b, ↓pLen_t_b, ↓pLen_l_b, ↓pLen_s_b, ↓pTuple_t_b, ↓pTuple_l_b, ↓pAdd_i_b, ↓pNeg_i_b, ↓pLt_i_b, ↓pGt_i_b, ↓pGe_i_b, ↓pMax2_i_b, ↓pMin2_i_b, ↓pIs_nn_b, ↓pIs_in_b, ↓pIs_tn_b, ↓pIs_ln_b, ↓pIs_bn_b, ↓pIs_bb_b, ↓pNotIs_nn_b, ↓pNotIs_in_b, ↓pNotIs_tn_b, ↓pNotIs_ln_b, ↓pNotIs_bn_b, ↓pNotIs_bb_b, ↓pCut_t_b, ↓pCut_l_b, ↓atI_0_b, ↓atI_1_b, ↓atI_2_b, ↓atI_3_b, ↓lg0_b, ↓lg1_b, ↓lg2_b, ↓lg3_b, ↓isi_bl_int_b, ↓isi_bl_bool_b, ↓isi_bl_tuple_b, ↓isi2_bl_b, ↓isi_int_int_b, ↓isi_int_bool_b, ↓isi_int_tuple_b, ↓isi2_int_b, ↓isi_str_int_b, ↓isi_str_bool_b, ↓isi_str_tuple_b, ↓isi2_str_b, ↓isi_tup_int_b, ↓isi_tup_bool_b, ↓isi_tup_tuple_b, ↓isi2_tup_b, ↓isi_lst_int_b, ↓isi_lst_bool_b, ↓isi_lst_tuple_b, ↓isi2_lst_b, rs_val, outV_rt, outV_nx, backE_n, backE_u, wipeE_n, wipeE_u, froOf_f, froOf_u, seqOf_t, seqOf_l, lstOf_l, intOf_i, blOf_b, tru_n, tru_b, tru_i, tru_t, tru_l, pLen_t, pLen_l, pLen_s, pTuple_t, pTuple_l, pAdd_i, pNeg_i, pLt_i, pGt_i, pGe_i, pMax2_i, pMin2_i, pIs_nn, pIs_in, pIs_tn, pIs_ln, pIs_bn, pIs_bb, pNotIs_nn, pNotIs_in, pNotIs_tn, pNotIs_ln, pNotIs_bn, pNotIs_bb, pCut_t, pCut_l, atI_0, atI_1, atI_2, atI_3, lg0, lg1, lg2, lg3, isi_bl_int, isi_bl_bool, isi_bl_tuple, isi2_bl, isi_int_int, isi_int_bool, isi_int_tuple, isi2_int, isi_str_int, isi_str_bool, isi_str_tuple, isi2_str, isi_tup_int, isi_tup_bool, isi_tup_tuple, isi2_tup, isi_lst_int, isi_lst_bool, isi_lst_tuple, isi2_lst, pIx_t, pIx_l, pAdd_t, pAdd_l, ↓keyOf1_ib, keyOf1_i, ↓T.bind_assoc, bind_ret', bind_bad', bind_exc', bind_draw', lift_some, lift_none', big, below62', below24', below64', below29', mul_ok, div_ok, mod_ok, ↓sRaise_b, ↓sTryB_b, mDrop_b, ↓mArgs_bb, mArgs_b, mIfX_b, mIfS_b, envB_self, tryT_ret, tryT_exc, tryT_draw, List.length_cons, List.length_nil, List.map_cons, List.map_nil, List.append_nil, List.nil_append, List.cons_append, List.replicate_succ, List.replicate_zero, List.isEmpty_nil, List.isEmpty_cons, Option.map_some, Option.map_none, Option.bind_some, Option.bind_none, true_and, and_true, and_self, false_and, and_false, true_or, or_true, false_or, or_false, not_true_eq_false, not_false_eq_true, Bool.not_true, Bool.not_false, Bool.true_and, Bool.and_true, Bool.false_and, Bool.and_false, Bool.true_or, Bool.or_true, Bool.or_false, Bool.false_or, decide_true, decide_false, decide_eq_true_eq, decide_eq_false_iff_not, if_true, if_false, ite_true, ite_false, ↓reduceIte, Int.natCast_nonneg, Nat.reduceLT, Nat.reduceLeDiff, Nat.reduceEqDiff, Nat.reduceSub, Nat.reduceMul, Int.reduceLT, Int.reduceLE, Int.reduceEq, Int.reduceAdd, Int.reduceSub, Int.reduceMul, Int.reduceNeg, Int.reducePow, List.length_map, List.length_range, eq_self, ne_eq, Classical.not_not, Bool.not_eq_true, Bool.not_eq_false, Bool.false_eq_true, reduceCtorEq, Int.toNat_natCast, Nat.add_eq, Nat.reduceAdd, Int.cast_ofNat_Int, Int.reduceToNat, Int.zero_add, Int.add_zero, Nat.zero_add, Nat.add_zero, Nat.sub_zero, Int.sub_zero, Int.natCast_zero, Int.natCast_one, Int.natCast_add, Int.natCast_succ, beq_self_eq_true, Bool.decide_eq_true, Bool.decide_eq_false, ↓vf0, ↓vm0, rf0, rm0, ↓qf0, ↓qm0, ↓zf0, ↓zm0, ↓im0, ss0, ↓imd0, ↓vf1, ↓vm1, rf1, rm1, ↓qf1, ↓qm1, ↓zf1, ↓zm1, ↓im1, ss1, ↓imd1, ↓vf2, ↓vm2, rf2, rm2, ↓qf2, ↓qm2, ↓zf2, ↓zm2, ↓im2, ss2, ↓imd2, ↓vf3, ↓vm3, rf3, rm3, ↓qf3, ↓qm3, ↓zf3, ↓zm3, ↓im3, ss3, ↓imd3, ↓vf4, ↓vm4, rf4, rm4, ↓qf4, ↓qm4, ↓zf4, ↓zm4, ↓im4, ss4, ↓imd4, ↓vf5, ↓vm5, rf5, rm5, ↓qf5, ↓qm5, ↓zf5, ↓zm5, ↓im5, ss5, ↓imd5, ↓vf6, ↓vm6, rf6, rm6, ↓qf6, ↓qm6, ↓zf6, ↓zm6, ↓im6, ss6, ↓imd6, ↓vf7, ↓vm7, rf7, rm7, ↓qf7, ↓qm7, ↓zf7, ↓zm7, ↓im7, ss7, ↓imd7, ↓vf8, ↓vm8, rf8, rm8, ↓qf8, ↓qm8, ↓zf8, ↓zm8, ↓im8, ss8, ↓imd8, ↓vf9, ↓vm9, rf9, rm9, ↓qf9, ↓qm9, ↓zf9, ↓zm9, ↓im9, ss9, ↓imd9, ↓vf10, ↓vm10, rf10, rm10, ↓qf10, ↓qm10, ↓zf10, ↓zm10, ↓im10, ss10, ↓imd10, h]); (try simp only [T.bind_ret]); exact rfl) ?_); (try (with_reducible refine al_nx ?_))
        refine al_by (law_mixed_all (nl (List.range n)) (by rw [nl_len, List.length_range]; omega)) fun t ht => ?_
        obtain ⟨ys, rfl, hy⟩ := ht
        obtain ⟨mv, rfl, hmv⟩ := perm_map hy _ rfl
        (try refine al_rd _ (by (simp -dsimp only [↓fBin_b, ↓fUn_b, ↓fTru_b, ↓fBlT_b, ↓fNotT_b, ↓fOrT_b, ↓fAnd_b, ↓fNot_b, ↓fIf_b, ↓lCons_b, ↓fTup_b, ↓fSl_b, ↓fCall_b, ↓sSeq_b, ↓sExpr_b, ↓sRet_b, ↓sIf_b, ↓sSet_b, ↓sAsg_b, ↓iSeq_b, ↓iRange1_b, ↓sFor_b, ↓fNew_b, ↓nLst_b, ↓nList_b, ↓fAppend_b, ↓fPopAt_b, ↓nLc_b, ↓nListRange_b, ↓sPar_b, ↓sParE_b, ↓sParN_b, ↓sFldSet_b, ↓fC_b, ↓lNil_b, ↓sNil_b, ↓fYes_b, ↓tgName_b, ↓tgNil_b, ↓tgCons_b, ↓tgTup_b, ↓lcRun_b, ↓fPart_n, ↓fPart_s, ↓frz_val, ↓lrs_val, ↓liftS_b, ↓liftN_b, ↓seqOf_t_b, ↓seqOf_l_b, ↓lstOf_l_b, ↓intOf_i_b, ↓blOf_b_b, ↓tru_n_b, ↓tru_b_b, ↓tru_i_b, ↓tru_t_b, ↓tru_l_b, ↓pLen_t_b, ↓pLen_l_b, ↓pLen_s_b, ↓pTuple_t_b, ↓pTuple_l_b, ↓pAdd_i_b, ↓pNeg_i_b, ↓pLt_i_b, ↓pGt_i_b, ↓pGe_i_b, ↓pMax2_i_b, ↓pMin2_i_b, ↓pIs_nn_b, ↓pIs_in_b, ↓pIs_tn_b, ↓pIs_ln_b, ↓pIs_bn_b, ↓pIs_bb_b, ↓pNotIs_nn_b, ↓pNotIs_in_b, ↓pNotIs_tn_b, ↓pNotIs_ln_b, ↓pNotIs_bn_b, ↓pNotIs_bb_b, ↓pCut_t_b, ↓pCut_l_b, ↓atI_0_b, ↓atI_1_b, ↓atI_2_b, ↓atI_3_b, ↓lg0_b, ↓lg1_b, ↓lg2_b, ↓lg3_b, ↓isi_bl_int_b, ↓isi_bl_bool_b, ↓isi_bl_tuple_b, ↓isi2_bl_b, ↓isi_int_int_b, ↓isi_int_bool_b, ↓isi_int_tuple_b, ↓isi2_int_b, ↓isi_str_int_b, ↓isi_str_bool_b, ↓isi_str_tuple_b, ↓isi2_str_b, ↓isi_tup_int_b, ↓isi_tup_bool_b, ↓isi_tup_tuple_b, ↓isi2_tup_b, ↓isi_lst_int_b, ↓isi_lst_bool_b, ↓isi_lst_tuple_b, ↓isi2_lst_b, rs_val, outV_rt, outV_nx, backE_n, backE_u, wipeE_n, wipeE_u, froOf_f, froOf_u, seqOf_t, seqOf_l, lstOf_l, intOf_i, blOf_b, tru_n, tru_b, tru_i, tru_t, tru_l, pLen_t, pLen_l, pLen_s, pTuple_t, pTuple_l, pAdd_i, pNeg_i, pLt_i, pGt_i, pGe_i, pMax2_i, pMin2_i, pIs_nn, pIs_in, pIs_tn, pIs_ln, pIs_bn, pIs_bb, pNotIs_nn, pNotIs_in, pNotIs_tn, pNotIs_ln, pNotIs_bn, pNotIs_bb, pCut_t, pCut_l, atI_0, atI_1, atI_2, atI_3, lg0, lg1, lg2, lg3, isi_bl_int, isi_bl_bool, isi_bl_tuple, isi2_bl, isi_int_int, isi_int_bool, isi_int_tuple, isi2_int, isi_str_int, isi_str_bool, isi_str_tuple, isi2_str, isi_tup_int, isi_tup_bool, isi_tup_tuple, isi2_tup, isi_lst_int, isi_lst_bool, isi_lst_tuple, isi2_lst, pIx_t, pIx_l, pAdd_t, pAdd_l, ↓keyOf1_ib, keyOf1_i, ↓T.bind_assoc, bind_ret', bind_bad', bind_exc', bind_draw', lift_some, lift_none', big, below62', below24', below64', below29', mul_ok, div_ok, mod_ok, ↓sRaise_b, ↓sTryB_b, mDrop_b, ↓mArgs_bb, mArgs_b, mIfX_b, mIfS_b, envB_self, tryT_ret, tryT_exc, tryT_draw, List.length_cons, List.length_nil, List.map_cons, List.map_nil, List.append_nil, List.nil_append, List.cons_append, List.replicate_succ, List.replicate_zero, List.isEmpty_nil, List.isEmpty_cons, Option.map_some, Option.map_none, Option.bind_some, Option.bind_none, true_and, and_true, and_self, false_and, and_false, true_or, or_true, false_or, or_false, not_true_eq_false, not_false_eq_true, Bool.not_true, Bool.not_false, Bool.true_and, Bool.and_true, Bool.false_and, Bool.and_false, Bool.true_or, Bool.or_true, Bool.or_false, Bool.false_or, decide_true, decide_false, decide_eq_true_eq, decide_eq_false_iff_not, if_true, if_false, ite_true, ite_false, ↓reduceIte, Int.natCast_nonneg, Nat.reduceLT, Nat.reduceLeDiff, Nat.reduceEqDiff, Nat.reduceSub, Nat.reduceMul, Int.reduceLT, Int.reduceLE, Int.reduceEq, Int.reduceAdd, Int.reduceSub, Int.reduceMul, Int.reduceNeg, Int.reducePow, List.length_map, List.length_range, eq_self, ne_eq, Classical.not_not, Bool.not_eq_true, Bool.not_eq_false, Bool.false_eq_true, reduceCtorEq, Int.toNat_natCast, Nat.add_eq, Nat.reduceAdd, Int.cast_ofNat_Int, Int.reduceToNat, Int.zero_add, Int.add_zero, Nat.zero_add, Nat.add_zero, Nat.sub_zero, Int.sub_zero, Int.natCast_zero, Int.natCast_one, Int.natCast_add, Int.natCast_succ, beq_self_eq_true, Bool.decide_eq_true, Bool.decide_eq_false, ↓vf0, ↓vm0, rf0, rm0, ↓qf0, ↓qm0, ↓zf0, ↓zm0, ↓im0, ss0, ↓imd0, ↓vf1, ↓vm1, rf1, rm1, ↓qf1, ↓qm1, ↓zf1, ↓zm1, ↓im1, ss1, ↓imd1, ↓vf2, ↓vm2, rf2, rm2, ↓qf2, ↓qm2, ↓zf2, ↓zm2, ↓im2, ss2, ↓imd2, ↓vf3, ↓vm3, rf3, rm3, ↓qf3, ↓qm3, ↓zf3, ↓zm3, ↓im3, ss3, ↓imd3, ↓vf4, ↓vm4, rf4, rm4, ↓qf4, ↓qm4, ↓zf4, ↓zm4, ↓im4, ss4, ↓imd4, ↓vf5, ↓vm5, rf5, rm5, ↓qf5, ↓qm5, ↓zf5, ↓zm5, ↓im5, ss5, ↓imd5, ↓vf6, ↓vm6, rf6, rm6, ↓qf6, ↓qm6, ↓zf6, ↓zm6, ↓im6, ss6, ↓imd6, ↓vf7, ↓vm7, rf7, rm7, ↓qf7, ↓qm7, ↓zf7, ↓zm7, ↓im7, ss7, ↓imd7, ↓vf8, ↓vm8, rf8, rm8, ↓qf8, ↓qm8, ↓zf8, ↓zm8, ↓im8, ss8, ↓imd8, ↓vf9, ↓vm9, rf9, rm9, ↓qf9, ↓qm9, ↓zf9, ↓zm9, ↓im9, ss9, ↓imd9, ↓vf10, ↓vm10, rf10, rm10, ↓qf10, ↓qm10, ↓zf10, ↓zm10, ↓im10, ss10, ↓imd10]); (try simp only [T.bind_ret]); exact rfl) ?_); (try (with_reducible refine al_nx ?_))
        exact ⟨mv, rfl, hmv⟩
      · (try refine al_rd _ (by (simp -dsimp only [↓fBin_b, ↓fUn_b, ↓fTru_b, ↓fBlT_b, ↓fNotT_b, ↓fOrT_b, ↓fAnd_b, ↓fNot_b, ↓fIf_b, ↓lCons_b, ↓fTup_b, ↓fSl_b, ↓fCall_b, ↓sSeq_b, ↓sExpr_b, ↓sRet_b, ↓sIf_b, ↓sSet_b, ↓sAsg_b, ↓iSeq_b, ↓iRange1_b, ↓sFor_b, ↓fNew_b, ↓nLst_b, ↓nList_b, ↓fAppend_b, ↓fPopAt_b, ↓nLc_b, ↓nListRange_b, ↓sPar_b, ↓sParE_b, ↓sParN_b, ↓sFldSet_b, ↓fC_b, ↓lNil_b, ↓sNil_b, ↓fYes_b, ↓tgName_b, ↓tgNil_b, ↓tgCons_b, ↓tgTup_b, ↓lcRun_b, ↓fPart_n, ↓fPart_s, ↓frz_val, ↓lrs_val, ↓liftS_b, ↓liftN_b, ↓seqOf_t_b, ↓seqOf_l_b, ↓lstOf_l_b, ↓intOf_i_b, ↓blOf_b_b, ↓tru_n_b, ↓tru_b_b, ↓tru_i_b, ↓tru_t_b, ↓tru_l_b, ↓pLen_t_b, ↓pLen_l_b, ↓pLen_s_b, ↓pTuple_t_b, ↓pTuple_l_b, ↓pAdd_i_b, ↓pNeg_i_b, ↓pLt_i_b, ↓pGt_i_b, ↓pGe_i_b, ↓pMax2_i_b, ↓pMin2_i_b, ↓pIs_nn_b, ↓pIs_in_b, ↓pIs_tn_b, ↓pIs_ln_b, ↓pIs_bn_b, ↓pIs_bb_b, ↓pNotIs_nn_b, ↓pNotIs_in_b, ↓pNotIs_tn_b, ↓pNotIs_ln_b, ↓pNotIs_bn_b, ↓pNotIs_bb_b, ↓pCut_t_b, ↓pCut_l_b, ↓atI_0_b, ↓atI_1_b, ↓atI_2_b, ↓atI_3_b, ↓lg0_b, ↓lg1_b, ↓lg2_b, ↓lg3_b, ↓isi_bl_int_b, ↓isi_bl_bool_b, ↓isi_bl_tuple_b, ↓isi2_bl_b, ↓isi_int_int_b, ↓isi_int_bool_b, ↓isi_int_tuple_b, ↓isi2_int_b, ↓isi_str_int_b, ↓isi_str_bool_b, ↓isi_str_tuple_b, ↓isi2_str_b, ↓isi_tup_int_b, ↓isi_tup_bool_b, ↓isi_tup_tuple_b, ↓isi2_tup_b, ↓isi_lst_int_b, ↓isi_lst_bool_b, ↓isi_lst_tuple_b, ↓isi2_lst_b, rs_val, outV_rt, outV_nx, backE_n, backE_u, wipeE_n, wipeE_u, froOf_f, froOf_u, seqOf_t, seqOf_l, lstOf_l, intOf_i, blOf_b, tru_n, tru_b, tru_i, tru_t, tru_l, pLen_t, pLen_l, pLen_s, pTuple_t, pTuple_l, pAdd_i, pNeg_i, pLt_i, pGt_i, pGe_i, pMax2_i, pMin2_i, pIs_nn, pIs_in, pIs_tn, pIs_ln, pIs_bn, pIs_bb, pNotIs_nn, pNotIs_in, pNotIs_tn, pNotIs_ln, pNotIs_bn, pNotIs_bb, pCut_t, pCut_l, atI_0, atI_1, atI_2, atI_3, lg0, lg1, lg2, lg3, isi_bl_int, isi_bl_bool, isi_bl_tuple, isi2_bl, isi_int_int, isi_int_bool, isi_int_tuple, isi2_int, isi_str_int, isi_str_bool, isi_str_tuple, isi2_str, isi_tup_int, isi_tup_bool, isi_tup_tuple, isi2_tup, isi_lst_int, isi_lst_bool, isi_lst_tuple, isi2_lst, pIx_t, pIx_l, pAdd_t, pAdd_l, ↓keyOf1_ib, keyOf1_i, ↓T.bind_assoc, bind_ret', bind_bad', bind_exc', bind_draw', lift_some, lift_none', big, below62', below24', below64', below29', mul_ok, div_ok, mod_ok, ↓sRaise_b, ↓sTryB_b, mDrop_b, ↓mArgs_bb, mArgs_b, mIfX_b, mIfS_b, envB_self, tryT_ret, tryT_exc, tryT_draw, List.length_cons, List.length_nil, List.map_cons, List.map_nil, List.append_nil, List.nil_append, List.cons_append, List.replicate_succ, List.replicate_zero, List.isEmpty_nil, List.isEmpty_cons, Option.map_some, Option.map_none, Option.bind_some, Option.bind_none, true_and, and_true, and_self, false_and, and_false, true_or, or_true, false_or, or_false, not_true_eq_false, not_false_eq_true, Bool.not_true, Bool.not_false, Bool.true_and, Bool.and_true, Bool.false_and, Bool.and_false, Bool.true_or, Bool.or_true, Bool.or_false, Bool.false_or, decide_true, decide_false, decide_eq_true_eq, decide_eq_false_iff_not, if_true, if_false, ite_true, ite_false, ↓reduceIte, Int.natCast_nonneg, Nat.reduceLT, Nat.reduceLeDiff, Nat.reduceEqDiff, Nat.reduceSub, Nat.reduceMul, Int.reduceLT, Int.reduceLE, Int.reduceEq, Int.reduceAdd, Int.reduceSub, Int.reduceMul, Int.reduceNeg, Int.reducePow, List.length_map, List.length_range, eq_self, ne_eq, Classical.not_not, Bool.not_eq_true, Bool.not_eq_false, Bool.false_eq_true, reduceCtorEq, Int.toNat_natCast, Nat.add_eq, Nat.reduceAdd, Int.cast_ofNat_Int, Int.reduceToNat, Int.zero_add, Int.add_zero, Nat.zero_add, Nat.add_zero, Nat.sub_zero, Int.sub_zero, Int.natCast_zero, Int.natCast_one, Int.natCast_add, Int.natCast_succ, beq_self_eq_true, Bool.decide_eq_true, Bool.decide_eq_false, ↓vf0, ↓vm0, rf0, rm0, ↓qf0, ↓qm0, ↓zf0, ↓zm0, ↓im0, ss0, ↓imd0, ↓vf1, ↓vm1, rf1, rm1, ↓qf1, ↓qm1, ↓zf1, ↓zm1, ↓im1, ss1, ↓imd1, ↓vf2, ↓vm2, rf2, rm2, ↓qf2, ↓qm2, ↓zf2, ↓zm2, ↓im2, ss2, ↓imd2, ↓vf3, ↓vm3, rf3, rm3, ↓qf3, ↓qm3, ↓zf3, ↓zm3, ↓im3, ss3, ↓imd3, ↓vf4, ↓vm4, rf4, rm4, ↓qf4, ↓qm4, ↓zf4, ↓zm4, ↓im4, ss4, ↓imd4, ↓vf5, ↓vm5, rf5, rm5, ↓qf5, ↓qm5, ↓zf5, ↓zm5, ↓im5, ss5, ↓imd5, ↓vf6, ↓vm6, rf6, rm6, ↓qf6, ↓qm6, ↓zf6, ↓zm6, ↓im6, ss6, ↓imd6, ↓vf7, ↓vm7, rf7, rm7, ↓qf7, ↓qm7, ↓zf7, ↓zm7, ↓im7, ss7, ↓imd7, ↓vf8, ↓vm8, rf8, rm8, ↓qf8, ↓qm8, ↓zf8, ↓zm8, ↓im8, ss8, ↓imd8, ↓vf9, ↓vm9, rf9, rm9, ↓qf9, ↓qm9, ↓zf9, ↓zm9, ↓im9, ss9, ↓imd9, ↓vf10, ↓vm10, rf10, rm10, ↓qf10, ↓qm10, ↓zf10, ↓zm10, ↓im10, ss10, ↓imd10, h]); (try simp only [T.bind_ret]); exact rfl) ?_); (try (with_reducible refine al_nx ?_))
        exact ⟨List.range n, rfl, List.Perm.refl _⟩
    · intro ρ hρ
      obtain ⟨mv, rfl, hmv⟩ := hρ
      (simp only [U1f3_law_rota, U1f2_law_rota, U1f1_law_rota, U1f0_law_rota, U2_law_rota, U1_law_rota, U0_law_rota, al_seq, nx_nx, lq_nx]; refine al_rd _ (by (simp -dsimp only [↓fBin_b, ↓fBlT_b, ↓fIf_b, ↓lCons_b, ↓fTup_b, ↓fCall_b, ↓sSeq_b, ↓sExpr_b, ↓sRet_b, ↓sSet_b, ↓iSeq_b, ↓iRange1_b, ↓sFor_b, ↓fNew_b, ↓fAppend_b, ↓nLc_b, ↓nListRange_b, ↓sParE_b, ↓fC_b, ↓lNil_b, ↓sNil_b, ↓fYes_b, ↓tgName_b, ↓tgNil_b, ↓tgCons_b, ↓tgTup_b, ↓lcRun_b, ↓frz_val, ↓lrs_val, ↓liftS_b, ↓liftN_b, ↓seqOf_t_b, ↓seqOf_l_b, ↓lstOf_l_b, ↓intOf_i_b, ↓blOf_b_b, ↓tru_n_b, ↓tru_b_b, ↓tru_i_b, ↓tru_t_b, ↓tru_l_b, ↓pLen_t_b, ↓pLen_l_b, ↓pLen_s_b, ↓pAdd_i_b, ↓pLt_i_b, ↓pGt_i_b, ↓atI_0_b, ↓atI_1_b, ↓atI_2_b, ↓atI_3_b, ↓lg0_b, ↓lg1_b, ↓lg2_b, ↓lg3_b, rs_val, outV_rt, outV_nx, backE_n, backE_u, wipeE_n, wipeE_u, froOf_f, froOf_u, seqOf_t, seqOf_l, lstOf_l, intOf_i, blOf_b, tru_n, tru_b, tru_i, tru_t, tru_l, pLen_t, pLen_l, pLen_s, pAdd_i, pLt_i, pGt_i, atI_0, atI_1, atI_2, atI_3, lg0, lg1, lg2, lg3, pIx_t, pIx_l, pAdd_t, pAdd_l, ↓keyOf1_ib, keyOf1_i, ↓T.bind_assoc, bind_ret', bind_bad', bind_exc', bind_draw', lift_some, lift_none', big, below62', below24', below64', below29', mul_ok, div_ok, mod_ok, ↓mArgs_bb, envB_self, tryT_ret, tryT_exc, tryT_draw, List.length_cons, List.length_nil, List.map_cons, List.map_nil, List.append_nil, List.nil_append, List.cons_append, List.replicate_succ, List.replicate_zero, List.isEmpty_nil, List.isEmpty_cons, Option.map_some, Option.map_none, Option.bind_some, Option.bind_none, true_and, and_true, and_self, false_and, and_false, true_or, or_true, false_or, or_false, not_true_eq_false, not_false_eq_true, Bool.not_true, Bool.not_false, Bool.true_and, Bool.and_true, Bool.false_and, Bool.and_false, Bool.true_or, Bool.or_true, Bool.or_false, Bool.false_or, decide_true, decide_false, decide_eq_true_eq, decide_eq_false_iff_not, if_true, if_false, ite_true, ite_false, ↓reduceIte, Int.natCast_nonneg, Nat.reduceLT, Nat.reduceLeDiff, Nat.reduceEqDiff, Nat.reduceSub, Nat.reduceMul, Int.reduceLT, Int.reduceLE, Int.reduceEq, Int.reduceAdd, Int.reduceSub, Int.reduceMul, Int.reduceNeg, Int.reducePow, List.length_map, List.length_range, eq_self, ne_eq, Classical.not_not, Bool.not_eq_true, Bool.not_eq_false, Bool.false_eq_true, reduceCtorEq, Int.toNat_natCast, Nat.add_eq, Nat.reduceAdd, Int.cast_ofNat_Int, Int.reduceToNat, Int.zero_add, Int.add_zero, Nat.zero_add, Nat.add_zero, Nat.sub_zero, Int.sub_zero, Int.natCast_zero, Int.natCast_one, Int.natCast_add, Int.natCast_succ, beq_self_eq_true, Bool.decide_eq_true, Bool.decide_eq_false, ↓vf0, ↓vm0, rf0, rm0, ↓qf0, ↓qm0, ↓zf0, ↓zm0, ↓im0, ss0, ↓vf1, ↓vm1, rf1, rm1, ↓qf1, ↓qm1, ↓zf1, ↓zm1, ↓im1, ss1, ↓vf2, ↓vm2, rf2, rm2, ↓qf2, ↓qm2, ↓zf2, ↓zm2, ↓im2, ss2, ↓vf3, ↓vm3, rf3, rm3, ↓qf3, ↓qm3, ↓zf3, ↓zm3, ↓im3, ss3, ↓vf4, ↓vm4, rf4, rm4, ↓qf4, ↓qm4, ↓zf4, ↓zm4, ↓im4, ss4, ↓vf5, ↓vm5, rf5, rm5, ↓qf5, ↓qm5, ↓zf5, ↓zm5, ↓im5, ss5, ↓vf6, ↓vm6, rf6, rm6, ↓qf6, ↓qm6, ↓zf6, ↓zm6, ↓im6, ss6, ↓vf7, ↓vm7, rf7, rm7, ↓qf7, ↓qm7, ↓zf7, ↓zm7, ↓im7, ss7, ↓vf8, ↓vm8, rf8, rm8, ↓qf8, ↓qm8, ↓zf8, ↓zm8, ↓im8, ss8, ↓vf9, ↓vm9, rf9, rm9, ↓qf9, ↓qm9, ↓zf9, ↓zm9, ↓im9, ss9, S1f0_law_rota, S1f1_law_rota, S1f2_law_rota, S1f3_law_rota, S0_law_rota, S1_law_rota, S2_law_rota, U1f3_law_rota, U1f2_law_rota, U1f1_law_rota, U1f0_law_rota, U2_law_rota, U1_law_rota, U0_law_rota]); (try simp only [T.bind_ret]); exact rfl) ?_); (try (with_reducible refine al_nx ?_))
      have hsl : sub.length ≤ n := by
        have := hs.length_le
        rwa [List.length_range] at this
      refine al_by (law_mixed_all (nl sub) (by rw [nl_len]; omega)) fun t ht => ?_
      obtain ⟨ys, rfl, hy⟩ := ht
      obtain ⟨tn, rfl, htn⟩ := perm_map hy _ rfl
      have hl6 : rows.length < 1000000 := by omega
      (try refine al_rd _ (by (simp -dsimp only [↓fBin_b, ↓fUn_b, ↓fTru_b, ↓fBlT_b, ↓fNotT_b, ↓fOrT_b, ↓fAnd_b, ↓fNot_b, ↓fIf_b, ↓lCons_b, ↓fTup_b, ↓fSl_b, ↓fCall_b, ↓sSeq_b, ↓sExpr_b, ↓sRet_b, ↓sIf_b, ↓sSet_b, ↓sAsg_b, ↓iSeq_b, ↓iRange1_b, ↓sFor_b, ↓fNew_b, ↓nLst_b, ↓nList_b, ↓fAppend_b, ↓fPopAt_b, ↓nLc_b, ↓nListRange_b, ↓sPar_b, ↓sParE_b, ↓sParN_b, ↓sFldSet_b, ↓fC_b, ↓lNil_b, ↓sNil_b, ↓fYes_b, ↓tgName_b, ↓tgNil_b, ↓tgCons_b, ↓tgTup_b, ↓lcRun_b, ↓fPart_n, ↓fPart_s, ↓frz_val, ↓lrs_val, ↓liftS_b, ↓liftN_b, ↓seqOf_t_b, ↓seqOf_l_b, ↓lstOf_l_b, ↓intOf_i_b, ↓blOf_b_b, ↓tru_n_b, ↓tru_b_b, ↓tru_i_b, ↓tru_t_b, ↓tru_l_b, ↓pLen_t_b, ↓pLen_l_b, ↓pLen_s_b, ↓pTuple_t_b, ↓pTuple_l_b, ↓pAdd_i_b, ↓pNeg_i_b, ↓pLt_i_b, ↓pGt_i_b, ↓pGe_i_b, ↓pMax2_i_b, ↓pMin2_i_b, ↓pIs_nn_b, ↓pIs_in_b, ↓pIs_tn_b, ↓pIs_ln_b, ↓pIs_bn_b, ↓pIs_bb_b, ↓pNotIs_nn_b, ↓pNotIs_in_b, ↓pNotIs_tn_b, ↓pNotIs_ln_b, ↓pNotIs_bn_b, ↓pNotIs_bb_b, ↓pCut_t_b, ↓pCut_l_b, ↓atI_0_b, ↓atI_1_b, ↓atI_2_b, ↓atI_3_b, ↓lg0_b, ↓lg1_b, ↓lg2_b, ↓lg3_b, ↓isi_bl_int_b, ↓isi_bl_bool_b, ↓isi_bl_tuple_b, ↓isi2_bl_b, ↓isi_int_int_b, ↓isi_int_bool_b, ↓isi_int_tuple_b, ↓isi2_int_b, ↓isi_str_int_b, ↓isi_str_bool_b, ↓isi_str_tuple_b, ↓isi2_str_b, ↓isi_tup_int_b, ↓isi_tup_bool_b, ↓isi_tup_tuple_b, ↓isi2_tup_b, ↓isi_lst_int_b, ↓isi_lst_bool_b, ↓isi_lst_tuple_b, ↓isi2_lst_b, rs_val, outV_rt, outV_nx, backE_n, backE_u, wipeE_n, wipeE_u, froOf_f, froOf_u, seqOf_t, seqOf_l, lstOf_l, intOf_i, blOf_b, tru_n, tru_b, tru_i, tru_t, tru_l, pLen_t, pLen_l, pLen_s, pTuple_t, pTuple_l, pAdd_i, pNeg_i, pLt_i, pGt_i, pGe_i, pMax2_i, pMin2_i, pIs_nn, pIs_in, pIs_tn, pIs_ln, pIs_bn, pIs_bb, pNotIs_nn, pNotIs_in, pNotIs_tn, pNotIs_ln, pNotIs_bn, pNotIs_bb, pCut_t, pCut_l, atI_0, atI_1, atI_2, atI_3, lg0, lg1, lg2, lg3, isi_bl_int, isi_bl_bool, isi_bl_tuple, isi2_bl, isi_int_int, isi_int_bool, isi_int_tuple, isi2_int, isi_str_int, isi_str_bool, isi_str_tuple, isi2_str, isi_tup_int, isi_tup_bool, isi_tup_tuple, isi2_tup, isi_lst_int, isi_lst_bool, isi_lst_tuple, isi2_lst, pIx_t, pIx_l, pAdd_t, pAdd_l, ↓keyOf1_ib, keyOf1_i, ↓T.bind_assoc, bind_ret', bind_bad', bind_exc', bind_draw', lift_some, lift_none', big, below62', below24', below64', below29', mul_ok, div_ok, mod_ok, ↓sRaise_b, ↓sTryB_b, mDrop_b, ↓mArgs_bb, mArgs_b, mIfX_b, mIfS_b, envB_self, tryT_ret, tryT_exc, tryT_draw, List.length_cons, List.length_nil, List.map_cons, List.map_nil, List.append_nil, List.nil_append, List.cons_append, List.replicate_succ, List.replicate_zero, List.isEmpty_nil, List.isEmpty_cons, Option.map_some, Option.map_none, Option.bind_some, Option.bind_none, true_and, and_true, and_self, false_and, and_false, true_or, or_true, false_or, or_false, not_true_eq_false, not_false_eq_true, Bool.not_true, Bool.not_false, Bool.true_and, Bool.and_true, Bool.false_and, Bool.and_false, Bool.true_or, Bool.or_true, Bool.or_false, Bool.false_or, decide_true, decide_false, decide_eq_true_eq, decide_eq_false_iff_not, if_true, if_false, ite_true, ite_false, ↓reduceIte, Int.natCast_nonneg, Nat.reduceLT, Nat.reduceLeDiff, Nat.reduceEqDiff, Nat.reduceSub, Nat.reduceMul, Int.reduceLT, Int.reduceLE, Int.reduceEq, Int.reduceAdd, Int.reduceSub, Int.reduceMul, Int.reduceNeg, Int.reducePow, List.length_map, List.length_range, eq_self, ne_eq, Classical.not_not, Bool.not_eq_true, Bool.not_eq_false, Bool.false_eq_true, reduceCtorEq, Int.toNat_natCast, Nat.add_eq, Nat.reduceAdd, Int.cast_ofNat_Int, Int.reduceToNat, Int.zero_add, Int.add_zero, Nat.zero_add, Nat.add_zero, Nat.sub_zero, Int.sub_zero, Int.natCast_zero, Int.natCast_one, Int.natCast_add, Int.natCast_succ, beq_self_eq_true, Bool.decide_eq_true, Bool.decide_eq_false, ↓vf0, ↓vm0, rf0, rm0, ↓qf0, ↓qm0, ↓zf0, ↓zm0, ↓im0, ss0, ↓imd0, ↓vf1, ↓vm1, rf1, rm1, ↓qf1, ↓qm1, ↓zf1, ↓zm1, ↓im1, ss1, ↓imd1, ↓vf2, ↓vm2, rf2, rm2, ↓qf2, ↓qm2, ↓zf2, ↓zm2, ↓im2, ss2, ↓imd2, ↓vf3, ↓vm3, rf3, rm3, ↓qf3, ↓qm3, ↓zf3, ↓zm3, ↓im3, ss3, ↓imd3, ↓vf4, ↓vm4, rf4, rm4, ↓qf4, ↓qm4, ↓zf4, ↓zm4, ↓im4, ss4, ↓imd4, ↓vf5, ↓vm5, rf5, rm5, ↓qf5, ↓qm5, ↓zf5, ↓zm5, ↓im5, ss5, ↓imd5, ↓vf6, ↓vm6, rf6, rm6, ↓qf6, ↓qm6, ↓zf6, ↓zm6, ↓im6, ss6, ↓imd6, ↓vf7, ↓vm7, rf7, rm7, ↓qf7, ↓qm7, ↓zf7, ↓zm7, ↓im7, ss7, ↓imd7, ↓vf8, ↓vm8, rf8, rm8, ↓qf8, ↓qm8, ↓zf8, ↓zm8, ↓im8, ss8, ↓imd8, ↓vf9, ↓vm9, rf9, rm9, ↓qf9, ↓qm9, ↓zf9, ↓zm9, ↓im9, ss9, ↓imd9, ↓vf10, ↓vm10, rf10, rm10, ↓qf10, ↓qm10, ↓zf10, ↓zm10, ↓im10, ss10, ↓imd10, hl6]); (try simp only [T.bind_ret]); exact rfl) ?_); (try (with_reducible refine al_nx ?_))
      refine al_endL ?_
      have en : rows.map rawV ++ [AV.tup [.lst (List.map (fun k : Nat => AV.int (k : Int)) tn), .lst (nl mv)]] = (rows ++ [(tn.map fun k : Nat => (k : Int), mv)]).map rawV := by
        rw [List.map_append]
        simp only [List.map_cons, List.map_nil, rawV, ← nl_il']
        rfl
      rw [en]
      refine ⟨rows ++ [(tn.map fun k : Nat => (k : Int), mv)], _, _, _, _, rfl, by simp [hlen], ?_⟩
      · intro r hr
        rcases List.mem_append.mp hr with hr | hr
        · exact hok r hr
        · rw [List.mem_singleton] at hr
          subst hr
          refine ⟨⟨by rw [hmv.length_eq, List.length_range], hmv.nodup_iff.mpr List.nodup_range, fun x hx => List.mem_range.mp (hmv.mem_iff.mp hx)⟩, ?_, ?_⟩
          · have nd : tn.Nodup := htn.nodup_iff.mpr (hs.nodup List.nodup_range)
            rw [List.Nodup, List.pairwise_map]
            exact nd.imp fun h e => h (by omega)
          · intro x hx
            obtain ⟨k, hk, rfl⟩ := List.mem_map.mp hx
            have := List.mem_range.mp (hs.subset (htn.mem_iff.mp hk))
            omega
  · obtain ⟨rows, s5, s6, s7, s8, rfl, hlen, hok⟩ := hI
    (simp only [U1f3_law_rota, U1f2_law_rota, U1f1_law_rota, U1f0_law_rota, U2_law_rota, U1_law_rota, U0_law_rota, al_seq, nx_nx, lq_nx]; refine al_rd _ (by (simp -dsimp only [↓fBin_b, ↓fBlT_b, ↓fIf_b, ↓lCons_b, ↓fTup_b, ↓fCall_b, ↓sSeq_b, ↓sExpr_b, ↓sRet_b, ↓sSet_b, ↓iSeq_b, ↓iRange1_b, ↓sFor_b, ↓fNew_b, ↓fAppend_b, ↓nLc_b, ↓nListRange_b, ↓sParE_b, ↓fC_b, ↓lNil_b, ↓sNil_b, ↓fYes_b, ↓tgName_b, ↓tgNil_b, ↓tgCons_b, ↓tgTup_b, ↓lcRun_b, ↓frz_val, ↓lrs_val, ↓liftS_b, ↓liftN_b, ↓seqOf_t_b, ↓seqOf_l_b, ↓lstOf_l_b, ↓intOf_i_b, ↓blOf_b_b, ↓tru_n_b, ↓tru_b_b, ↓tru_i_b, ↓tru_t_b, ↓tru_l_b, ↓pLen_t_b, ↓pLen_l_b, ↓pLen_s_b, ↓pAdd_i_b, ↓pLt_i_b, ↓pGt_i_b, ↓atI_0_b, ↓atI_1_b, ↓atI_2_b, ↓atI_3_b, ↓lg0_b, ↓lg1_b, ↓lg2_b, ↓lg3_b, rs_val, outV_rt, outV_nx, backE_n, backE_u, wipeE_n, wipeE_u, froOf_f, froOf_u, seqOf_t, seqOf_l, lstOf_l, intOf_i, blOf_b, tru_n, tru_b, tru_i, tru_t, tru_l, pLen_t, pLen_l, pLen_s, pAdd_i, pLt_i, pGt_i, atI_0, atI_1, atI_2, atI_3, lg0, lg1, lg2, lg3, pIx_t, pIx_l, pAdd_t, pAdd_l, ↓keyOf1_ib, keyOf1_i, ↓T.bind_assoc, bind_ret', bind_bad', bind_exc', bind_draw', lift_some, lift_none', big, below62', below24', below64', below29', mul_ok, div_ok, mod_ok, ↓mArgs_bb, envB_self, tryT_ret, tryT_exc, tryT_draw, List.length_cons, List.length_nil, List.map_cons, List.map_nil, List.append_nil, List.nil_append, List.cons_append, List.replicate_succ, List.replicate_zero, List.isEmpty_nil, List.isEmpty_cons, Option.map_some, Option.map_none, Option.bind_some, Option.bind_none, true_and, and_true, and_self, false_and, and_false, true_or, or_true, false_or, or_false, not_true_eq_false, not_false_eq_true, Bool.not_true, Bool.not_false, Bool.true_and, Bool.and_true, Bool.false_and, Bool.and_false, Bool.true_or, Bool.or_true, Bool.or_false, Bool.false_or, decide_true, decide_false, decide_eq_true_eq, decide_eq_false_iff_not, if_true, if_false, ite_true, ite_false, ↓reduceIte, Int.natCast_nonneg, Nat.reduceLT, Nat.reduceLeDiff, Nat.reduceEqDiff, Nat.reduceSub, Nat.reduceMul, Int.reduceLT, Int.reduceLE, Int.reduceEq, Int.reduceAdd, Int.reduceSub, Int.reduceMul, Int.reduceNeg, Int.reducePow, List.length_map, List.length_range, eq_self, ne_eq, Classical.not_not, Bool.not_eq_true, Bool.not_eq_false, Bool.false_eq_true, reduceCtorEq, Int.toNat_natCast, Nat.add_eq, Nat.reduceAdd, Int.cast_ofNat_Int, Int.reduceToNat, Int.zero_add, Int.add_zero, Nat.zero_add, Nat.add_zero, Nat.sub_zero, Int.sub_zero, Int.natCast_zero, Int.natCast_one, Int.natCast_add, Int.natCast_succ, beq_self_eq_true, Bool.decide_eq_true, Bool.decide_eq_false, ↓vf0, ↓vm0, rf0, rm0, ↓qf0, ↓qm0, ↓zf0, ↓zm0, ↓im0, ss0, ↓vf1, ↓vm1, rf1, rm1, ↓qf1, ↓qm1, ↓zf1, ↓zm1, ↓im1, ss1, ↓vf2, ↓vm2, rf2, rm2, ↓qf2, ↓qm2, ↓zf2, ↓zm2, ↓im2, ss2, ↓vf3, ↓vm3, rf3, rm3, ↓qf3, ↓qm3, ↓zf3, ↓zm3, ↓im3, ss3, ↓vf4, ↓vm4, rf4, rm4, ↓qf4, ↓qm4, ↓zf4, ↓zm4, ↓im4, ss4, ↓vf5, ↓vm5, rf5, rm5, ↓qf5, ↓qm5, ↓zf5, ↓zm5, ↓im5, ss5, ↓vf6, ↓vm6, rf6, rm6, ↓qf6, ↓qm6, ↓zf6, ↓zm6, ↓im6, ss6, ↓vf7, ↓vm7, rf7, rm7, ↓qf7, ↓qm7, ↓zf7, ↓zm7, ↓im7, ss7, ↓vf8, ↓vm8, rf8, rm8, ↓qf8, ↓qm8, ↓zf8, ↓zm8, ↓im8, ss8, ↓vf9, ↓vm9, rf9, rm9, ↓qf9, ↓qm9, ↓zf9, ↓zm9, ↓im9, ss9, S1f0_law_rota, S1f1_law_rota, S1f2_law_rota, S1f3_law_rota, S0_law_rota, S1_law_rota, S2_law_rota, U1f3_law_rota, U1f2_law_rota, U1f1_law_rota, U1f0_law_rota, U2_law_rota, U1_law_rota, U0_law_rota]); (try simp only [T.bind_ret]); exact rfl) ?_); (try (with_reducible refine al_nx ?_))
    refine al_rtF ?_
    rw [range_len] at hlen
    exact ⟨n, rows, rfl, wr_of n0 (by omega) (by omega) (by omega) hok, n1, by omega⟩
def isI : AV → Bool
  | .int _ => true
  | _ => false
def wholeB (l : Int) : AV → Bool
  | .int i => decide (l ≤ i)
  | _ => false
def belowB (n : Int) : AV → Bool
  | .int i => decide (0 ≤ i ∧ i < n)
  | _ => false
theorem isi_o {t : AV} {u n : String} {b : Bool} (h : tyName t = some n) (hb : subTy n u = b) : pIsi u t = some (.bl b) := by
  unfold pIsi
  rw [h, Option.map_some, hb]
theorem isi2_o {t : AV} {u v n : String} {b : Bool} (h : tyName t = some n) (hb : (subTy n u || subTy n v) = b) : pIsi2 u v t = some (.bl b) := by
  unfold pIsi2
  rw [h, Option.map_some, hb]
theorem is_integer_f {t : AV} (e1 : pIsi "int" t = some (.bl false)) : f_is_integer [t] = .ret (.bl false) := by
  unfold f_is_integer b_is_integer; refine t_eq ?_; simp -dsimp only [fnOf, List.reduceReplicate, ↓fBin_b, ↓fUn_b, ↓fTru_b, ↓fBlT_b, ↓fNotT_b, ↓fOrT_b, ↓fAnd_b, ↓fNot_b, ↓fIf_b, ↓lCons_b, ↓fTup_b, ↓fSl_b, ↓fCall_b, ↓sSeq_b, ↓sExpr_b, ↓sRet_b, ↓sIf_b, ↓sSet_b, ↓sAsg_b, ↓iSeq_b, ↓iRange1_b, ↓sFor_b, ↓fNew_b, ↓nLst_b, ↓nList_b, ↓fAppend_b, ↓fPopAt_b, ↓nLc_b, ↓nListRange_b, ↓sPar_b, ↓sParE_b, ↓sParN_b, ↓sFldSet_b, ↓fC_b, ↓lNil_b, ↓sNil_b, ↓fYes_b, ↓tgName_b, ↓tgNil_b, ↓tgCons_b, ↓tgTup_b, ↓lcRun_b, ↓fPart_n, ↓fPart_s, ↓frz_val, ↓lrs_val, ↓liftS_b, ↓liftN_b, ↓seqOf_t_b, ↓seqOf_l_b, ↓lstOf_l_b, ↓intOf_i_b, ↓blOf_b_b, ↓tru_n_b, ↓tru_b_b, ↓tru_i_b, ↓tru_t_b, ↓tru_l_b, ↓pLen_t_b, ↓pLen_l_b, ↓pLen_s_b, ↓pTuple_t_b, ↓pTuple_l_b, ↓pAdd_i_b, ↓pNeg_i_b, ↓pLt_i_b, ↓pGt_i_b, ↓pGe_i_b, ↓pMax2_i_b, ↓pMin2_i_b, ↓pIs_nn_b, ↓pIs_in_b, ↓pIs_tn_b, ↓pIs_ln_b, ↓pIs_bn_b, ↓pIs_bb_b, ↓pNotIs_nn_b, ↓pNotIs_in_b, ↓pNotIs_tn_b, ↓pNotIs_ln_b, ↓pNotIs_bn_b, ↓pNotIs_bb_b, ↓pCut_t_b, ↓pCut_l_b, ↓atI_0_b, ↓atI_1_b, ↓atI_2_b, ↓atI_3_b, ↓lg0_b, ↓lg1_b, ↓lg2_b, ↓lg3_b, ↓isi_bl_int_b, ↓isi_bl_bool_b, ↓isi_bl_tuple_b, ↓isi2_bl_b, ↓isi_int_int_b, ↓isi_int_bool_b, ↓isi_int_tuple_b, ↓isi2_int_b, ↓isi_str_int_b, ↓isi_str_bool_b, ↓isi_str_tuple_b, ↓isi2_str_b, ↓isi_tup_int_b, ↓isi_tup_bool_b, ↓isi_tup_tuple_b, ↓isi2_tup_b, ↓isi_lst_int_b, ↓isi_lst_bool_b, ↓isi_lst_tuple_b, ↓isi2_lst_b, rs_val, outV_rt, outV_nx, backE_n, backE_u, wipeE_n, wipeE_u, froOf_f, froOf_u, seqOf_t, seqOf_l, lstOf_l, intOf_i, blOf_b, tru_n, tru_b, tru_i, tru_t, tru_l, pLen_t, pLen_l, pLen_s, pTuple_t, pTuple_l, pAdd_i, pNeg_i, pLt_i, pGt_i, pGe_i, pMax2_i, pMin2_i, pIs_nn, pIs_in, pIs_tn, pIs_ln, pIs_bn, pIs_bb, pNotIs_nn, pNotIs_in, pNotIs_tn, pNotIs_ln, pNotIs_bn, pNotIs_bb, pCut_t, pCut_l, atI_0, atI_1, atI_2, atI_3, lg0, lg1, lg2, lg3, isi_bl_int, isi_bl_bool, isi_bl_tuple, isi2_bl, isi_int_int, isi_int_bool, isi_int_tuple, isi2_int, isi_str_int, isi_str_bool, isi_str_tuple, isi2_str, isi_tup_int, isi_tup_bool, isi_tup_tuple, isi2_tup, isi_lst_int, isi_lst_bool, isi_lst_tuple, isi2_lst, pIx_t, pIx_l, pAdd_t, pAdd_l, ↓keyOf1_ib, keyOf1_i, ↓T.bind_assoc, bind_ret', bind_bad', bind_exc', bind_draw', lift_some, lift_none', big, below62', below24', below64', below29', mul_ok, div_ok, mod_ok, ↓sRaise_b, ↓sTryB_b, mDrop_b, ↓mArgs_bb, mArgs_b, envB_self, tryT_ret, tryT_exc, tryT_draw, List.length_cons, List.length_nil, List.map_cons, List.map_nil, List.append_nil, List.nil_append, List.cons_append, List.replicate_succ, List.replicate_zero, List.isEmpty_nil, List.isEmpty_cons, Option.map_some, Option.map_none, Option.bind_some, Option.bind_none, true_and, and_true, and_self, false_and, and_false, true_or, or_true, false_or, or_false, not_true_eq_false, not_false_eq_true, Bool.not_true, Bool.not_false, Bool.true_and, Bool.and_true, Bool.false_and, Bool.and_false, Bool.true_or, Bool.or_true, Bool.or_false, Bool.false_or, decide_true, decide_false, decide_eq_true_eq, decide_eq_false_iff_not, if_true, if_false, ite_true, ite_false, ↓reduceIte, Int.natCast_nonneg, Nat.reduceLT, Nat.reduceLeDiff, Nat.reduceEqDiff, Nat.reduceSub, Nat.reduceMul, Int.reduceLT, Int.reduceLE, Int.reduceEq, Int.reduceAdd, Int.reduceSub, Int.reduceMul, Int.reduceNeg, Int.reducePow, List.length_map, List.length_range, eq_self, ne_eq, Classical.not_not, Bool.not_eq_true, Bool.not_eq_false, Bool.false_eq_true, reduceCtorEq, Int.toNat_natCast, Nat.add_eq, Nat.reduceAdd, Int.cast_ofNat_Int, Int.reduceToNat, Int.zero_add, Int.add_zero, Nat.zero_add, Nat.add_zero, Nat.sub_zero, Int.sub_zero, Int.natCast_zero, Int.natCast_one, Int.natCast_add, Int.natCast_succ, beq_self_eq_true, Bool.decide_eq_true, Bool.decide_eq_false, ↓vf0, ↓vm0, rf0, rm0, ↓qf0, ↓qm0, ↓zf0, ↓zm0, ↓im0, ss0, e1]
theorem is_integer_tb {t : AV} {b : Bool} (e1 : pIsi "int" t = some (.bl true)) (e2 : pIsi "bool" t = some (.bl b)) : f_is_integer [t] = .ret (.bl !b) := by
  cases b with
  | true => unfold f_is_integer b_is_integer; refine t_eq ?_; simp -dsimp only [fnOf, List.reduceReplicate, ↓fBin_b, ↓fUn_b, ↓fTru_b, ↓fBlT_b, ↓fNotT_b, ↓fOrT_b, ↓fAnd_b, ↓fNot_b, ↓fIf_b, ↓lCons_b, ↓fTup_b, ↓fSl_b, ↓fCall_b, ↓sSeq_b, ↓sExpr_b, ↓sRet_b, ↓sIf_b, ↓sSet_b, ↓sAsg_b, ↓iSeq_b, ↓iRange1_b, ↓sFor_b, ↓fNew_b, ↓nLst_b, ↓nList_b, ↓fAppend_b, ↓fPopAt_b, ↓nLc_b, ↓nListRange_b, ↓sPar_b, ↓sParE_b, ↓sParN_b, ↓sFldSet_b, ↓fC_b, ↓lNil_b, ↓sNil_b, ↓fYes_b, ↓tgName_b, ↓tgNil_b, ↓tgCons_b, ↓tgTup_b, ↓lcRun_b, ↓fPart_n, ↓fPart_s, ↓frz_val, ↓lrs_val, ↓liftS_b, ↓liftN_b, ↓seqOf_t_b, ↓seqOf_l_b, ↓lstOf_l_b, ↓intOf_i_b, ↓blOf_b_b, ↓tru_n_b, ↓tru_b_b, ↓tru_i_b, ↓tru_t_b, ↓tru_l_b, ↓pLen_t_b, ↓pLen_l_b, ↓pLen_s_b, ↓pTuple_t_b, ↓pTuple_l_b, ↓pAdd_i_b, ↓pNeg_i_b, ↓pLt_i_b, ↓pGt_i_b, ↓pGe_i_b, ↓pMax2_i_b, ↓pMin2_i_b, ↓pIs_nn_b, ↓pIs_in_b, ↓pIs_tn_b, ↓pIs_ln_b, ↓pIs_bn_b, ↓pIs_bb_b, ↓pNotIs_nn_b, ↓pNotIs_in_b, ↓pNotIs_tn_b, ↓pNotIs_ln_b, ↓pNotIs_bn_b, ↓pNotIs_bb_b, ↓pCut_t_b, ↓pCut_l_b, ↓atI_0_b, ↓atI_1_b, ↓atI_2_b, ↓atI_3_b, ↓lg0_b, ↓lg1_b, ↓lg2_b, ↓lg3_b, ↓isi_bl_int_b, ↓isi_bl_bool_b, ↓isi_bl_tuple_b, ↓isi2_bl_b, ↓isi_int_int_b, ↓isi_int_bool_b, ↓isi_int_tuple_b, ↓isi2_int_b, ↓isi_str_int_b, ↓isi_str_bool_b, ↓isi_str_tuple_b, ↓isi2_str_b, ↓isi_tup_int_b, ↓isi_tup_bool_b, ↓isi_tup_tuple_b, ↓isi2_tup_b, ↓isi_lst_int_b, ↓isi_lst_bool_b, ↓isi_lst_tuple_b, ↓isi2_lst_b, rs_val, outV_rt, outV_nx, backE_n, backE_u, wipeE_n, wipeE_u, froOf_f, froOf_u, seqOf_t, seqOf_l, lstOf_l, intOf_i, blOf_b, tru_n, tru_b, tru_i, tru_t, tru_l, pLen_t, pLen_l, pLen_s, pTuple_t, pTuple_l, pAdd_i, pNeg_i, pLt_i, pGt_i, pGe_i, pMax2_i, pMin2_i, pIs_nn, pIs_in, pIs_tn, pIs_ln, pIs_bn, pIs_bb, pNotIs_nn, pNotIs_in, pNotIs_tn, pNotIs_ln, pNotIs_bn, pNotIs_bb, pCut_t, pCut_l, atI_0, atI_1, atI_2, atI_3, lg0, lg1, lg2, lg3, isi_bl_int, isi_bl_bool, isi_bl_tuple, isi2_bl, isi_int_int, isi_int_bool, isi_int_tuple, isi2_int, isi_str_int, isi_str_bool, isi_str_tuple, isi2_str, isi_tup_int, isi_tup_bool, isi_tup_tuple, isi2_tup, isi_lst_int, isi_lst_bool, isi_lst_tuple, isi2_lst, pIx_t, pIx_l, pAdd_t, pAdd_l, ↓keyOf1_ib, keyOf1_i, ↓T.bind_assoc, bind_ret', bind_bad', bind_exc', bind_draw', lift_some, lift_none', big, below62', below24', below64', below29', mul_ok, div_ok, mod_ok, ↓sRaise_b, ↓sTryB_b, mDrop_b, ↓mArgs_bb, mArgs_b, envB_self, tryT_ret, tryT_exc, tryT_draw, List.length_cons, List.length_nil, List.map_cons, List.map_nil, List.append_nil, List.nil_append, List.cons_append, List.replicate_succ, List.replicate_zero, List.isEmpty_nil, List.isEmpty_cons, Option.map_some, Option.map_none, Option.bind_some, Option.bind_none, true_and, and_true, and_self, false_and, and_false, true_or, or_true, false_or, or_false, not_true_eq_false, not_false_eq_true, Bool.not_true, Bool.not_false, Bool.true_and, Bool.and_true, Bool.false_and, Bool.and_false, Bool.true_or, Bool.or_true, Bool.or_false, Bool.false_or, decide_true, decide_false, decide_eq_true_eq, decide_eq_false_iff_not, if_true, if_false, ite_true, ite_false, ↓reduceIte, Int.natCast_nonneg, Nat.reduceLT, Nat.reduceLeDiff, Nat.reduceEqDiff, Nat.reduceSub, Nat.reduceMul, Int.reduceLT, Int.reduceLE, Int.reduceEq, Int.reduceAdd, Int.reduceSub, Int.reduceMul, Int.reduceNeg, Int.reducePow, List.length_map, List.length_range, eq_self, ne_eq, Classical.not_not, Bool.not_eq_true, Bool.not_eq_false, Bool.false_eq_true, reduceCtorEq, Int.toNat_natCast, Nat.add_eq, Nat.reduceAdd, Int.cast_ofNat_Int, Int.reduceToNat, Int.zero_add, Int.add_zero, Nat.zero_add, Nat.add_zero, Nat.sub_zero, Int.sub_zero, Int.natCast_zero, Int.natCast_one, Int.natCast_add, Int.natCast_succ, beq_self_eq_true, Bool.decide_eq_true, Bool.decide_eq_false, ↓vf0, ↓vm0, rf0, rm0, ↓qf0, ↓qm0, ↓zf0, ↓zm0, ↓im0, ss0, e1, e2]
  | false => unfold f_is_integer b_is_integer; refine t_eq ?_; simp -dsimp only [fnOf, List.reduceReplicate, ↓fBin_b, ↓fUn_b, ↓fTru_b, ↓fBlT_b, ↓fNotT_b, ↓fOrT_b, ↓fAnd_b, ↓fNot_b, ↓fIf_b, ↓lCons_b, ↓fTup_b, ↓fSl_b, ↓fCall_b, ↓sSeq_b, ↓sExpr_b, ↓sRet_b, ↓sIf_b, ↓sSet_b, ↓sAsg_b, ↓iSeq_b, ↓iRange1_b, ↓sFor_b, ↓fNew_b, ↓nLst_b, ↓nList_b, ↓fAppend_b, ↓fPopAt_b, ↓nLc_b, ↓nListRange_b, ↓sPar_b, ↓sParE_b, ↓sParN_b, ↓sFldSet_b, ↓fC_b, ↓lNil_b, ↓sNil_b, ↓fYes_b, ↓tgName_b, ↓tgNil_b, ↓tgCons_b, ↓tgTup_b, ↓lcRun_b, ↓fPart_n, ↓fPart_s, ↓frz_val, ↓lrs_val, ↓liftS_b, ↓liftN_b, ↓seqOf_t_b, ↓seqOf_l_b, ↓lstOf_l_b, ↓intOf_i_b, ↓blOf_b_b, ↓tru_n_b, ↓tru_b_b, ↓tru_i_b, ↓tru_t_b, ↓tru_l_b, ↓pLen_t_b, ↓pLen_l_b, ↓pLen_s_b, ↓pTuple_t_b, ↓pTuple_l_b, ↓pAdd_i_b, ↓pNeg_i_b, ↓pLt_i_b, ↓pGt_i_b, ↓pGe_i_b, ↓pMax2_i_b, ↓pMin2_i_b, ↓pIs_nn_b, ↓pIs_in_b, ↓pIs_tn_b, ↓pIs_ln_b, ↓pIs_bn_b, ↓pIs_bb_b, ↓pNotIs_nn_b, ↓pNotIs_in_b, ↓pNotIs_tn_b, ↓pNotIs_ln_b, ↓pNotIs_bn_b, ↓pNotIs_bb_b, ↓pCut_t_b, ↓pCut_l_b, ↓atI_0_b, ↓atI_1_b, ↓atI_2_b, ↓atI_3_b, ↓lg0_b, ↓lg1_b, ↓lg2_b, ↓lg3_b, ↓isi_bl_int_b, ↓isi_bl_bool_b, ↓isi_bl_tuple_b, ↓isi2_bl_b, ↓isi_int_int_b, ↓isi_int_bool_b, ↓isi_int_tuple_b, ↓isi2_int_b, ↓isi_str_int_b, ↓isi_str_bool_b, ↓isi_str_tuple_b, ↓isi2_str_b, ↓isi_tup_int_b, ↓isi_tup_bool_b, ↓isi_tup_tuple_b, ↓isi2_tup_b, ↓isi_lst_int_b, ↓isi_lst_bool_b, ↓isi_lst_tuple_b, ↓isi2_lst_b, rs_val, outV_rt, outV_nx, backE_n, backE_u, wipeE_n, wipeE_u, froOf_f, froOf_u, seqOf_t, seqOf_l, lstOf_l, intOf_i, blOf_b, tru_n, tru_b, tru_i, tru_t, tru_l, pLen_t, pLen_l, pLen_s, pTuple_t, pTuple_l, pAdd_i, pNeg_i, pLt_i, pGt_i, pGe_i, pMax2_i, pMin2_i, pIs_nn, pIs_in, pIs_tn, pIs_ln, pIs_bn, pIs_bb, pNotIs_nn, pNotIs_in, pNotIs_tn, pNotIs_ln, pNotIs_bn, pNotIs_bb, pCut_t, pCut_l, atI_0, atI_1, atI_2, atI_3, lg0, lg1, lg2, lg3, isi_bl_int, isi_bl_bool, isi_bl_tuple, isi2_bl, isi_int_int, isi_int_bool, isi_int_tuple, isi2_int, isi_str_int, isi_str_bool, isi_str_tuple, isi2_str, isi_tup_int, isi_tup_bool, isi_tup_tuple, isi2_tup, isi_lst_int, isi_lst_bool, isi_lst_tuple, isi2_lst, pIx_t, pIx_l, pAdd_t, pAdd_l, ↓keyOf1_ib, keyOf1_i, ↓T.bind_assoc, bind_ret', bind_bad', bind_exc', bind_draw', lift_some, lift_none', big, below62', below24', below64', below29', mul_ok, div_ok, mod_ok, ↓sRaise_b, ↓sTryB_b, mDrop_b, ↓mArgs_bb, mArgs_b, envB_self, tryT_ret, tryT_exc, tryT_draw, List.length_cons, List.length_nil, List.map_cons, List.map_nil, List.append_nil, List.nil_append, List.cons_append, List.replicate_succ, List.replicate_zero, List.isEmpty_nil, List.isEmpty_cons, Option.map_some, Option.map_none, Option.bind_some, Option.bind_none, true_and, and_true, and_self, false_and, and_false, true_or, or_true, false_or, or_false, not_true_eq_false, not_false_eq_true, Bool.not_true, Bool.not_false, Bool.true_and, Bool.and_true, Bool.false_and, Bool.and_false, Bool.true_or, Bool.or_true, Bool.or_false, Bool.false_or, decide_true, decide_false, decide_eq_true_eq, decide_eq_false_iff_not, if_true, if_false, ite_true, ite_false, ↓reduceIte, Int.natCast_nonneg, Nat.reduceLT, Nat.reduceLeDiff, Nat.reduceEqDiff, Nat.reduceSub, Nat.reduceMul, Int.reduceLT, Int.reduceLE, Int.reduceEq, Int.reduceAdd, Int.reduceSub, Int.reduceMul, Int.reduceNeg, Int.reducePow, List.length_map, List.length_range, eq_self, ne_eq, Classical.not_not, Bool.not_eq_true, Bool.not_eq_false, Bool.false_eq_true, reduceCtorEq, Int.toNat_natCast, Nat.add_eq, Nat.reduceAdd, Int.cast_ofNat_Int, Int.reduceToNat, Int.zero_add, Int.add_zero, Nat.zero_add, Nat.add_zero, Nat.sub_zero, Int.sub_zero, Int.natCast_zero, Int.natCast_one, Int.natCast_add, Int.natCast_succ, beq_self_eq_true, Bool.decide_eq_true, Bool.decide_eq_false, ↓vf0, ↓vm0, rf0, rm0, ↓qf0, ↓qm0, ↓zf0, ↓zm0, ↓im0, ss0, e1, e2]
theorem is_integer_o {t : AV} (h : (tyName t).isSome = true) : f_is_integer [t] = .ret (.bl (isI t)) := by
  cases t with
  | non => exact is_integer_f (isi_o rfl (by decide))
  | bl b => exact is_integer_tb (b := true) (isi_o rfl (by decide)) (isi_o rfl (by decide))
  | int i => exact is_integer_tb (b := false) (isi_o rfl (by decide)) (isi_o rfl (by decide))
  | str s => exact is_integer_f (isi_o rfl (by decide))
  | tup xs => exact is_integer_f (isi_o rfl (by decide))
  | lst xs => exact is_integer_f (isi_o rfl (by decide))
  | ins c xs => cases h
  | dic ks xs => cases h
  | box => cases h
  | scr ns => cases h
  | any => cases h
theorem is_seq_f {t : AV} {b : Bool} (e1 : pIsi2 "list" "tuple" t = some (.bl b)) : f_is_sequence [t] = .ret (.bl b) := by
  unfold f_is_sequence b_is_sequence; refine t_eq ?_; simp -dsimp only [fnOf, List.reduceReplicate, ↓fUn_b, ↓lCons_b, ↓sSeq_b, ↓sRet_b, ↓iSeq_b, ↓fC_b, ↓lNil_b, ↓sNil_b, ↓fYes_b, ↓tgName_b, ↓tgNil_b, ↓tgCons_b, ↓tgTup_b, ↓lcRun_b, ↓frz_val, ↓lrs_val, ↓liftS_b, ↓liftN_b, ↓seqOf_t_b, ↓seqOf_l_b, ↓lstOf_l_b, ↓intOf_i_b, ↓blOf_b_b, ↓tru_n_b, ↓tru_b_b, ↓tru_i_b, ↓tru_t_b, ↓tru_l_b, ↓pLen_t_b, ↓pLen_l_b, ↓pLen_s_b, ↓pAdd_i_b, ↓atI_0_b, ↓atI_1_b, ↓atI_2_b, ↓atI_3_b, ↓lg0_b, ↓lg1_b, ↓lg2_b, ↓lg3_b, ↓isi2_bl_b, ↓isi2_int_b, ↓isi2_str_b, ↓isi2_tup_b, ↓isi2_lst_b, rs_val, outV_rt, outV_nx, backE_n, backE_u, wipeE_n, wipeE_u, froOf_f, froOf_u, seqOf_t, seqOf_l, lstOf_l, intOf_i, blOf_b, tru_n, tru_b, tru_i, tru_t, tru_l, pLen_t, pLen_l, pLen_s, pAdd_i, atI_0, atI_1, atI_2, atI_3, lg0, lg1, lg2, lg3, isi2_bl, isi2_int, isi2_str, isi2_tup, isi2_lst, pIx_t, pIx_l, pAdd_t, pAdd_l, ↓keyOf1_ib, keyOf1_i, ↓T.bind_assoc, bind_ret', bind_bad', bind_exc', bind_draw', lift_some, lift_none', big, below62', below24', below64', below29', mul_ok, div_ok, mod_ok, ↓mArgs_bb, envB_self, tryT_ret, tryT_exc, tryT_draw, List.length_cons, List.length_nil, List.map_cons, List.map_nil, List.append_nil, List.nil_append, List.cons_append, List.replicate_succ, List.replicate_zero, List.isEmpty_nil, List.isEmpty_cons, Option.map_some, Option.map_none, Option.bind_some, Option.bind_none, true_and, and_true, and_self, false_and, and_false, true_or, or_true, false_or, or_false, not_true_eq_false, not_false_eq_true, Bool.not_true, Bool.not_false, Bool.true_and, Bool.and_true, Bool.false_and, Bool.and_false, Bool.true_or, Bool.or_true, Bool.or_false, Bool.false_or, decide_true, decide_false, decide_eq_true_eq, decide_eq_false_iff_not, if_true, if_false, ite_true, ite_false, ↓reduceIte, Int.natCast_nonneg, Nat.reduceLT, Nat.reduceLeDiff, Nat.reduceEqDiff, Nat.reduceSub, Nat.reduceMul, Int.reduceLT, Int.reduceLE, Int.reduceEq, Int.reduceAdd, Int.reduceSub, Int.reduceMul, Int.reduceNeg, Int.reducePow, List.length_map, List.length_range, eq_self, ne_eq, Classical.not_not, Bool.not_eq_true, Bool.not_eq_false, Bool.false_eq_true, reduceCtorEq, Int.toNat_natCast, Nat.add_eq, Nat.reduceAdd, Int.cast_ofNat_Int, Int.reduceToNat, Int.zero_add, Int.add_zero, Nat.zero_add, Nat.add_zero, Nat.sub_zero, Int.sub_zero, Int.natCast_zero, Int.natCast_one, Int.natCast_add, Int.natCast_succ, beq_self_eq_true, Bool.decide_eq_true, Bool.decide_eq_false, ↓vf0, ↓vm0, rf0, rm0, ↓qf0, ↓qm0, ↓zf0, ↓zm0, ↓im0, ss0, S0_is_sequence, U0_is_sequence, e1]
theorem is_seq_o {t : AV} (h : (tyName t).isSome = true) : f_is_sequence [t] = .ret (.bl (seqOf t).isSome) := by
  cases t with
  | non => exact is_seq_f (b := false) (isi2_o rfl (by decide))
  | bl b => exact is_seq_f (b := false) (isi2_o rfl (by decide))
  | int i => exact is_seq_f (b := false) (isi2_o rfl (by decide))
  | str s => exact is_seq_f (b := false) (isi2_o rfl (by decide))
  | tup xs => exact is_seq_f (b := true) (isi2_o rfl (by decide))
  | lst xs => exact is_seq_f (b := true) (isi2_o rfl (by decide))
  | ins c xs => cases h
  | dic ks xs => cases h
  | box => cases h
  | scr ns => cases h
  | any => cases h
theorem is_whole_n {t : AV} {l : Int} (h : (tyName t).isSome = true) (hi : isI t = false) : f_is_whole [t, .int l] = .ret (.bl false) := by
  have e := is_integer_o h
  rw [hi] at e
  unfold f_is_whole b_is_whole; refine t_eq ?_; simp -dsimp only [fnOf, List.reduceReplicate, ↓fBin_b, ↓fUn_b, ↓fTru_b, ↓fBlT_b, ↓fNotT_b, ↓fOrT_b, ↓fAnd_b, ↓fNot_b, ↓fIf_b, ↓lCons_b, ↓fTup_b, ↓fSl_b, ↓fCall_b, ↓sSeq_b, ↓sExpr_b, ↓sRet_b, ↓sIf_b, ↓sSet_b, ↓sAsg_b, ↓iSeq_b, ↓iRange1_b, ↓sFor_b, ↓fNew_b, ↓nLst_b, ↓nList_b, ↓fAppend_b, ↓fPopAt_b, ↓nLc_b, ↓nListRange_b, ↓sPar_b, ↓sParE_b, ↓sParN_b, ↓sFldSet_b, ↓fC_b, ↓lNil_b, ↓sNil_b, ↓fYes_b, ↓tgName_b, ↓tgNil_b, ↓tgCons_b, ↓tgTup_b, ↓lcRun_b, ↓fPart_n, ↓fPart_s, ↓frz_val, ↓lrs_val, ↓liftS_b, ↓liftN_b, ↓seqOf_t_b, ↓seqOf_l_b, ↓lstOf_l_b, ↓intOf_i_b, ↓blOf_b_b, ↓tru_n_b, ↓tru_b_b, ↓tru_i_b, ↓tru_t_b, ↓tru_l_b, ↓pLen_t_b, ↓pLen_l_b, ↓pLen_s_b, ↓pTuple_t_b, ↓pTuple_l_b, ↓pAdd_i_b, ↓pNeg_i_b, ↓pLt_i_b, ↓pGt_i_b, ↓pGe_i_b, ↓pMax2_i_b, ↓pMin2_i_b, ↓pIs_nn_b, ↓pIs_in_b, ↓pIs_tn_b, ↓pIs_ln_b, ↓pIs_bn_b, ↓pIs_bb_b, ↓pNotIs_nn_b, ↓pNotIs_in_b, ↓pNotIs_tn_b, ↓pNotIs_ln_b, ↓pNotIs_bn_b, ↓pNotIs_bb_b, ↓pCut_t_b, ↓pCut_l_b, ↓atI_0_b, ↓atI_1_b, ↓atI_2_b, ↓atI_3_b, ↓lg0_b, ↓lg1_b, ↓lg2_b, ↓lg3_b, ↓isi_bl_int_b, ↓isi_bl_bool_b, ↓isi_bl_tuple_b, ↓isi2_bl_b, ↓isi_int_int_b, ↓isi_int_bool_b, ↓isi_int_tuple_b, ↓isi2_int_b, ↓isi_str_int_b, ↓isi_str_bool_b, ↓isi_str_tuple_b, ↓isi2_str_b, ↓isi_tup_int_b, ↓isi_tup_bool_b, ↓isi_tup_tuple_b, ↓isi2_tup_b, ↓isi_lst_int_b, ↓isi_lst_bool_b, ↓isi_lst_tuple_b, ↓isi2_lst_b, rs_val, outV_rt, outV_nx, backE_n, backE_u, wipeE_n, wipeE_u, froOf_f, froOf_u, seqOf_t, seqOf_l, lstOf_l, intOf_i, blOf_b, tru_n, tru_b, tru_i, tru_t, tru_l, pLen_t, pLen_l, pLen_s, pTuple_t, pTuple_l, pAdd_i, pNeg_i, pLt_i, pGt_i, pGe_i, pMax2_i, pMin2_i, pIs_nn, pIs_in, pIs_tn, pIs_ln, pIs_bn, pIs_bb, pNotIs_nn, pNotIs_in, pNotIs_tn, pNotIs_ln, pNotIs_bn, pNotIs_bb, pCut_t, pCut_l, atI_0, atI_1, atI_2, atI_3, lg0, lg1, lg2, lg3, isi_bl_int, isi_bl_bool, isi_bl_tuple, isi2_bl, isi_int_int, isi_int_bool, isi_int_tuple, isi2_int, isi_str_int, isi_str_bool, isi_str_tuple, isi2_str, isi_tup_int, isi_tup_bool, isi_tup_tuple, isi2_tup, isi_lst_int, isi_lst_bool, isi_lst_tuple, isi2_lst, pIx_t, pIx_l, pAdd_t, pAdd_l, ↓keyOf1_ib, keyOf1_i, ↓T.bind_assoc, bind_ret', bind_bad', bind_exc', bind_draw', lift_some, lift_none', big, below62', below24', below64', below29', mul_ok, div_ok, mod_ok, ↓sRaise_b, ↓sTryB_b, mDrop_b, ↓mArgs_bb, mArgs_b, envB_self, tryT_ret, tryT_exc, tryT_draw, List.length_cons, List.length_nil, List.map_cons, List.map_nil, List.append_nil, List.nil_append, List.cons_append, List.replicate_succ, List.replicate_zero, List.isEmpty_nil, List.isEmpty_cons, Option.map_some, Option.map_none, Option.bind_some, Option.bind_none, true_and, and_true, and_self, false_and, and_false, true_or, or_true, false_or, or_false, not_true_eq_false, not_false_eq_true, Bool.not_true, Bool.not_false, Bool.true_and, Bool.and_true, Bool.false_and, Bool.and_false, Bool.true_or, Bool.or_true, Bool.or_false, Bool.false_or, decide_true, decide_false, decide_eq_true_eq, decide_eq_false_iff_not, if_true, if_false, ite_true, ite_false, ↓reduceIte, Int.natCast_nonneg, Nat.reduceLT, Nat.reduceLeDiff, Nat.reduceEqDiff, Nat.reduceSub, Nat.reduceMul, Int.reduceLT, Int.reduceLE, Int.reduceEq, Int.reduceAdd, Int.reduceSub, Int.reduceMul, Int.reduceNeg, Int.reducePow, List.length_map, List.length_range, eq_self, ne_eq, Classical.not_not, Bool.not_eq_true, Bool.not_eq_false, Bool.false_eq_true, reduceCtorEq, Int.toNat_natCast, Nat.add_eq, Nat.reduceAdd, Int.cast_ofNat_Int, Int.reduceToNat, Int.zero_add, Int.add_zero, Nat.zero_add, Nat.add_zero, Nat.sub_zero, Int.sub_zero, Int.natCast_zero, Int.natCast_one, Int.natCast_add, Int.natCast_succ, beq_self_eq_true, Bool.decide_eq_true, Bool.decide_eq_false, ↓vf0, ↓vm0, rf0, rm0, ↓qf0, ↓qm0, ↓zf0, ↓zm0, ↓im0, ss0, ↓vf1, ↓vm1, rf1, rm1, ↓qf1, ↓qm1, ↓zf1, ↓zm1, ↓im1, ss1, e]
theorem is_whole_i {i l : Int} : f_is_whole [.int i, .int l] = .ret (.bl (decide (l ≤ i))) := by
  have e : f_is_integer [.int i] = .ret (.bl true) := is_integer_o rfl
  unfold f_is_whole b_is_whole; refine t_eq ?_; simp -dsimp only [fnOf, List.reduceReplicate, ↓fBin_b, ↓fUn_b, ↓fTru_b, ↓fBlT_b, ↓fNotT_b, ↓fOrT_b, ↓fAnd_b, ↓fNot_b, ↓fIf_b, ↓lCons_b, ↓fTup_b, ↓fSl_b, ↓fCall_b, ↓sSeq_b, ↓sExpr_b, ↓sRet_b, ↓sIf_b, ↓sSet_b, ↓sAsg_b, ↓iSeq_b, ↓iRange1_b, ↓sFor_b, ↓fNew_b, ↓nLst_b, ↓nList_b, ↓fAppend_b, ↓fPopAt_b, ↓nLc_b, ↓nListRange_b, ↓sPar_b, ↓sParE_b, ↓sParN_b, ↓sFldSet_b, ↓fC_b, ↓lNil_b, ↓sNil_b, ↓fYes_b, ↓tgName_b, ↓tgNil_b, ↓tgCons_b, ↓tgTup_b, ↓lcRun_b, ↓fPart_n, ↓fPart_s, ↓frz_val, ↓lrs_val, ↓liftS_b, ↓liftN_b, ↓seqOf_t_b, ↓seqOf_l_b, ↓lstOf_l_b, ↓intOf_i_b, ↓blOf_b_b, ↓tru_n_b, ↓tru_b_b, ↓tru_i_b, ↓tru_t_b, ↓tru_l_b, ↓pLen_t_b, ↓pLen_l_b, ↓pLen_s_b, ↓pTuple_t_b, ↓pTuple_l_b, ↓pAdd_i_b, ↓pNeg_i_b, ↓pLt_i_b, ↓pGt_i_b, ↓pGe_i_b, ↓pMax2_i_b, ↓pMin2_i_b, ↓pIs_nn_b, ↓pIs_in_b, ↓pIs_tn_b, ↓pIs_ln_b, ↓pIs_bn_b, ↓pIs_bb_b, ↓pNotIs_nn_b, ↓pNotIs_in_b, ↓pNotIs_tn_b, ↓pNotIs_ln_b, ↓pNotIs_bn_b, ↓pNotIs_bb_b, ↓pCut_t_b, ↓pCut_l_b, ↓atI_0_b, ↓atI_1_b, ↓atI_2_b, ↓atI_3_b, ↓lg0_b, ↓lg1_b, ↓lg2_b, ↓lg3_b, ↓isi_bl_int_b, ↓isi_bl_bool_b, ↓isi_bl_tuple_b, ↓isi2_bl_b, ↓isi_int_int_b, ↓isi_int_bool_b, ↓isi_int_tuple_b, ↓isi2_int_b, ↓isi_str_int_b, ↓isi_str_bool_b, ↓isi_str_tuple_b, ↓isi2_str_b, ↓isi_tup_int_b, ↓isi_tup_bool_b, ↓isi_tup_tuple_b, ↓isi2_tup_b, ↓isi_lst_int_b, ↓isi_lst_bool_b, ↓isi_lst_tuple_b, ↓isi2_lst_b, rs_val, outV_rt, outV_nx, backE_n, backE_u, wipeE_n, wipeE_u, froOf_f, froOf_u, seqOf_t, seqOf_l, lstOf_l, intOf_i, blOf_b, tru_n, tru_b, tru_i, tru_t, tru_l, pLen_t, pLen_l, pLen_s, pTuple_t, pTuple_l, pAdd_i, pNeg_i, pLt_i, pGt_i, pGe_i, pMax2_i, pMin2_i, pIs_nn, pIs_in, pIs_tn, pIs_ln, pIs_bn, pIs_bb, pNotIs_nn, pNotIs_in, pNotIs_tn, pNotIs_ln, pNotIs_bn, pNotIs_bb, pCut_t, pCut_l, atI_0, atI_1, atI_2, atI_3, lg0, lg1, lg2, lg3, isi_bl_int, isi_bl_bool, isi_bl_tuple, isi2_bl, isi_int_int, isi_int_bool, isi_int_tuple, isi2_int, isi_str_int, isi_str_bool, isi_str_tuple, isi2_str, isi_tup_int, isi_tup_bool, isi_tup_tuple, isi2_tup, isi_lst_int, isi_lst_bool, isi_lst_tuple, isi2_lst, pIx_t, pIx_l, pAdd_t, pAdd_l, ↓keyOf1_ib, keyOf1_i, ↓T.bind_assoc, bind_ret', bind_bad', bind_exc', bind_draw', lift_some, lift_none', big, below62', below24', below64', below29', mul_ok, div_ok, mod_ok, ↓sRaise_b, ↓sTryB_b, mDrop_b, ↓mArgs_bb, mArgs_b, envB_self, tryT_ret, tryT_exc, tryT_draw, List.length_cons, List.length_nil, List.map_cons, List.map_nil, List.append_nil, List.nil_append, List.cons_append, List.replicate_succ, List.replicate_zero, List.isEmpty_nil, List.isEmpty_cons, Option.map_some, Option.map_none, Option.bind_some, Option.bind_none, true_and, and_true, and_self, false_and, and_false, true_or, or_true, false_or, or_false, not_true_eq_false, not_false_eq_true, Bool.not_true, Bool.not_false, Bool.true_and, Bool.and_true, Bool.false_and, Bool.and_false, Bool.true_or, Bool.or_true, Bool.or_false, Bool.false_or, decide_true, decide_false, decide_eq_true_eq, decide_eq_false_iff_not, if_true, if_false, ite_true, ite_false, ↓reduceIte, Int.natCast_nonneg, Nat.reduceLT, Nat.reduceLeDiff, Nat.reduceEqDiff, Nat.reduceSub, Nat.reduceMul, Int.reduceLT, Int.reduceLE, Int.reduceEq, Int.reduceAdd, Int.reduceSub, Int.reduceMul, Int.reduceNeg, Int.reducePow, List.length_map, List.length_range, eq_self, ne_eq, Classical.not_not, Bool.not_eq_true, Bool.not_eq_false, Bool.false_eq_true, reduceCtorEq, Int.toNat_natCast, Nat.add_eq, Nat.reduceAdd, Int.cast_ofNat_Int, Int.reduceToNat, Int.zero_add, Int.add_zero, Nat.zero_add, Nat.add_zero, Nat.sub_zero, Int.sub_zero, Int.natCast_zero, Int.natCast_one, Int.natCast_add, Int.natCast_succ, beq_self_eq_true, Bool.decide_eq_true, Bool.decide_eq_false, ↓vf0, ↓vm0, rf0, rm0, ↓qf0, ↓qm0, ↓zf0, ↓zm0, ↓im0, ss0, ↓vf1, ↓vm1, rf1, rm1, ↓qf1, ↓qm1, ↓zf1, ↓zm1, ↓im1, ss1, e]
theorem is_whole_o {t : AV} {l : Int} (h : (tyName t).isSome = true) : f_is_whole [t, .int l] = .ret (.bl (wholeB l t)) := by
  cases t with
  | int i => exact is_whole_i
  | ins c xs => cases h
  | dic ks xs => cases h
  | box => cases h
  | scr ns => cases h
  | any => cases h
  | _ => exact is_whole_n h rfl
theorem is_below_i {i n : Int} : f_is_below [.int i, .int n] = .ret (.bl (decide (0 ≤ i ∧ i < n))) := by
  have e : f_is_whole [.int i, .int 0] = _ := is_whole_i
  by_cases h : 0 ≤ i
  · unfold f_is_below b_is_below; refine t_eq ?_; simp -dsimp only [fnOf, List.reduceReplicate, ↓fBin_b, ↓fUn_b, ↓fTru_b, ↓fBlT_b, ↓fNotT_b, ↓fOrT_b, ↓fAnd_b, ↓fNot_b, ↓fIf_b, ↓lCons_b, ↓fTup_b, ↓fSl_b, ↓fCall_b, ↓sSeq_b, ↓sExpr_b, ↓sRet_b, ↓sIf_b, ↓sSet_b, ↓sAsg_b, ↓iSeq_b, ↓iRange1_b, ↓sFor_b, ↓fNew_b, ↓nLst_b, ↓nList_b, ↓fAppend_b, ↓fPopAt_b, ↓nLc_b, ↓nListRange_b, ↓sPar_b, ↓sParE_b, ↓sParN_b, ↓sFldSet_b, ↓fC_b, ↓lNil_b, ↓sNil_b, ↓fYes_b, ↓tgName_b, ↓tgNil_b, ↓tgCons_b, ↓tgTup_b, ↓lcRun_b, ↓fPart_n, ↓fPart_s, ↓frz_val, ↓lrs_val, ↓liftS_b, ↓liftN_b, ↓seqOf_t_b, ↓seqOf_l_b, ↓lstOf_l_b, ↓intOf_i_b, ↓blOf_b_b, ↓tru_n_b, ↓tru_b_b, ↓tru_i_b, ↓tru_t_b, ↓tru_l_b, ↓pLen_t_b, ↓pLen_l_b, ↓pLen_s_b, ↓pTuple_t_b, ↓pTuple_l_b, ↓pAdd_i_b, ↓pNeg_i_b, ↓pLt_i_b, ↓pGt_i_b, ↓pGe_i_b, ↓pMax2_i_b, ↓pMin2_i_b, ↓pIs_nn_b, ↓pIs_in_b, ↓pIs_tn_b, ↓pIs_ln_b, ↓pIs_bn_b, ↓pIs_bb_b, ↓pNotIs_nn_b, ↓pNotIs_in_b, ↓pNotIs_tn_b, ↓pNotIs_ln_b, ↓pNotIs_bn_b, ↓pNotIs_bb_b, ↓pCut_t_b, ↓pCut_l_b, ↓atI_0_b, ↓atI_1_b, ↓atI_2_b, ↓atI_3_b, ↓lg0_b, ↓lg1_b, ↓lg2_b, ↓lg3_b, ↓isi_bl_int_b, ↓isi_bl_bool_b, ↓isi_bl_tuple_b, ↓isi2_bl_b, ↓isi_int_int_b, ↓isi_int_bool_b, ↓isi_int_tuple_b, ↓isi2_int_b, ↓isi_str_int_b, ↓isi_str_bool_b, ↓isi_str_tuple_b, ↓isi2_str_b, ↓isi_tup_int_b, ↓isi_tup_bool_b, ↓isi_tup_tuple_b, ↓isi2_tup_b, ↓isi_lst_int_b, ↓isi_lst_bool_b, ↓isi_lst_tuple_b, ↓isi2_lst_b, rs_val, outV_rt, outV_nx, backE_n, backE_u, wipeE_n, wipeE_u, froOf_f, froOf_u, seqOf_t, seqOf_l, lstOf_l, intOf_i, blOf_b, tru_n, tru_b, tru_i, tru_t, tru_l, pLen_t, pLen_l, pLen_s, pTuple_t, pTuple_l, pAdd_i, pNeg_i, pLt_i, pGt_i, pGe_i, pMax2_i, pMin2_i, pIs_nn, pIs_in, pIs_tn, pIs_ln, pIs_bn, pIs_bb, pNotIs_nn, pNotIs_in, pNotIs_tn, pNotIs_ln, pNotIs_bn, pNotIs_bb, pCut_t, pCut_l, atI_0, atI_1, atI_2, atI_3, lg0, lg1, lg2, lg3, isi_bl_int, isi_bl_bool, isi_bl_tuple, isi2_bl, isi_int_int, isi_int_bool, isi_int_tuple, isi2_int, isi_str_int, isi_str_bool, isi_str_tuple, isi2_str, isi_tup_int, isi_tup_bool, isi_tup_tuple, isi2_tup, isi_lst_int, isi_lst_bool, isi_lst_tuple, isi2_lst, pIx_t, pIx_l, pAdd_t, pAdd_l, ↓keyOf1_ib, keyOf1_i, ↓T.bind_assoc, bind_ret', bind_bad', bind_exc', bind_draw', lift_some, lift_none', big, below62', below24', below64', below29', mul_ok, div_ok, mod_ok, ↓sRaise_b, ↓sTryB_b, mDrop_b, ↓mArgs_bb, mArgs_b, envB_self, tryT_ret, tryT_exc, tryT_draw, List.length_cons, List.length_nil, List.map_cons, List.map_nil, List.append_nil, List.nil_append, List.cons_append, List.replicate_succ, List.replicate_zero, List.isEmpty_nil, List.isEmpty_cons, Option.map_some, Option.map_none, Option.bind_some, Option.bind_none, true_and, and_true, and_self, false_and, and_false, true_or, or_true, false_or, or_false, not_true_eq_false, not_false_eq_true, Bool.not_true, Bool.not_false, Bool.true_and, Bool.and_true, Bool.false_and, Bool.and_false, Bool.true_or, Bool.or_true, Bool.or_false, Bool.false_or, decide_true, decide_false, decide_eq_true_eq, decide_eq_false_iff_not, if_true, if_false, ite_true, ite_false, ↓reduceIte, Int.natCast_nonneg, Nat.reduceLT, Nat.reduceLeDiff, Nat.reduceEqDiff, Nat.reduceSub, Nat.reduceMul, Int.reduceLT, Int.reduceLE, Int.reduceEq, Int.reduceAdd, Int.reduceSub, Int.reduceMul, Int.reduceNeg, Int.reducePow, List.length_map, List.length_range, eq_self, ne_eq, Classical.not_not, Bool.not_eq_true, Bool.not_eq_false, Bool.false_eq_true, reduceCtorEq, Int.toNat_natCast, Nat.add_eq, Nat.reduceAdd, Int.cast_ofNat_Int, Int.reduceToNat, Int.zero_add, Int.add_zero, Nat.zero_add, Nat.add_zero, Nat.sub_zero, Int.sub_zero, Int.natCast_zero, Int.natCast_one, Int.natCast_add, Int.natCast_succ, beq_self_eq_true, Bool.decide_eq_true, Bool.decide_eq_false, ↓vf0, ↓vm0, rf0, rm0, ↓qf0, ↓qm0, ↓zf0, ↓zm0, ↓im0, ss0, ↓vf1, ↓vm1, rf1, rm1, ↓qf1, ↓qm1, ↓zf1, ↓zm1, ↓im1, ss1, e, h]
  · unfold f_is_below b_is_below; refine t_eq ?_; simp -dsimp only [fnOf, List.reduceReplicate, ↓fBin_b, ↓fUn_b, ↓fTru_b, ↓fBlT_b, ↓fNotT_b, ↓fOrT_b, ↓fAnd_b, ↓fNot_b, ↓fIf_b, ↓lCons_b, ↓fTup_b, ↓fSl_b, ↓fCall_b, ↓sSeq_b, ↓sExpr_b, ↓sRet_b, ↓sIf_b, ↓sSet_b, ↓sAsg_b, ↓iSeq_b, ↓iRange1_b, ↓sFor_b, ↓fNew_b, ↓nLst_b, ↓nList_b, ↓fAppend_b, ↓fPopAt_b, ↓nLc_b, ↓nListRange_b, ↓sPar_b, ↓sParE_b, ↓sParN_b, ↓sFldSet_b, ↓fC_b, ↓lNil_b, ↓sNil_b, ↓fYes_b, ↓tgName_b, ↓tgNil_b, ↓tgCons_b, ↓tgTup_b, ↓lcRun_b, ↓fPart_n, ↓fPart_s, ↓frz_val, ↓lrs_val, ↓liftS_b, ↓liftN_b, ↓seqOf_t_b, ↓seqOf_l_b, ↓lstOf_l_b, ↓intOf_i_b, ↓blOf_b_b, ↓tru_n_b, ↓tru_b_b, ↓tru_i_b, ↓tru_t_b, ↓tru_l_b, ↓pLen_t_b, ↓pLen_l_b, ↓pLen_s_b, ↓pTuple_t_b, ↓pTuple_l_b, ↓pAdd_i_b, ↓pNeg_i_b, ↓pLt_i_b, ↓pGt_i_b, ↓pGe_i_b, ↓pMax2_i_b, ↓pMin2_i_b, ↓pIs_nn_b, ↓pIs_in_b, ↓pIs_tn_b, ↓pIs_ln_b, ↓pIs_bn_b, ↓pIs_bb_b, ↓pNotIs_nn_b, ↓pNotIs_in_b, ↓pNotIs_tn_b, ↓pNotIs_ln_b, ↓pNotIs_bn_b, ↓pNotIs_bb_b, ↓pCut_t_b, ↓pCut_l_b, ↓atI_0_b, ↓atI_1_b, ↓atI_2_b, ↓atI_3_b, ↓lg0_b, ↓lg1_b, ↓lg2_b, ↓lg3_b, ↓isi_bl_int_b, ↓isi_bl_bool_b, ↓isi_bl_tuple_b, ↓isi2_bl_b, ↓isi_int_int_b, ↓isi_int_bool_b, ↓isi_int_tuple_b, ↓isi2_int_b, ↓isi_str_int_b, ↓isi_str_bool_b, ↓isi_str_tuple_b, ↓isi2_str_b, ↓isi_tup_int_b, ↓isi_tup_bool_b, ↓isi_tup_tuple_b, ↓isi2_tup_b, ↓isi_lst_int_b, ↓isi_lst_bool_b, ↓isi_lst_tuple_b, ↓isi2_lst_b, rs_val, outV_rt, outV_nx, backE_n, backE_u, wipeE_n, wipeE_u, froOf_f, froOf_u, seqOf_t, seqOf_l, lstOf_l, intOf_i, blOf_b, tru_n, tru_b, tru_i, tru_t, tru_l, pLen_t, pLen_l, pLen_s, pTuple_t, pTuple_l, pAdd_i, pNeg_i, pLt_i, pGt_i, pGe_i, pMax2_i, pMin2_i, pIs_nn, pIs_in, pIs_tn, pIs_ln, pIs_bn, pIs_bb, pNotIs_nn, pNotIs_in, pNotIs_tn, pNotIs_ln, pNotIs_bn, pNotIs_bb, pCut_t, pCut_l, atI_0, atI_1, atI_2, atI_3, lg0, lg1, lg2, lg3, isi_bl_int, isi_bl_bool, isi_bl_tuple, isi2_bl, isi_int_int, isi_int_bool, isi_int_tuple, isi2_int, isi_str_int, isi_str_bool, isi_str_tuple, isi2_str, isi_tup_int, isi_tup_bool, isi_tup_tuple, isi2_tup, isi_lst_int, isi_lst_bool, isi_lst_tuple, isi2_lst, pIx_t, pIx_l, pAdd_t, pAdd_l, ↓keyOf1_ib, keyOf1_i, ↓T.bind_assoc, bind_ret', bind_bad', bind_exc', bind_draw', lift_some, lift_none', big, below62', below24', below64', below29', mul_ok, div_ok, mod_ok, ↓sRaise_b, ↓sTryB_b, mDrop_b, ↓mArgs_bb, mArgs_b, envB_self, tryT_ret, tryT_exc, tryT_draw, List.length_cons, List.length_nil, List.map_cons, List.map_nil, List.append_nil, List.nil_append, List.cons_append, List.replicate_succ, List.replicate_zero, List.isEmpty_nil, List.isEmpty_cons, Option.map_some, Option.map_none, Option.bind_some, Option.bind_none, true_and, and_true, and_self, false_and, and_false, true_or, or_true, false_or, or_false, not_true_eq_false, not_false_eq_true, Bool.not_true, Bool.not_false, Bool.true_and, Bool.and_true, Bool.false_and, Bool.and_false, Bool.true_or, Bool.or_true, Bool.or_false, Bool.false_or, decide_true, decide_false, decide_eq_true_eq, decide_eq_false_iff_not, if_true, if_false, ite_true, ite_false, ↓reduceIte, Int.natCast_nonneg, Nat.reduceLT, Nat.reduceLeDiff, Nat.reduceEqDiff, Nat.reduceSub, Nat.reduceMul, Int.reduceLT, Int.reduceLE, Int.reduceEq, Int.reduceAdd, Int.reduceSub, Int.reduceMul, Int.reduceNeg, Int.reducePow, List.length_map, List.length_range, eq_self, ne_eq, Classical.not_not, Bool.not_eq_true, Bool.not_eq_false, Bool.false_eq_true, reduceCtorEq, Int.toNat_natCast, Nat.add_eq, Nat.reduceAdd, Int.cast_ofNat_Int, Int.reduceToNat, Int.zero_add, Int.add_zero, Nat.zero_add, Nat.add_zero, Nat.sub_zero, Int.sub_zero, Int.natCast_zero, Int.natCast_one, Int.natCast_add, Int.natCast_succ, beq_self_eq_true, Bool.decide_eq_true, Bool.decide_eq_false, ↓vf0, ↓vm0, rf0, rm0, ↓qf0, ↓qm0, ↓zf0, ↓zm0, ↓im0, ss0, ↓vf1, ↓vm1, rf1, rm1, ↓qf1, ↓qm1, ↓zf1, ↓zm1, ↓im1, ss1, e, h]
theorem is_below_o {t : AV} {n : Int} (h : (tyName t).isSome = true) : f_is_below [t, .int n] = .ret (.bl (belowB n t)) := by
  cases t with
  | int i => exact is_below_i
  | ins c xs => cases h
  | dic ks xs => cases h
  | box => cases h
  | scr ns => cases h
  | any => cases h
  | _ =>
    have e := is_whole_n (l := 0) h rfl
    unfold f_is_below b_is_below; refine t_eq ?_; simp -dsimp only [fnOf, List.reduceReplicate, ↓fBin_b, ↓fUn_b, ↓fTru_b, ↓fBlT_b, ↓fNotT_b, ↓fOrT_b, ↓fAnd_b, ↓fNot_b, ↓fIf_b, ↓lCons_b, ↓fTup_b, ↓fSl_b, ↓fCall_b, ↓sSeq_b, ↓sExpr_b, ↓sRet_b, ↓sIf_b, ↓sSet_b, ↓sAsg_b, ↓iSeq_b, ↓iRange1_b, ↓sFor_b, ↓fNew_b, ↓nLst_b, ↓nList_b, ↓fAppend_b, ↓fPopAt_b, ↓nLc_b, ↓nListRange_b, ↓sPar_b, ↓sParE_b, ↓sParN_b, ↓sFldSet_b, ↓fC_b, ↓lNil_b, ↓sNil_b, ↓fYes_b, ↓tgName_b, ↓tgNil_b, ↓tgCons_b, ↓tgTup_b, ↓lcRun_b, ↓fPart_n, ↓fPart_s, ↓frz_val, ↓lrs_val, ↓liftS_b, ↓liftN_b, ↓seqOf_t_b, ↓seqOf_l_b, ↓lstOf_l_b, ↓intOf_i_b, ↓blOf_b_b, ↓tru_n_b, ↓tru_b_b, ↓tru_i_b, ↓tru_t_b, ↓tru_l_b, ↓pLen_t_b, ↓pLen_l_b, ↓pLen_s_b, ↓pTuple_t_b, ↓pTuple_l_b, ↓pAdd_i_b, ↓pNeg_i_b, ↓pLt_i_b, ↓pGt_i_b, ↓pGe_i_b, ↓pMax2_i_b, ↓pMin2_i_b, ↓pIs_nn_b, ↓pIs_in_b, ↓pIs_tn_b, ↓pIs_ln_b, ↓pIs_bn_b, ↓pIs_bb_b, ↓pNotIs_nn_b, ↓pNotIs_in_b, ↓pNotIs_tn_b, ↓pNotIs_ln_b, ↓pNotIs_bn_b, ↓pNotIs_bb_b, ↓pCut_t_b, ↓pCut_l_b, ↓atI_0_b, ↓atI_1_b, ↓atI_2_b, ↓atI_3_b, ↓lg0_b, ↓lg1_b, ↓lg2_b, ↓lg3_b, ↓isi_bl_int_b, ↓isi_bl_bool_b, ↓isi_bl_tuple_b, ↓isi2_bl_b, ↓isi_int_int_b, ↓isi_int_bool_b, ↓isi_int_tuple_b, ↓isi2_int_b, ↓isi_str_int_b, ↓isi_str_bool_b, ↓isi_str_tuple_b, ↓isi2_str_b, ↓isi_tup_int_b, ↓isi_tup_bool_b, ↓isi_tup_tuple_b, ↓isi2_tup_b, ↓isi_lst_int_b, ↓isi_lst_bool_b, ↓isi_lst_tuple_b, ↓isi2_lst_b, rs_val, outV_rt, outV_nx, backE_n, backE_u, wipeE_n, wipeE_u, froOf_f, froOf_u, seqOf_t, seqOf_l, lstOf_l, intOf_i, blOf_b, tru_n, tru_b, tru_i, tru_t, tru_l, pLen_t, pLen_l, pLen_s, pTuple_t, pTuple_l, pAdd_i, pNeg_i, pLt_i, pGt_i, pGe_i, pMax2_i, pMin2_i, pIs_nn, pIs_in, pIs_tn, pIs_ln, pIs_bn, pIs_bb, pNotIs_nn, pNotIs_in, pNotIs_tn, pNotIs_ln, pNotIs_bn, pNotIs_bb, pCut_t, pCut_l, atI_0, atI_1, atI_2, atI_3, lg0, lg1, lg2, lg3, isi_bl_int, isi_bl_bool, isi_bl_tuple, isi2_bl, isi_int_int, isi_int_bool, isi_int_tuple, isi2_int, isi_str_int, isi_str_bool, isi_str_tuple, isi2_str, isi_tup_int, isi_tup_bool, isi_tup_tuple, isi2_tup, isi_lst_int, isi_lst_bool, isi_lst_tuple, isi2_lst, pIx_t, pIx_l, pAdd_t, pAdd_l, ↓keyOf1_ib, keyOf1_i, ↓T.bind_assoc, bind_ret', bind_bad', bind_exc', bind_draw', lift_some, lift_none', big, below62', below24', below64', below29', mul_ok, div_ok, mod_ok, ↓sRaise_b, ↓sTryB_b, mDrop_b, ↓mArgs_bb, mArgs_b, envB_self, tryT_ret, tryT_exc, tryT_draw, List.length_cons, List.length_nil, List.map_cons, List.map_nil, List.append_nil, List.nil_append, List.cons_append, List.replicate_succ, List.replicate_zero, List.isEmpty_nil, List.isEmpty_cons, Option.map_some, Option.map_none, Option.bind_some, Option.bind_none, true_and, and_true, and_self, false_and, and_false, true_or, or_true, false_or, or_false, not_true_eq_false, not_false_eq_true, Bool.not_true, Bool.not_false, Bool.true_and, Bool.and_true, Bool.false_and, Bool.and_false, Bool.true_or, Bool.or_true, Bool.or_false, Bool.false_or, decide_true, decide_false, decide_eq_true_eq, decide_eq_false_iff_not, if_true, if_false, ite_true, ite_false, ↓reduceIte, Int.natCast_nonneg, Nat.reduceLT, Nat.reduceLeDiff, Nat.reduceEqDiff, Nat.reduceSub, Nat.reduceMul, Int.reduceLT, Int.reduceLE, Int.reduceEq, Int.reduceAdd, Int.reduceSub, Int.reduceMul, Int.reduceNeg, Int.reducePow, List.length_map, List.length_range, eq_self, ne_eq, Classical.not_not, Bool.not_eq_true, Bool.not_eq_false, Bool.false_eq_true, reduceCtorEq, Int.toNat_natCast, Nat.add_eq, Nat.reduceAdd, Int.cast_ofNat_Int, Int.reduceToNat, Int.zero_add, Int.add_zero, Nat.zero_add, Nat.add_zero, Nat.sub_zero, Int.sub_zero, Int.natCast_zero, Int.natCast_one, Int.natCast_add, Int.natCast_succ, beq_self_eq_true, Bool.decide_eq_true, Bool.decide_eq_false, ↓vf0, ↓vm0, rf0, rm0, ↓qf0, ↓qm0, ↓zf0, ↓zm0, ↓im0, ss0, ↓vf1, ↓vm1, rf1, rm1, ↓qf1, ↓qm1, ↓zf1, ↓zm1, ↓im1, ss1, e, belowB]
theorem bsOf_map {α : Type} (q : α → Bool) : ∀ xs : List α, bsOf (xs.map fun x => AV.bl (q x)) = some (xs.map q)
  | [] => rfl
  | x :: r => by
    rw [List.map_cons, List.map_cons]
    show (bsOf (r.map fun x => AV.bl (q x))).map _ = _
    rw [bsOf_map q r]
    rfl
theorem pAll_map {α : Type} (q : α → Bool) (xs : List α) : pAll (.lst (xs.map fun x => AV.bl (q x))) = some (.bl (xs.all q)) := by
  show (bsOf (xs.map fun x => AV.bl (q x))).map _ = _
  rw [bsOf_map, Option.map_some, List.all_map]
  rfl
theorem are_spots_no {t : AV} {n : Int} (h : (tyName t).isSome = true) (hs : seqOf t = none) : f_are_spots [t, .int n] = .ret (.bl false) := by
  have e := is_seq_o h
  rw [hs, Option.isSome_none] at e
  unfold f_are_spots b_are_spots; refine t_eq ?_; simp -dsimp only [fnOf, List.reduceReplicate, ↓fBin_b, ↓fUn_b, ↓fTru_b, ↓fNotT_b, ↓fOrT_b, ↓lCons_b, ↓fCall_b, ↓sSeq_b, ↓sRet_b, ↓sIf_b, ↓iSeq_b, ↓fNew_b, ↓nLc_b, ↓fC_b, ↓lNil_b, ↓sNil_b, ↓fYes_b, ↓tgName_b, ↓tgNil_b, ↓tgCons_b, ↓tgTup_b, ↓lcRun_b, ↓frz_val, ↓lrs_val, ↓liftS_b, ↓liftN_b, ↓seqOf_t_b, ↓seqOf_l_b, ↓lstOf_l_b, ↓intOf_i_b, ↓blOf_b_b, ↓tru_n_b, ↓tru_b_b, ↓tru_i_b, ↓tru_t_b, ↓tru_l_b, ↓pLen_t_b, ↓pLen_l_b, ↓pLen_s_b, ↓pAdd_i_b, ↓atI_0_b, ↓atI_1_b, ↓atI_2_b, ↓atI_3_b, ↓lg0_b, ↓lg1_b, ↓lg2_b, ↓lg3_b, rs_val, outV_rt, outV_nx, backE_n, backE_u, wipeE_n, wipeE_u, froOf_f, froOf_u, seqOf_t, seqOf_l, lstOf_l, intOf_i, blOf_b, tru_n, tru_b, tru_i, tru_t, tru_l, pLen_t, pLen_l, pLen_s, pAdd_i, atI_0, atI_1, atI_2, atI_3, lg0, lg1, lg2, lg3, pIx_t, pIx_l, pAdd_t, pAdd_l, ↓keyOf1_ib, keyOf1_i, ↓T.bind_assoc, bind_ret', bind_bad', bind_exc', bind_draw', lift_some, lift_none', big, below62', below24', below64', below29', mul_ok, div_ok, mod_ok, ↓mArgs_bb, envB_self, tryT_ret, tryT_exc, tryT_draw, List.length_cons, List.length_nil, List.map_cons, List.map_nil, List.append_nil, List.nil_append, List.cons_append, List.replicate_succ, List.replicate_zero, List.isEmpty_nil, List.isEmpty_cons, Option.map_some, Option.map_none, Option.bind_some, Option.bind_none, true_and, and_true, and_self, false_and, and_false, true_or, or_true, false_or, or_false, not_true_eq_false, not_false_eq_true, Bool.not_true, Bool.not_false, Bool.true_and, Bool.and_true, Bool.false_and, Bool.and_false, Bool.true_or, Bool.or_true, Bool.or_false, Bool.false_or, decide_true, decide_false, decide_eq_true_eq, decide_eq_false_iff_not, if_true, if_false, ite_true, ite_false, ↓reduceIte, Int.natCast_nonneg, Nat.reduceLT, Nat.reduceLeDiff, Nat.reduceEqDiff, Nat.reduceSub, Nat.reduceMul, Int.reduceLT, Int.reduceLE, Int.reduceEq, Int.reduceAdd, Int.reduceSub, Int.reduceMul, Int.reduceNeg, Int.reducePow, List.length_map, List.length_range, eq_self, ne_eq, Classical.not_not, Bool.not_eq_true, Bool.not_eq_false, Bool.false_eq_true, reduceCtorEq, Int.toNat_natCast, Nat.add_eq, Nat.reduceAdd, Int.cast_ofNat_Int, Int.reduceToNat, Int.zero_add, Int.add_zero, Nat.zero_add, Nat.add_zero, Nat.sub_zero, Int.sub_zero, Int.natCast_zero, Int.natCast_one, Int.natCast_add, Int.natCast_succ, beq_self_eq_true, Bool.decide_eq_true, Bool.decide_eq_false, ↓vf0, ↓vm0, rf0, rm0, ↓qf0, ↓qm0, ↓zf0, ↓zm0, ↓im0, ss0, ↓vf1, ↓vm1, rf1, rm1, ↓qf1, ↓qm1, ↓zf1, ↓zm1, ↓im1, ss1, ↓vf2, ↓vm2, rf2, rm2, ↓qf2, ↓qm2, ↓zf2, ↓zm2, ↓im2, ss2, S0t0_are_spots, U0t0_are_spots, S0_are_spots, S1_are_spots, U1_are_spots, U0_are_spots, e]
theorem spots_c {t : AV} {xs : List AV} {n : Int} (hs : seqOf t = some xs) (hl : xs.length < 1000) (hp : ∀ x ∈ xs, (tyName x).isSome = true) : C0_are_spots [.fro t, .fro (.int n), .un] = .ret (xs.map fun x => AV.bl (belowB n x), [.fro t, .fro (.int n), .un]) := by
  refine nLc_M (l := xs) id (fun x => AV.bl (belowB n x)) (by refine t_eq ?_; simp -dsimp only [↓fBin_b, ↓fUn_b, ↓fTru_b, ↓fNotT_b, ↓fOrT_b, ↓lCons_b, ↓fCall_b, ↓sSeq_b, ↓sRet_b, ↓sIf_b, ↓iSeq_b, ↓fNew_b, ↓nLc_b, ↓fC_b, ↓lNil_b, ↓sNil_b, ↓fYes_b, ↓tgName_b, ↓tgNil_b, ↓tgCons_b, ↓tgTup_b, ↓lcRun_b, ↓frz_val, ↓lrs_val, ↓liftS_b, ↓liftN_b, ↓seqOf_t_b, ↓seqOf_l_b, ↓lstOf_l_b, ↓intOf_i_b, ↓blOf_b_b, ↓tru_n_b, ↓tru_b_b, ↓tru_i_b, ↓tru_t_b, ↓tru_l_b, ↓pLen_t_b, ↓pLen_l_b, ↓pLen_s_b, ↓pAdd_i_b, ↓atI_0_b, ↓atI_1_b, ↓atI_2_b, ↓atI_3_b, ↓lg0_b, ↓lg1_b, ↓lg2_b, ↓lg3_b, rs_val, outV_rt, outV_nx, backE_n, backE_u, wipeE_n, wipeE_u, froOf_f, froOf_u, seqOf_t, seqOf_l, lstOf_l, intOf_i, blOf_b, tru_n, tru_b, tru_i, tru_t, tru_l, pLen_t, pLen_l, pLen_s, pAdd_i, atI_0, atI_1, atI_2, atI_3, lg0, lg1, lg2, lg3, pIx_t, pIx_l, pAdd_t, pAdd_l, ↓keyOf1_ib, keyOf1_i, ↓T.bind_assoc, bind_ret', bind_bad', bind_exc', bind_draw', lift_some, lift_none', big, below62', below24', below64', below29', mul_ok, div_ok, mod_ok, ↓mArgs_bb, envB_self, tryT_ret, tryT_exc, tryT_draw, List.length_cons, List.length_nil, List.map_cons, List.map_nil, List.append_nil, List.nil_append, List.cons_append, List.replicate_succ, List.replicate_zero, List.isEmpty_nil, List.isEmpty_cons, Option.map_some, Option.map_none, Option.bind_some, Option.bind_none, true_and, and_true, and_self, false_and, and_false, true_or, or_true, false_or, or_false, not_true_eq_false, not_false_eq_true, Bool.not_true, Bool.not_false, Bool.true_and, Bool.and_true, Bool.false_and, Bool.and_false, Bool.true_or, Bool.or_true, Bool.or_false, Bool.false_or, decide_true, decide_false, decide_eq_true_eq, decide_eq_false_iff_not, if_true, if_false, ite_true, ite_false, ↓reduceIte, Int.natCast_nonneg, Nat.reduceLT, Nat.reduceLeDiff, Nat.reduceEqDiff, Nat.reduceSub, Nat.reduceMul, Int.reduceLT, Int.reduceLE, Int.reduceEq, Int.reduceAdd, Int.reduceSub, Int.reduceMul, Int.reduceNeg, Int.reducePow, List.length_map, List.length_range, eq_self, ne_eq, Classical.not_not, Bool.not_eq_true, Bool.not_eq_false, Bool.false_eq_true, reduceCtorEq, Int.toNat_natCast, Nat.add_eq, Nat.reduceAdd, Int.cast_ofNat_Int, Int.reduceToNat, Int.zero_add, Int.add_zero, Nat.zero_add, Nat.add_zero, Nat.sub_zero, Int.sub_zero, Int.natCast_zero, Int.natCast_one, Int.natCast_add, Int.natCast_succ, beq_self_eq_true, Bool.decide_eq_true, Bool.decide_eq_false, ↓vf0, ↓vm0, rf0, rm0, ↓qf0, ↓qm0, ↓zf0, ↓zm0, ↓im0, ss0, ↓vf1, ↓vm1, rf1, rm1, ↓qf1, ↓qm1, ↓zf1, ↓zm1, ↓im1, ss1, ↓vf2, ↓vm2, rf2, rm2, ↓qf2, ↓qm2, ↓zf2, ↓zm2, ↓im2, ss2, hs, List.map_id]; (try simp only [T.bind_ret])) (Nat.lt_trans hl (by decide)) rfl fun b hb => ⟨[.fro t, .fro (.int n), .fro b], ?_, rfl⟩
  have e := is_below_o (n := n) (hp b hb)
  refine t_eq ?_; simp -dsimp only [↓fBin_b, ↓fUn_b, ↓fTru_b, ↓fNotT_b, ↓fOrT_b, ↓lCons_b, ↓fCall_b, ↓sSeq_b, ↓sRet_b, ↓sIf_b, ↓iSeq_b, ↓fNew_b, ↓nLc_b, ↓fC_b, ↓lNil_b, ↓sNil_b, ↓fYes_b, ↓tgName_b, ↓tgNil_b, ↓tgCons_b, ↓tgTup_b, ↓lcRun_b, ↓frz_val, ↓lrs_val, ↓liftS_b, ↓liftN_b, ↓seqOf_t_b, ↓seqOf_l_b, ↓lstOf_l_b, ↓intOf_i_b, ↓blOf_b_b, ↓tru_n_b, ↓tru_b_b, ↓tru_i_b, ↓tru_t_b, ↓tru_l_b, ↓pLen_t_b, ↓pLen_l_b, ↓pLen_s_b, ↓pAdd_i_b, ↓atI_0_b, ↓atI_1_b, ↓atI_2_b, ↓atI_3_b, ↓lg0_b, ↓lg1_b, ↓lg2_b, ↓lg3_b, rs_val, outV_rt, outV_nx, backE_n, backE_u, wipeE_n, wipeE_u, froOf_f, froOf_u, seqOf_t, seqOf_l, lstOf_l, intOf_i, blOf_b, tru_n, tru_b, tru_i, tru_t, tru_l, pLen_t, pLen_l, pLen_s, pAdd_i, atI_0, atI_1, atI_2, atI_3, lg0, lg1, lg2, lg3, pIx_t, pIx_l, pAdd_t, pAdd_l, ↓keyOf1_ib, keyOf1_i, ↓T.bind_assoc, bind_ret', bind_bad', bind_exc', bind_draw', lift_some, lift_none', big, below62', below24', below64', below29', mul_ok, div_ok, mod_ok, ↓mArgs_bb, envB_self, tryT_ret, tryT_exc, tryT_draw, List.length_cons, List.length_nil, List.map_cons, List.map_nil, List.append_nil, List.nil_append, List.cons_append, List.replicate_succ, List.replicate_zero, List.isEmpty_nil, List.isEmpty_cons, Option.map_some, Option.map_none, Option.bind_some, Option.bind_none, true_and, and_true, and_self, false_and, and_false, true_or, or_true, false_or, or_false, not_true_eq_false, not_false_eq_true, Bool.not_true, Bool.not_false, Bool.true_and, Bool.and_true, Bool.false_and, Bool.and_false, Bool.true_or, Bool.or_true, Bool.or_false, Bool.false_or, decide_true, decide_false, decide_eq_true_eq, decide_eq_false_iff_not, if_true, if_false, ite_true, ite_false, ↓reduceIte, Int.natCast_nonneg, Nat.reduceLT, Nat.reduceLeDiff, Nat.reduceEqDiff, Nat.reduceSub, Nat.reduceMul, Int.reduceLT, Int.reduceLE, Int.reduceEq, Int.reduceAdd, Int.reduceSub, Int.reduceMul, Int.reduceNeg, Int.reducePow, List.length_map, List.length_range, eq_self, ne_eq, Classical.not_not, Bool.not_eq_true, Bool.not_eq_false, Bool.false_eq_true, reduceCtorEq, Int.toNat_natCast, Nat.add_eq, Nat.reduceAdd, Int.cast_ofNat_Int, Int.reduceToNat, Int.zero_add, Int.add_zero, Nat.zero_add, Nat.add_zero, Nat.sub_zero, Int.sub_zero, Int.natCast_zero, Int.natCast_one, Int.natCast_add, Int.natCast_succ, beq_self_eq_true, Bool.decide_eq_true, Bool.decide_eq_false, ↓vf0, ↓vm0, rf0, rm0, ↓qf0, ↓qm0, ↓zf0, ↓zm0, ↓im0, ss0, ↓vf1, ↓vm1, rf1, rm1, ↓qf1, ↓qm1, ↓zf1, ↓zm1, ↓im1, ss1, ↓vf2, ↓vm2, rf2, rm2, ↓qf2, ↓qm2, ↓zf2, ↓zm2, ↓im2, ss2, e, id]; (try simp only [T.bind_ret])
theorem are_spots_bad {t : AV} {xs : List AV} {n : Int} (h : (tyName t).isSome = true) (hs : seqOf t = some xs) (hl : xs.length < 1000) (hp : ∀ x ∈ xs, (tyName x).isSome = true) (hb : xs.all (belowB n) = false) : f_are_spots [t, .int n] = .ret (.bl false) := by
  have e := is_seq_o h
  rw [hs, Option.isSome_some] at e
  have c := spots_c (n := n) hs hl hp
  have p := pAll_map (belowB n) xs
  rw [hb] at p
  unfold f_are_spots b_are_spots; refine t_eq ?_; simp -dsimp only [fnOf, List.reduceReplicate, ↓fBin_b, ↓fUn_b, ↓fTru_b, ↓fNotT_b, ↓fOrT_b, ↓lCons_b, ↓fCall_b, ↓sSeq_b, ↓sRet_b, ↓sIf_b, ↓iSeq_b, ↓fNew_b, ↓nLc_b, ↓fC_b, ↓lNil_b, ↓sNil_b, ↓fYes_b, ↓tgName_b, ↓tgNil_b, ↓tgCons_b, ↓tgTup_b, ↓lcRun_b, ↓frz_val, ↓lrs_val, ↓liftS_b, ↓liftN_b, ↓seqOf_t_b, ↓seqOf_l_b, ↓lstOf_l_b, ↓intOf_i_b, ↓blOf_b_b, ↓tru_n_b, ↓tru_b_b, ↓tru_i_b, ↓tru_t_b, ↓tru_l_b, ↓pLen_t_b, ↓pLen_l_b, ↓pLen_s_b, ↓pAdd_i_b, ↓atI_0_b, ↓atI_1_b, ↓atI_2_b, ↓atI_3_b, ↓lg0_b, ↓lg1_b, ↓lg2_b, ↓lg3_b, rs_val, outV_rt, outV_nx, backE_n, backE_u, wipeE_n, wipeE_u, froOf_f, froOf_u, seqOf_t, seqOf_l, lstOf_l, intOf_i, blOf_b, tru_n, tru_b, tru_i, tru_t, tru_l, pLen_t, pLen_l, pLen_s, pAdd_i, atI_0, atI_1, atI_2, atI_3, lg0, lg1, lg2, lg3, pIx_t, pIx_l, pAdd_t, pAdd_l, ↓keyOf1_ib, keyOf1_i, ↓T.bind_assoc, bind_ret', bind_bad', bind_exc', bind_draw', lift_some, lift_none', big, below62', below24', below64', below29', mul_ok, div_ok, mod_ok, ↓mArgs_bb, envB_self, tryT_ret, tryT_exc, tryT_draw, List.length_cons, List.length_nil, List.map_cons, List.map_nil, List.append_nil, List.nil_append, List.cons_append, List.replicate_succ, List.replicate_zero, List.isEmpty_nil, List.isEmpty_cons, Option.map_some, Option.map_none, Option.bind_some, Option.bind_none, true_and, and_true, and_self, false_and, and_false, true_or, or_true, false_or, or_false, not_true_eq_false, not_false_eq_true, Bool.not_true, Bool.not_false, Bool.true_and, Bool.and_true, Bool.false_and, Bool.and_false, Bool.true_or, Bool.or_true, Bool.or_false, Bool.false_or, decide_true, decide_false, decide_eq_true_eq, decide_eq_false_iff_not, if_true, if_false, ite_true, ite_false, ↓reduceIte, Int.natCast_nonneg, Nat.reduceLT, Nat.reduceLeDiff, Nat.reduceEqDiff, Nat.reduceSub, Nat.reduceMul, Int.reduceLT, Int.reduceLE, Int.reduceEq, Int.reduceAdd, Int.reduceSub, Int.reduceMul, Int.reduceNeg, Int.reducePow, List.length_map, List.length_range, eq_self, ne_eq, Classical.not_not, Bool.not_eq_true, Bool.not_eq_false, Bool.false_eq_true, reduceCtorEq, Int.toNat_natCast, Nat.add_eq, Nat.reduceAdd, Int.cast_ofNat_Int, Int.reduceToNat, Int.zero_add, Int.add_zero, Nat.zero_add, Nat.add_zero, Nat.sub_zero, Int.sub_zero, Int.natCast_zero, Int.natCast_one, Int.natCast_add, Int.natCast_succ, beq_self_eq_true, Bool.decide_eq_true, Bool.decide_eq_false, ↓vf0, ↓vm0, rf0, rm0, ↓qf0, ↓qm0, ↓zf0, ↓zm0, ↓im0, ss0, ↓vf1, ↓vm1, rf1, rm1, ↓qf1, ↓qm1, ↓zf1, ↓zm1, ↓im1, ss1, ↓vf2, ↓vm2, rf2, rm2, ↓qf2, ↓qm2, ↓zf2, ↓zm2, ↓im2, ss2, S0t0_are_spots, U0t0_are_spots, S0_are_spots, S1_are_spots, U1_are_spots, U0_are_spots, e, c, p]
theorem are_spots_il {l : List Int} {n : Int} (hl : l.length < 1000) (hb : ∀ x ∈ l, 0 ≤ x ∧ x < n) : f_are_spots [.lst (il l), .int n] = .ret (.bl (decide ((distN l : Int) = (l.length : Int)))) := by
  have e : f_is_sequence [.lst (il l)] = .ret (.bl true) := is_seq_o rfl
  have c := spots_c (t := .lst (il l)) (n := n) rfl (by rw [il_len]; exact hl) fun x hx => by
    obtain ⟨y, _, rfl⟩ := List.mem_map.mp hx
    rfl
  have p := pAll_map (belowB n) (il l)
  rw [show (il l).all (belowB n) = true from List.all_eq_true.mpr fun x hx => by
    obtain ⟨y, hy, rfl⟩ := List.mem_map.mp hx
    exact decide_eq_true (hb y hy)] at p
  have g : pLenSetG (.lst (il l)) = some (.int (distN l : Nat)) := by
    show (intsOf (il l)).bind _ = _
    rw [intsOf_il, Option.bind_some, if_pos (by omega)]
  have le : pLen (.lst (il l)) = some (.int l.length) := by
    show some (AV.int (il l).length) = _
    rw [il_len]
  have ee : pEq (.int (distN l : Nat)) (.int (l.length : Nat)) = some (.bl (decide ((distN l : Int) = (l.length : Int)))) := pEq_int _ _
  unfold f_are_spots b_are_spots; refine t_eq ?_; simp -dsimp only [fnOf, List.reduceReplicate, ↓fBin_b, ↓fUn_b, ↓fTru_b, ↓fNotT_b, ↓fOrT_b, ↓lCons_b, ↓fCall_b, ↓sSeq_b, ↓sRet_b, ↓sIf_b, ↓iSeq_b, ↓fNew_b, ↓nLc_b, ↓fC_b, ↓lNil_b, ↓sNil_b, ↓fYes_b, ↓tgName_b, ↓tgNil_b, ↓tgCons_b, ↓tgTup_b, ↓lcRun_b, ↓frz_val, ↓lrs_val, ↓liftS_b, ↓liftN_b, ↓seqOf_t_b, ↓seqOf_l_b, ↓lstOf_l_b, ↓intOf_i_b, ↓blOf_b_b, ↓tru_n_b, ↓tru_b_b, ↓tru_i_b, ↓tru_t_b, ↓tru_l_b, ↓pLen_t_b, ↓pLen_l_b, ↓pLen_s_b, ↓pAdd_i_b, ↓atI_0_b, ↓atI_1_b, ↓atI_2_b, ↓atI_3_b, ↓lg0_b, ↓lg1_b, ↓lg2_b, ↓lg3_b, rs_val, outV_rt, outV_nx, backE_n, backE_u, wipeE_n, wipeE_u, froOf_f, froOf_u, seqOf_t, seqOf_l, lstOf_l, intOf_i, blOf_b, tru_n, tru_b, tru_i, tru_t, tru_l, pLen_t, pLen_l, pLen_s, pAdd_i, atI_0, atI_1, atI_2, atI_3, lg0, lg1, lg2, lg3, pIx_t, pIx_l, pAdd_t, pAdd_l, ↓keyOf1_ib, keyOf1_i, ↓T.bind_assoc, bind_ret', bind_bad', bind_exc', bind_draw', lift_some, lift_none', big, below62', below24', below64', below29', mul_ok, div_ok, mod_ok, ↓mArgs_bb, envB_self, tryT_ret, tryT_exc, tryT_draw, List.length_cons, List.length_nil, List.map_cons, List.map_nil, List.append_nil, List.nil_append, List.cons_append, List.replicate_succ, List.replicate_zero, List.isEmpty_nil, List.isEmpty_cons, Option.map_some, Option.map_none, Option.bind_some, Option.bind_none, true_and, and_true, and_self, false_and, and_false, true_or, or_true, false_or, or_false, not_true_eq_false, not_false_eq_true, Bool.not_true, Bool.not_false, Bool.true_and, Bool.and_true, Bool.false_and, Bool.and_false, Bool.true_or, Bool.or_true, Bool.or_false, Bool.false_or, decide_true, decide_false, decide_eq_true_eq, decide_eq_false_iff_not, if_true, if_false, ite_true, ite_false, ↓reduceIte, Int.natCast_nonneg, Nat.reduceLT, Nat.reduceLeDiff, Nat.reduceEqDiff, Nat.reduceSub, Nat.reduceMul, Int.reduceLT, Int.reduceLE, Int.reduceEq, Int.reduceAdd, Int.reduceSub, Int.reduceMul, Int.reduceNeg, Int.reducePow, List.length_map, List.length_range, eq_self, ne_eq, Classical.not_not, Bool.not_eq_true, Bool.not_eq_false, Bool.false_eq_true, reduceCtorEq, Int.toNat_natCast, Nat.add_eq, Nat.reduceAdd, Int.cast_ofNat_Int, Int.reduceToNat, Int.zero_add, Int.add_zero, Nat.zero_add, Nat.add_zero, Nat.sub_zero, Int.sub_zero, Int.natCast_zero, Int.natCast_one, Int.natCast_add, Int.natCast_succ, beq_self_eq_true, Bool.decide_eq_true, Bool.decide_eq_false, ↓vf0, ↓vm0, rf0, rm0, ↓qf0, ↓qm0, ↓zf0, ↓zm0, ↓im0, ss0, ↓vf1, ↓vm1, rf1, rm1, ↓qf1, ↓qm1, ↓zf1, ↓zm1, ↓im1, ss1, ↓vf2, ↓vm2, rf2, rm2, ↓qf2, ↓qm2, ↓zf2, ↓zm2, ↓im2, ss2, S0t0_are_spots, U0t0_are_spots, S0_are_spots, S1_are_spots, U1_are_spots, U0_are_spots, e, c, p, g, le, ee, il_len]
theorem distN_nodup {l : List Int} (h : l.Nodup) : distN l = l.length := by
  unfold distN
  rw [firstMet_nodup l h l.length (Nat.le_refl _), List.take_length]
theorem is_row_f {t : AV} {n : Int} (e : pIsi "tuple" t = some (.bl false)) : f_is_row [t, .int n] = .ret (.bl false) := by
  unfold f_is_row b_is_row; refine t_eq ?_; simp -dsimp only [fnOf, List.reduceReplicate, ↓fBin_b, ↓fUn_b, ↓fTru_b, ↓fBlT_b, ↓fNotT_b, ↓fOrT_b, ↓fAnd_b, ↓lCons_b, ↓fCall_b, ↓sSeq_b, ↓sRet_b, ↓sIf_b, ↓sAsg_b, ↓iSeq_b, ↓fC_b, ↓lNil_b, ↓sNil_b, ↓fYes_b, ↓tgName_b, ↓tgNil_b, ↓tgCons_b, ↓tgTup_b, ↓lcRun_b, ↓frz_val, ↓lrs_val, ↓liftS_b, ↓liftN_b, ↓seqOf_t_b, ↓seqOf_l_b, ↓lstOf_l_b, ↓intOf_i_b, ↓blOf_b_b, ↓tru_n_b, ↓tru_b_b, ↓tru_i_b, ↓tru_t_b, ↓tru_l_b, ↓pLen_t_b, ↓pLen_l_b, ↓pLen_s_b, ↓pAdd_i_b, ↓atI_0_b, ↓atI_1_b, ↓atI_2_b, ↓atI_3_b, ↓lg0_b, ↓lg1_b, ↓lg2_b, ↓lg3_b, ↓isi_bl_tuple_b, ↓isi_int_tuple_b, ↓isi_str_tuple_b, ↓isi_tup_tuple_b, ↓isi_lst_tuple_b, rs_val, outV_rt, outV_nx, backE_n, backE_u, wipeE_n, wipeE_u, froOf_f, froOf_u, seqOf_t, seqOf_l, lstOf_l, intOf_i, blOf_b, tru_n, tru_b, tru_i, tru_t, tru_l, pLen_t, pLen_l, pLen_s, pAdd_i, atI_0, atI_1, atI_2, atI_3, lg0, lg1, lg2, lg3, isi_bl_tuple, isi_int_tuple, isi_str_tuple, isi_tup_tuple, isi_lst_tuple, pIx_t, pIx_l, pAdd_t, pAdd_l, ↓keyOf1_ib, keyOf1_i, ↓T.bind_assoc, bind_ret', bind_bad', bind_exc', bind_draw', lift_some, lift_none', big, below62', below24', below64', below29', mul_ok, div_ok, mod_ok, ↓mArgs_bb, envB_self, tryT_ret, tryT_exc, tryT_draw, List.length_cons, List.length_nil, List.map_cons, List.map_nil, List.append_nil, List.nil_append, List.cons_append, List.replicate_succ, List.replicate_zero, List.isEmpty_nil, List.isEmpty_cons, Option.map_some, Option.map_none, Option.bind_some, Option.bind_none, true_and, and_true, and_self, false_and, and_false, true_or, or_true, false_or, or_false, not_true_eq_false, not_false_eq_true, Bool.not_true, Bool.not_false, Bool.true_and, Bool.and_true, Bool.false_and, Bool.and_false, Bool.true_or, Bool.or_true, Bool.or_false, Bool.false_or, decide_true, decide_false, decide_eq_true_eq, decide_eq_false_iff_not, if_true, if_false, ite_true, ite_false, ↓reduceIte, Int.natCast_nonneg, Nat.reduceLT, Nat.reduceLeDiff, Nat.reduceEqDiff, Nat.reduceSub, Nat.reduceMul, Int.reduceLT, Int.reduceLE, Int.reduceEq, Int.reduceAdd, Int.reduceSub, Int.reduceMul, Int.reduceNeg, Int.reducePow, List.length_map, List.length_range, eq_self, ne_eq, Classical.not_not, Bool.not_eq_true, Bool.not_eq_false, Bool.false_eq_true, reduceCtorEq, Int.toNat_natCast, Nat.add_eq, Nat.reduceAdd, Int.cast_ofNat_Int, Int.reduceToNat, Int.zero_add, Int.add_zero, Nat.zero_add, Nat.add_zero, Nat.sub_zero, Int.sub_zero, Int.natCast_zero, Int.natCast_one, Int.natCast_add, Int.natCast_succ, beq_self_eq_true, Bool.decide_eq_true, Bool.decide_eq_false, ↓vf0, ↓vm0, rf0, rm0, ↓qf0, ↓qm0, ↓zf0, ↓zm0, ↓im0, ss0, ↓vf1, ↓vm1, rf1, rm1, ↓qf1, ↓qm1, ↓zf1, ↓zm1, ↓im1, ss1, ↓vf2, ↓vm2, rf2, rm2, ↓qf2, ↓qm2, ↓zf2, ↓zm2, ↓im2, ss2, ↓vf3, ↓vm3, rf3, rm3, ↓qf3, ↓qm3, ↓zf3, ↓zm3, ↓im3, ss3, S0t0_is_row, U0t0_is_row, S0_is_row, S1_is_row, S2_is_row, U2_is_row, U1_is_row, U0_is_row, e]
theorem is_row_no {t : AV} {n : Int} (h : (tyName t).isSome = true) (hx : ∀ xs, t = .tup xs → xs.length ≠ 2) : f_is_row [t, .int n] = .ret (.bl false) := by
  cases t with
  | non => exact is_row_f (isi_o rfl (by decide))
  | bl b => exact is_row_f (isi_o rfl (by decide))
  | int i => exact is_row_f (isi_o rfl (by decide))
  | str s => exact is_row_f (isi_o rfl (by decide))
  | lst xs => exact is_row_f (isi_o rfl (by decide))
  | tup xs =>
    have e : pIsi "tuple" (.tup xs) = some (.bl true) := isi_o rfl (by decide)
    have l : pLen (.tup xs) = some (.int (xs.length : Nat)) := rfl
    have ee : pNe (.int (xs.length : Nat)) (.int 2) = some (.bl true) := by
      rw [pNe_int, decide_eq_false (by have := hx xs rfl; omega)]
      rfl
    unfold f_is_row b_is_row; refine t_eq ?_; simp -dsimp only [fnOf, List.reduceReplicate, ↓fBin_b, ↓fUn_b, ↓fTru_b, ↓fBlT_b, ↓fNotT_b, ↓fOrT_b, ↓fAnd_b, ↓lCons_b, ↓fCall_b, ↓sSeq_b, ↓sRet_b, ↓sIf_b, ↓sAsg_b, ↓iSeq_b, ↓fC_b, ↓lNil_b, ↓sNil_b, ↓fYes_b, ↓tgName_b, ↓tgNil_b, ↓tgCons_b, ↓tgTup_b, ↓lcRun_b, ↓frz_val, ↓lrs_val, ↓liftS_b, ↓liftN_b, ↓seqOf_t_b, ↓seqOf_l_b, ↓lstOf_l_b, ↓intOf_i_b, ↓blOf_b_b, ↓tru_n_b, ↓tru_b_b, ↓tru_i_b, ↓tru_t_b, ↓tru_l_b, ↓pLen_t_b, ↓pLen_l_b, ↓pLen_s_b, ↓pAdd_i_b, ↓atI_0_b, ↓atI_1_b, ↓atI_2_b, ↓atI_3_b, ↓lg0_b, ↓lg1_b, ↓lg2_b, ↓lg3_b, ↓isi_bl_tuple_b, ↓isi_int_tuple_b, ↓isi_str_tuple_b, ↓isi_tup_tuple_b, ↓isi_lst_tuple_b, rs_val, outV_rt, outV_nx, backE_n, backE_u, wipeE_n, wipeE_u, froOf_f, froOf_u, seqOf_t, seqOf_l, lstOf_l, intOf_i, blOf_b, tru_n, tru_b, tru_i, tru_t, tru_l, pLen_t, pLen_l, pLen_s, pAdd_i, atI_0, atI_1, atI_2, atI_3, lg0, lg1, lg2, lg3, isi_bl_tuple, isi_int_tuple, isi_str_tuple, isi_tup_tuple, isi_lst_tuple, pIx_t, pIx_l, pAdd_t, pAdd_l, ↓keyOf1_ib, keyOf1_i, ↓T.bind_assoc, bind_ret', bind_bad', bind_exc', bind_draw', lift_some, lift_none', big, below62', below24', below64', below29', mul_ok, div_ok, mod_ok, ↓mArgs_bb, envB_self, tryT_ret, tryT_exc, tryT_draw, List.length_cons, List.length_nil, List.map_cons, List.map_nil, List.append_nil, List.nil_append, List.cons_append, List.replicate_succ, List.replicate_zero, List.isEmpty_nil, List.isEmpty_cons, Option.map_some, Option.map_none, Option.bind_some, Option.bind_none, true_and, and_true, and_self, false_and, and_false, true_or, or_true, false_or, or_false, not_true_eq_false, not_false_eq_true, Bool.not_true, Bool.not_false, Bool.true_and, Bool.and_true, Bool.false_and, Bool.and_false, Bool.true_or, Bool.or_true, Bool.or_false, Bool.false_or, decide_true, decide_false, decide_eq_true_eq, decide_eq_false_iff_not, if_true, if_false, ite_true, ite_false, ↓reduceIte, Int.natCast_nonneg, Nat.reduceLT, Nat.reduceLeDiff, Nat.reduceEqDiff, Nat.reduceSub, Nat.reduceMul, Int.reduceLT, Int.reduceLE, Int.reduceEq, Int.reduceAdd, Int.reduceSub, Int.reduceMul, Int.reduceNeg, Int.reducePow, List.length_map, List.length_range, eq_self, ne_eq, Classical.not_not, Bool.not_eq_true, Bool.not_eq_false, Bool.false_eq_true, reduceCtorEq, Int.toNat_natCast, Nat.add_eq, Nat.reduceAdd, Int.cast_ofNat_Int, Int.reduceToNat, Int.zero_add, Int.add_zero, Nat.zero_add, Nat.add_zero, Nat.sub_zero, Int.sub_zero, Int.natCast_zero, Int.natCast_one, Int.natCast_add, Int.natCast_succ, beq_self_eq_true, Bool.decide_eq_true, Bool.decide_eq_false, ↓vf0, ↓vm0, rf0, rm0, ↓qf0, ↓qm0, ↓zf0, ↓zm0, ↓im0, ss0, ↓vf1, ↓vm1, rf1, rm1, ↓qf1, ↓qm1, ↓zf1, ↓zm1, ↓im1, ss1, ↓vf2, ↓vm2, rf2, rm2, ↓qf2, ↓qm2, ↓zf2, ↓zm2, ↓im2, ss2, ↓vf3, ↓vm3, rf3, rm3, ↓qf3, ↓qm3, ↓zf3, ↓zm3, ↓im3, ss3, S0t0_is_row, U0t0_is_row, S0_is_row, S1_is_row, S2_is_row, U2_is_row, U1_is_row, U0_is_row, e, l, ee]
  | ins c xs => cases h
  | dic ks xs => cases h
  | box => cases h
  | scr ns => cases h
  | any => cases h
theorem is_row_2 {a b : AV} {n : Int} {p q r : Bool} (ha : f_are_spots [a, .int n] = .ret (.bl p)) (hb : p = true → f_are_spots [b, .int n] = .ret (.bl q)) (hc : p = true → q = true → ∃ m : Int, pLen b = some (.int m) ∧ r = decide (m = n)) : f_is_row [.tup [a, b], .int n] = .ret (.bl (p && q && r)) := by
  have e2n : pNe (.int 2) (.int 2) = some (.bl false) := by rfl
  cases p with
  | false => unfold f_is_row b_is_row; refine t_eq ?_; simp -dsimp only [fnOf, List.reduceReplicate, ↓fBin_b, ↓fUn_b, ↓fTru_b, ↓fBlT_b, ↓fNotT_b, ↓fOrT_b, ↓fAnd_b, ↓lCons_b, ↓fCall_b, ↓sSeq_b, ↓sRet_b, ↓sIf_b, ↓sAsg_b, ↓iSeq_b, ↓fC_b, ↓lNil_b, ↓sNil_b, ↓fYes_b, ↓tgName_b, ↓tgNil_b, ↓tgCons_b, ↓tgTup_b, ↓lcRun_b, ↓frz_val, ↓lrs_val, ↓liftS_b, ↓liftN_b, ↓seqOf_t_b, ↓seqOf_l_b, ↓lstOf_l_b, ↓intOf_i_b, ↓blOf_b_b, ↓tru_n_b, ↓tru_b_b, ↓tru_i_b, ↓tru_t_b, ↓tru_l_b, ↓pLen_t_b, ↓pLen_l_b, ↓pLen_s_b, ↓pAdd_i_b, ↓atI_0_b, ↓atI_1_b, ↓atI_2_b, ↓atI_3_b, ↓lg0_b, ↓lg1_b, ↓lg2_b, ↓lg3_b, ↓isi_bl_tuple_b, ↓isi_int_tuple_b, ↓isi_str_tuple_b, ↓isi_tup_tuple_b, ↓isi_lst_tuple_b, rs_val, outV_rt, outV_nx, backE_n, backE_u, wipeE_n, wipeE_u, froOf_f, froOf_u, seqOf_t, seqOf_l, lstOf_l, intOf_i, blOf_b, tru_n, tru_b, tru_i, tru_t, tru_l, pLen_t, pLen_l, pLen_s, pAdd_i, atI_0, atI_1, atI_2, atI_3, lg0, lg1, lg2, lg3, isi_bl_tuple, isi_int_tuple, isi_str_tuple, isi_tup_tuple, isi_lst_tuple, pIx_t, pIx_l, pAdd_t, pAdd_l, ↓keyOf1_ib, keyOf1_i, ↓T.bind_assoc, bind_ret', bind_bad', bind_exc', bind_draw', lift_some, lift_none', big, below62', below24', below64', below29', mul_ok, div_ok, mod_ok, ↓mArgs_bb, envB_self, tryT_ret, tryT_exc, tryT_draw, List.length_cons, List.length_nil, List.map_cons, List.map_nil, List.append_nil, List.nil_append, List.cons_append, List.replicate_succ, List.replicate_zero, List.isEmpty_nil, List.isEmpty_cons, Option.map_some, Option.map_none, Option.bind_some, Option.bind_none, true_and, and_true, and_self, false_and, and_false, true_or, or_true, false_or, or_false, not_true_eq_false, not_false_eq_true, Bool.not_true, Bool.not_false, Bool.true_and, Bool.and_true, Bool.false_and, Bool.and_false, Bool.true_or, Bool.or_true, Bool.or_false, Bool.false_or, decide_true, decide_false, decide_eq_true_eq, decide_eq_false_iff_not, if_true, if_false, ite_true, ite_false, ↓reduceIte, Int.natCast_nonneg, Nat.reduceLT, Nat.reduceLeDiff, Nat.reduceEqDiff, Nat.reduceSub, Nat.reduceMul, Int.reduceLT, Int.reduceLE, Int.reduceEq, Int.reduceAdd, Int.reduceSub, Int.reduceMul, Int.reduceNeg, Int.reducePow, List.length_map, List.length_range, eq_self, ne_eq, Classical.not_not, Bool.not_eq_true, Bool.not_eq_false, Bool.false_eq_true, reduceCtorEq, Int.toNat_natCast, Nat.add_eq, Nat.reduceAdd, Int.cast_ofNat_Int, Int.reduceToNat, Int.zero_add, Int.add_zero, Nat.zero_add, Nat.add_zero, Nat.sub_zero, Int.sub_zero, Int.natCast_zero, Int.natCast_one, Int.natCast_add, Int.natCast_succ, beq_self_eq_true, Bool.decide_eq_true, Bool.decide_eq_false, ↓vf0, ↓vm0, rf0, rm0, ↓qf0, ↓qm0, ↓zf0, ↓zm0, ↓im0, ss0, ↓vf1, ↓vm1, rf1, rm1, ↓qf1, ↓qm1, ↓zf1, ↓zm1, ↓im1, ss1, ↓vf2, ↓vm2, rf2, rm2, ↓qf2, ↓qm2, ↓zf2, ↓zm2, ↓im2, ss2, ↓vf3, ↓vm3, rf3, rm3, ↓qf3, ↓qm3, ↓zf3, ↓zm3, ↓im3, ss3, S0t0_is_row, U0t0_is_row, S0_is_row, S1_is_row, S2_is_row, U2_is_row, U1_is_row, U0_is_row, ha, e2n]
  | true =>
    have hb := hb rfl
    cases q with
    | false => unfold f_is_row b_is_row; refine t_eq ?_; simp -dsimp only [fnOf, List.reduceReplicate, ↓fBin_b, ↓fUn_b, ↓fTru_b, ↓fBlT_b, ↓fNotT_b, ↓fOrT_b, ↓fAnd_b, ↓lCons_b, ↓fCall_b, ↓sSeq_b, ↓sRet_b, ↓sIf_b, ↓sAsg_b, ↓iSeq_b, ↓fC_b, ↓lNil_b, ↓sNil_b, ↓fYes_b, ↓tgName_b, ↓tgNil_b, ↓tgCons_b, ↓tgTup_b, ↓lcRun_b, ↓frz_val, ↓lrs_val, ↓liftS_b, ↓liftN_b, ↓seqOf_t_b, ↓seqOf_l_b, ↓lstOf_l_b, ↓intOf_i_b, ↓blOf_b_b, ↓tru_n_b, ↓tru_b_b, ↓tru_i_b, ↓tru_t_b, ↓tru_l_b, ↓pLen_t_b, ↓pLen_l_b, ↓pLen_s_b, ↓pAdd_i_b, ↓atI_0_b, ↓atI_1_b, ↓atI_2_b, ↓atI_3_b, ↓lg0_b, ↓lg1_b, ↓lg2_b, ↓lg3_b, ↓isi_bl_tuple_b, ↓isi_int_tuple_b, ↓isi_str_tuple_b, ↓isi_tup_tuple_b, ↓isi_lst_tuple_b, rs_val, outV_rt, outV_nx, backE_n, backE_u, wipeE_n, wipeE_u, froOf_f, froOf_u, seqOf_t, seqOf_l, lstOf_l, intOf_i, blOf_b, tru_n, tru_b, tru_i, tru_t, tru_l, pLen_t, pLen_l, pLen_s, pAdd_i, atI_0, atI_1, atI_2, atI_3, lg0, lg1, lg2, lg3, isi_bl_tuple, isi_int_tuple, isi_str_tuple, isi_tup_tuple, isi_lst_tuple, pIx_t, pIx_l, pAdd_t, pAdd_l, ↓keyOf1_ib, keyOf1_i, ↓T.bind_assoc, bind_ret', bind_bad', bind_exc', bind_draw', lift_some, lift_none', big, below62', below24', below64', below29', mul_ok, div_ok, mod_ok, ↓mArgs_bb, envB_self, tryT_ret, tryT_exc, tryT_draw, List.length_cons, List.length_nil, List.map_cons, List.map_nil, List.append_nil, List.nil_append, List.cons_append, List.replicate_succ, List.replicate_zero, List.isEmpty_nil, List.isEmpty_cons, Option.map_some, Option.map_none, Option.bind_some, Option.bind_none, true_and, and_true, and_self, false_and, and_false, true_or, or_true, false_or, or_false, not_true_eq_false, not_false_eq_true, Bool.not_true, Bool.not_false, Bool.true_and, Bool.and_true, Bool.false_and, Bool.and_false, Bool.true_or, Bool.or_true, Bool.or_false, Bool.false_or, decide_true, decide_false, decide_eq_true_eq, decide_eq_false_iff_not, if_true, if_false, ite_true, ite_false, ↓reduceIte, Int.natCast_nonneg, Nat.reduceLT, Nat.reduceLeDiff, Nat.reduceEqDiff, Nat.reduceSub, Nat.reduceMul, Int.reduceLT, Int.reduceLE, Int.reduceEq, Int.reduceAdd, Int.reduceSub, Int.reduceMul, Int.reduceNeg, Int.reducePow, List.length_map, List.length_range, eq_self, ne_eq, Classical.not_not, Bool.not_eq_true, Bool.not_eq_false, Bool.false_eq_true, reduceCtorEq, Int.toNat_natCast, Nat.add_eq, Nat.reduceAdd, Int.cast_ofNat_Int, Int.reduceToNat, Int.zero_add, Int.add_zero, Nat.zero_add, Nat.add_zero, Nat.sub_zero, Int.sub_zero, Int.natCast_zero, Int.natCast_one, Int.natCast_add, Int.natCast_succ, beq_self_eq_true, Bool.decide_eq_true, Bool.decide_eq_false, ↓vf0, ↓vm0, rf0, rm0, ↓qf0, ↓qm0, ↓zf0, ↓zm0, ↓im0, ss0, ↓vf1, ↓vm1, rf1, rm1, ↓qf1, ↓qm1, ↓zf1, ↓zm1, ↓im1, ss1, ↓vf2, ↓vm2, rf2, rm2, ↓qf2, ↓qm2, ↓zf2, ↓zm2, ↓im2, ss2, ↓vf3, ↓vm3, rf3, rm3, ↓qf3, ↓qm3, ↓zf3, ↓zm3, ↓im3, ss3, S0t0_is_row, U0t0_is_row, S0_is_row, S1_is_row, S2_is_row, U2_is_row, U1_is_row, U0_is_row, ha, hb, e2n]
    | true =>
      obtain ⟨m, hl, hr⟩ := hc rfl rfl
      have ee : pEq (.int m) (.int n) = some (.bl r) := by rw [hr]; exact pEq_int _ _
      unfold f_is_row b_is_row; refine t_eq ?_; simp -dsimp only [fnOf, List.reduceReplicate, ↓fBin_b, ↓fUn_b, ↓fTru_b, ↓fBlT_b, ↓fNotT_b, ↓fOrT_b, ↓fAnd_b, ↓lCons_b, ↓fCall_b, ↓sSeq_b, ↓sRet_b, ↓sIf_b, ↓sAsg_b, ↓iSeq_b, ↓fC_b, ↓lNil_b, ↓sNil_b, ↓fYes_b, ↓tgName_b, ↓tgNil_b, ↓tgCons_b, ↓tgTup_b, ↓lcRun_b, ↓frz_val, ↓lrs_val, ↓liftS_b, ↓liftN_b, ↓seqOf_t_b, ↓seqOf_l_b, ↓lstOf_l_b, ↓intOf_i_b, ↓blOf_b_b, ↓tru_n_b, ↓tru_b_b, ↓tru_i_b, ↓tru_t_b, ↓tru_l_b, ↓pLen_t_b, ↓pLen_l_b, ↓pLen_s_b, ↓pAdd_i_b, ↓atI_0_b, ↓atI_1_b, ↓atI_2_b, ↓atI_3_b, ↓lg0_b, ↓lg1_b, ↓lg2_b, ↓lg3_b, ↓isi_bl_tuple_b, ↓isi_int_tuple_b, ↓isi_str_tuple_b, ↓isi_tup_tuple_b, ↓isi_lst_tuple_b, rs_val, outV_rt, outV_nx, backE_n, backE_u, wipeE_n, wipeE_u, froOf_f, froOf_u, seqOf_t, seqOf_l, lstOf_l, intOf_i, blOf_b, tru_n, tru_b, tru_i, tru_t, tru_l, pLen_t, pLen_l, pLen_s, pAdd_i, atI_0, atI_1, atI_2, atI_3, lg0, lg1, lg2, lg3, isi_bl_tuple, isi_int_tuple, isi_str_tuple, isi_tup_tuple, isi_lst_tuple, pIx_t, pIx_l, pAdd_t, pAdd_l, ↓keyOf1_ib, keyOf1_i, ↓T.bind_assoc, bind_ret', bind_bad', bind_exc', bind_draw', lift_some, lift_none', big, below62', below24', below64', below29', mul_ok, div_ok, mod_ok, ↓mArgs_bb, envB_self, tryT_ret, tryT_exc, tryT_draw, List.length_cons, List.length_nil, List.map_cons, List.map_nil, List.append_nil, List.nil_append, List.cons_append, List.replicate_succ, List.replicate_zero, List.isEmpty_nil, List.isEmpty_cons, Option.map_some, Option.map_none, Option.bind_some, Option.bind_none, true_and, and_true, and_self, false_and, and_false, true_or, or_true, false_or, or_false, not_true_eq_false, not_false_eq_true, Bool.not_true, Bool.not_false, Bool.true_and, Bool.and_true, Bool.false_and, Bool.and_false, Bool.true_or, Bool.or_true, Bool.or_false, Bool.false_or, decide_true, decide_false, decide_eq_true_eq, decide_eq_false_iff_not, if_true, if_false, ite_true, ite_false, ↓reduceIte, Int.natCast_nonneg, Nat.reduceLT, Nat.reduceLeDiff, Nat.reduceEqDiff, Nat.reduceSub, Nat.reduceMul, Int.reduceLT, Int.reduceLE, Int.reduceEq, Int.reduceAdd, Int.reduceSub, Int.reduceMul, Int.reduceNeg, Int.reducePow, List.length_map, List.length_range, eq_self, ne_eq, Classical.not_not, Bool.not_eq_true, Bool.not_eq_false, Bool.false_eq_true, reduceCtorEq, Int.toNat_natCast, Nat.add_eq, Nat.reduceAdd, Int.cast_ofNat_Int, Int.reduceToNat, Int.zero_add, Int.add_zero, Nat.zero_add, Nat.add_zero, Nat.sub_zero, Int.sub_zero, Int.natCast_zero, Int.natCast_one, Int.natCast_add, Int.natCast_succ, beq_self_eq_true, Bool.decide_eq_true, Bool.decide_eq_false, ↓vf0, ↓vm0, rf0, rm0, ↓qf0, ↓qm0, ↓zf0, ↓zm0, ↓im0, ss0, ↓vf1, ↓vm1, rf1, rm1, ↓qf1, ↓qm1, ↓zf1, ↓zm1, ↓im1, ss1, ↓vf2, ↓vm2, rf2, rm2, ↓qf2, ↓qm2, ↓zf2, ↓zm2, ↓im2, ss2, ↓vf3, ↓vm3, rf3, rm3, ↓qf3, ↓qm3, ↓zf3, ↓zm3, ↓im3, ss3, S0t0_is_row, U0t0_is_row, S0_is_row, S1_is_row, S2_is_row, U2_is_row, U1_is_row, U0_is_row, ha, hb, e2n, hl, ee]
theorem are_rows_no {t : AV} {n : Int} (h : (tyName t).isSome = true) (hs : seqOf t = none) : f_are_rows [t, .int n] = .ret (.bl false) := by
  have e := is_seq_o h
  rw [hs, Option.isSome_none] at e
  unfold f_are_rows b_are_rows; refine t_eq ?_; simp -dsimp only [fnOf, List.reduceReplicate, ↓fBin_b, ↓fUn_b, ↓fAnd_b, ↓lCons_b, ↓fCall_b, ↓sSeq_b, ↓sRet_b, ↓iSeq_b, ↓fNew_b, ↓nLc_b, ↓fC_b, ↓lNil_b, ↓sNil_b, ↓fYes_b, ↓tgName_b, ↓tgNil_b, ↓tgCons_b, ↓tgTup_b, ↓lcRun_b, ↓frz_val, ↓lrs_val, ↓liftS_b, ↓liftN_b, ↓seqOf_t_b, ↓seqOf_l_b, ↓lstOf_l_b, ↓intOf_i_b, ↓blOf_b_b, ↓tru_n_b, ↓tru_b_b, ↓tru_i_b, ↓tru_t_b, ↓tru_l_b, ↓pLen_t_b, ↓pLen_l_b, ↓pLen_s_b, ↓pAdd_i_b, ↓pGt_i_b, ↓atI_0_b, ↓atI_1_b, ↓atI_2_b, ↓atI_3_b, ↓lg0_b, ↓lg1_b, ↓lg2_b, ↓lg3_b, rs_val, outV_rt, outV_nx, backE_n, backE_u, wipeE_n, wipeE_u, froOf_f, froOf_u, seqOf_t, seqOf_l, lstOf_l, intOf_i, blOf_b, tru_n, tru_b, tru_i, tru_t, tru_l, pLen_t, pLen_l, pLen_s, pAdd_i, pGt_i, atI_0, atI_1, atI_2, atI_3, lg0, lg1, lg2, lg3, pIx_t, pIx_l, pAdd_t, pAdd_l, ↓keyOf1_ib, keyOf1_i, ↓T.bind_assoc, bind_ret', bind_bad', bind_exc', bind_draw', lift_some, lift_none', big, below62', below24', below64', below29', mul_ok, div_ok, mod_ok, ↓mArgs_bb, envB_self, tryT_ret, tryT_exc, tryT_draw, List.length_cons, List.length_nil, List.map_cons, List.map_nil, List.append_nil, List.nil_append, List.cons_append, List.replicate_succ, List.replicate_zero, List.isEmpty_nil, List.isEmpty_cons, Option.map_some, Option.map_none, Option.bind_some, Option.bind_none, true_and, and_true, and_self, false_and, and_false, true_or, or_true, false_or, or_false, not_true_eq_false, not_false_eq_true, Bool.not_true, Bool.not_false, Bool.true_and, Bool.and_true, Bool.false_and, Bool.and_false, Bool.true_or, Bool.or_true, Bool.or_false, Bool.false_or, decide_true, decide_false, decide_eq_true_eq, decide_eq_false_iff_not, if_true, if_false, ite_true, ite_false, ↓reduceIte, Int.natCast_nonneg, Nat.reduceLT, Nat.reduceLeDiff, Nat.reduceEqDiff, Nat.reduceSub, Nat.reduceMul, Int.reduceLT, Int.reduceLE, Int.reduceEq, Int.reduceAdd, Int.reduceSub, Int.reduceMul, Int.reduceNeg, Int.reducePow, List.length_map, List.length_range, eq_self, ne_eq, Classical.not_not, Bool.not_eq_true, Bool.not_eq_false, Bool.false_eq_true, reduceCtorEq, Int.toNat_natCast, Nat.add_eq, Nat.reduceAdd, Int.cast_ofNat_Int, Int.reduceToNat, Int.zero_add, Int.add_zero, Nat.zero_add, Nat.add_zero, Nat.sub_zero, Int.sub_zero, Int.natCast_zero, Int.natCast_one, Int.natCast_add, Int.natCast_succ, beq_self_eq_true, Bool.decide_eq_true, Bool.decide_eq_false, ↓vf0, ↓vm0, rf0, rm0, ↓qf0, ↓qm0, ↓zf0, ↓zm0, ↓im0, ss0, ↓vf1, ↓vm1, rf1, rm1, ↓qf1, ↓qm1, ↓zf1, ↓zm1, ↓im1, ss1, ↓vf2, ↓vm2, rf2, rm2, ↓qf2, ↓qm2, ↓zf2, ↓zm2, ↓im2, ss2, S0_are_rows, U0_are_rows, e]
theorem are_rows_o {t : AV} {xs : List AV} {n : Int} {q : AV → Bool} (h : (tyName t).isSome = true) (hs : seqOf t = some xs) (hl : xs.length < 1000) (hq : ∀ x ∈ xs, f_is_row [x, .int n] = .ret (.bl (q x))) : f_are_rows [t, .int n] = .ret (.bl (decide (0 < (xs.length : Int)) && xs.all q)) := by
  have e := is_seq_o h
  rw [hs, Option.isSome_some] at e
  have le : pLen t = some (.int (xs.length : Nat)) := by
    cases t with
    | tup ys => cases hs; rfl
    | lst ys => cases hs; rfl
    | _ => cases hs
  have c : C0_are_rows [.fro t, .fro (.int n), .un] = .ret (xs.map fun x => AV.bl (q x), [.fro t, .fro (.int n), .un]) := by
    refine nLc_M (l := xs) id (fun x => AV.bl (q x)) (by refine t_eq ?_; simp -dsimp only [↓fBin_b, ↓fUn_b, ↓fAnd_b, ↓lCons_b, ↓fCall_b, ↓sSeq_b, ↓sRet_b, ↓iSeq_b, ↓fNew_b, ↓nLc_b, ↓fC_b, ↓lNil_b, ↓sNil_b, ↓fYes_b, ↓tgName_b, ↓tgNil_b, ↓tgCons_b, ↓tgTup_b, ↓lcRun_b, ↓frz_val, ↓lrs_val, ↓liftS_b, ↓liftN_b, ↓seqOf_t_b, ↓seqOf_l_b, ↓lstOf_l_b, ↓intOf_i_b, ↓blOf_b_b, ↓tru_n_b, ↓tru_b_b, ↓tru_i_b, ↓tru_t_b, ↓tru_l_b, ↓pLen_t_b, ↓pLen_l_b, ↓pLen_s_b, ↓pAdd_i_b, ↓pGt_i_b, ↓atI_0_b, ↓atI_1_b, ↓atI_2_b, ↓atI_3_b, ↓lg0_b, ↓lg1_b, ↓lg2_b, ↓lg3_b, rs_val, outV_rt, outV_nx, backE_n, backE_u, wipeE_n, wipeE_u, froOf_f, froOf_u, seqOf_t, seqOf_l, lstOf_l, intOf_i, blOf_b, tru_n, tru_b, tru_i, tru_t, tru_l, pLen_t, pLen_l, pLen_s, pAdd_i, pGt_i, atI_0, atI_1, atI_2, atI_3, lg0, lg1, lg2, lg3, pIx_t, pIx_l, pAdd_t, pAdd_l, ↓keyOf1_ib, keyOf1_i, ↓T.bind_assoc, bind_ret', bind_bad', bind_exc', bind_draw', lift_some, lift_none', big, below62', below24', below64', below29', mul_ok, div_ok, mod_ok, ↓mArgs_bb, envB_self, tryT_ret, tryT_exc, tryT_draw, List.length_cons, List.length_nil, List.map_cons, List.map_nil, List.append_nil, List.nil_append, List.cons_append, List.replicate_succ, List.replicate_zero, List.isEmpty_nil, List.isEmpty_cons, Option.map_some, Option.map_none, Option.bind_some, Option.bind_none, true_and, and_true, and_self, false_and, and_false, true_or, or_true, false_or, or_false, not_true_eq_false, not_false_eq_true, Bool.not_true, Bool.not_false, Bool.true_and, Bool.and_true, Bool.false_and, Bool.and_false, Bool.true_or, Bool.or_true, Bool.or_false, Bool.false_or, decide_true, decide_false, decide_eq_true_eq, decide_eq_false_iff_not, if_true, if_false, ite_true, ite_false, ↓reduceIte, Int.natCast_nonneg, Nat.reduceLT, Nat.reduceLeDiff, Nat.reduceEqDiff, Nat.reduceSub, Nat.reduceMul, Int.reduceLT, Int.reduceLE, Int.reduceEq, Int.reduceAdd, Int.reduceSub, Int.reduceMul, Int.reduceNeg, Int.reducePow, List.length_map, List.length_range, eq_self, ne_eq, Classical.not_not, Bool.not_eq_true, Bool.not_eq_false, Bool.false_eq_true, reduceCtorEq, Int.toNat_natCast, Nat.add_eq, Nat.reduceAdd, Int.cast_ofNat_Int, Int.reduceToNat, Int.zero_add, Int.add_zero, Nat.zero_add, Nat.add_zero, Nat.sub_zero, Int.sub_zero, Int.natCast_zero, Int.natCast_one, Int.natCast_add, Int.natCast_succ, beq_self_eq_true, Bool.decide_eq_true, Bool.decide_eq_false, ↓vf0, ↓vm0, rf0, rm0, ↓qf0, ↓qm0, ↓zf0, ↓zm0, ↓im0, ss0, ↓vf1, ↓vm1, rf1, rm1, ↓qf1, ↓qm1, ↓zf1, ↓zm1, ↓im1, ss1, ↓vf2, ↓vm2, rf2, rm2, ↓qf2, ↓qm2, ↓zf2, ↓zm2, ↓im2, ss2, hs, List.map_id]; (try simp only [T.bind_ret])) (Nat.lt_trans hl (by decide)) rfl fun b hb => ⟨[.fro t, .fro (.int n), .fro b], ?_, rfl⟩
    have e := hq b hb
    refine t_eq ?_; simp -dsimp only [↓fBin_b, ↓fUn_b, ↓fAnd_b, ↓lCons_b, ↓fCall_b, ↓sSeq_b, ↓sRet_b, ↓iSeq_b, ↓fNew_b, ↓nLc_b, ↓fC_b, ↓lNil_b, ↓sNil_b, ↓fYes_b, ↓tgName_b, ↓tgNil_b, ↓tgCons_b, ↓tgTup_b, ↓lcRun_b, ↓frz_val, ↓lrs_val, ↓liftS_b, ↓liftN_b, ↓seqOf_t_b, ↓seqOf_l_b, ↓lstOf_l_b, ↓intOf_i_b, ↓blOf_b_b, ↓tru_n_b, ↓tru_b_b, ↓tru_i_b, ↓tru_t_b, ↓tru_l_b, ↓pLen_t_b, ↓pLen_l_b, ↓pLen_s_b, ↓pAdd_i_b, ↓pGt_i_b, ↓atI_0_b, ↓atI_1_b, ↓atI_2_b, ↓atI_3_b, ↓lg0_b, ↓lg1_b, ↓lg2_b, ↓lg3_b, rs_val, outV_rt, outV_nx, backE_n, backE_u, wipeE_n, wipeE_u, froOf_f, froOf_u, seqOf_t, seqOf_l, lstOf_l, intOf_i, blOf_b, tru_n, tru_b, tru_i, tru_t, tru_l, pLen_t, pLen_l, pLen_s, pAdd_i, pGt_i, atI_0, atI_1, atI_2, atI_3, lg0, lg1, lg2, lg3, pIx_t, pIx_l, pAdd_t, pAdd_l, ↓keyOf1_ib, keyOf1_i, ↓T.bind_assoc, bind_ret', bind_bad', bind_exc', bind_draw', lift_some, lift_none', big, below62', below24', below64', below29', mul_ok, div_ok, mod_ok, ↓mArgs_bb, envB_self, tryT_ret, tryT_exc, tryT_draw, List.length_cons, List.length_nil, List.map_cons, List.map_nil, List.append_nil, List.nil_append, List.cons_append, List.replicate_succ, List.replicate_zero, List.isEmpty_nil, List.isEmpty_cons, Option.map_some, Option.map_none, Option.bind_some, Option.bind_none, true_and, and_true, and_self, false_and, and_false, true_or, or_true, false_or, or_false, not_true_eq_false, not_false_eq_true, Bool.not_true, Bool.not_false, Bool.true_and, Bool.and_true, Bool.false_and, Bool.and_false, Bool.true_or, Bool.or_true, Bool.or_false, Bool.false_or, decide_true, decide_false, decide_eq_true_eq, decide_eq_false_iff_not, if_true, if_false, ite_true, ite_false, ↓reduceIte, Int.natCast_nonneg, Nat.reduceLT, Nat.reduceLeDiff, Nat.reduceEqDiff, Nat.reduceSub, Nat.reduceMul, Int.reduceLT, Int.reduceLE, Int.reduceEq, Int.reduceAdd, Int.reduceSub, Int.reduceMul, Int.reduceNeg, Int.reducePow, List.length_map, List.length_range, eq_self, ne_eq, Classical.not_not, Bool.not_eq_true, Bool.not_eq_false, Bool.false_eq_true, reduceCtorEq, Int.toNat_natCast, Nat.add_eq, Nat.reduceAdd, Int.cast_ofNat_Int, Int.reduceToNat, Int.zero_add, Int.add_zero, Nat.zero_add, Nat.add_zero, Nat.sub_zero, Int.sub_zero, Int.natCast_zero, Int.natCast_one, Int.natCast_add, Int.natCast_succ, beq_self_eq_true, Bool.decide_eq_true, Bool.decide_eq_false, ↓vf0, ↓vm0, rf0, rm0, ↓qf0, ↓qm0, ↓zf0, ↓zm0, ↓im0, ss0, ↓vf1, ↓vm1, rf1, rm1, ↓qf1, ↓qm1, ↓zf1, ↓zm1, ↓im1, ss1, ↓vf2, ↓vm2, rf2, rm2, ↓qf2, ↓qm2, ↓zf2, ↓zm2, ↓im2, ss2, e, id]; (try simp only [T.bind_ret])
  have p := pAll_map q xs
  by_cases h0 : 0 < (xs.length : Int)
  · unfold f_are_rows b_are_rows; refine t_eq ?_; simp -dsimp only [fnOf, List.reduceReplicate, ↓fBin_b, ↓fUn_b, ↓fAnd_b, ↓lCons_b, ↓fCall_b, ↓sSeq_b, ↓sRet_b, ↓iSeq_b, ↓fNew_b, ↓nLc_b, ↓fC_b, ↓lNil_b, ↓sNil_b, ↓fYes_b, ↓tgName_b, ↓tgNil_b, ↓tgCons_b, ↓tgTup_b, ↓lcRun_b, ↓frz_val, ↓lrs_val, ↓liftS_b, ↓liftN_b, ↓seqOf_t_b, ↓seqOf_l_b, ↓lstOf_l_b, ↓intOf_i_b, ↓blOf_b_b, ↓tru_n_b, ↓tru_b_b, ↓tru_i_b, ↓tru_t_b, ↓tru_l_b, ↓pLen_t_b, ↓pLen_l_b, ↓pLen_s_b, ↓pAdd_i_b, ↓pGt_i_b, ↓atI_0_b, ↓atI_1_b, ↓atI_2_b, ↓atI_3_b, ↓lg0_b, ↓lg1_b, ↓lg2_b, ↓lg3_b, rs_val, outV_rt, outV_nx, backE_n, backE_u, wipeE_n, wipeE_u, froOf_f, froOf_u, seqOf_t, seqOf_l, lstOf_l, intOf_i, blOf_b, tru_n, tru_b, tru_i, tru_t, tru_l, pLen_t, pLen_l, pLen_s, pAdd_i, pGt_i, atI_0, atI_1, atI_2, atI_3, lg0, lg1, lg2, lg3, pIx_t, pIx_l, pAdd_t, pAdd_l, ↓keyOf1_ib, keyOf1_i, ↓T.bind_assoc, bind_ret', bind_bad', bind_exc', bind_draw', lift_some, lift_none', big, below62', below24', below64', below29', mul_ok, div_ok, mod_ok, ↓mArgs_bb, envB_self, tryT_ret, tryT_exc, tryT_draw, List.length_cons, List.length_nil, List.map_cons, List.map_nil, List.append_nil, List.nil_append, List.cons_append, List.replicate_succ, List.replicate_zero, List.isEmpty_nil, List.isEmpty_cons, Option.map_some, Option.map_none, Option.bind_some, Option.bind_none, true_and, and_true, and_self, false_and, and_false, true_or, or_true, false_or, or_false, not_true_eq_false, not_false_eq_true, Bool.not_true, Bool.not_false, Bool.true_and, Bool.and_true, Bool.false_and, Bool.and_false, Bool.true_or, Bool.or_true, Bool.or_false, Bool.false_or, decide_true, decide_false, decide_eq_true_eq, decide_eq_false_iff_not, if_true, if_false, ite_true, ite_false, ↓reduceIte, Int.natCast_nonneg, Nat.reduceLT, Nat.reduceLeDiff, Nat.reduceEqDiff, Nat.reduceSub, Nat.reduceMul, Int.reduceLT, Int.reduceLE, Int.reduceEq, Int.reduceAdd, Int.reduceSub, Int.reduceMul, Int.reduceNeg, Int.reducePow, List.length_map, List.length_range, eq_self, ne_eq, Classical.not_not, Bool.not_eq_true, Bool.not_eq_false, Bool.false_eq_true, reduceCtorEq, Int.toNat_natCast, Nat.add_eq, Nat.reduceAdd, Int.cast_ofNat_Int, Int.reduceToNat, Int.zero_add, Int.add_zero, Nat.zero_add, Nat.add_zero, Nat.sub_zero, Int.sub_zero, Int.natCast_zero, Int.natCast_one, Int.natCast_add, Int.natCast_succ, beq_self_eq_true, Bool.decide_eq_true, Bool.decide_eq_false, ↓vf0, ↓vm0, rf0, rm0, ↓qf0, ↓qm0, ↓zf0, ↓zm0, ↓im0, ss0, ↓vf1, ↓vm1, rf1, rm1, ↓qf1, ↓qm1, ↓zf1, ↓zm1, ↓im1, ss1, ↓vf2, ↓vm2, rf2, rm2, ↓qf2, ↓qm2, ↓zf2, ↓zm2, ↓im2, ss2, S0_are_rows, U0_are_rows, e, le, c, p, h0]
  · unfold f_are_rows b_are_rows; refine t_eq ?_; simp -dsimp only [fnOf, List.reduceReplicate, ↓fBin_b, ↓fUn_b, ↓fAnd_b, ↓lCons_b, ↓fCall_b, ↓sSeq_b, ↓sRet_b, ↓iSeq_b, ↓fNew_b, ↓nLc_b, ↓fC_b, ↓lNil_b, ↓sNil_b, ↓fYes_b, ↓tgName_b, ↓tgNil_b, ↓tgCons_b, ↓tgTup_b, ↓lcRun_b, ↓frz_val, ↓lrs_val, ↓liftS_b, ↓liftN_b, ↓seqOf_t_b, ↓seqOf_l_b, ↓lstOf_l_b, ↓intOf_i_b, ↓blOf_b_b, ↓tru_n_b, ↓tru_b_b, ↓tru_i_b, ↓tru_t_b, ↓tru_l_b, ↓pLen_t_b, ↓pLen_l_b, ↓pLen_s_b, ↓pAdd_i_b, ↓pGt_i_b, ↓atI_0_b, ↓atI_1_b, ↓atI_2_b, ↓atI_3_b, ↓lg0_b, ↓lg1_b, ↓lg2_b, ↓lg3_b, rs_val, outV_rt, outV_nx, backE_n, backE_u, wipeE_n, wipeE_u, froOf_f, froOf_u, seqOf_t, seqOf_l, lstOf_l, intOf_i, blOf_b, tru_n, tru_b, tru_i, tru_t, tru_l, pLen_t, pLen_l, pLen_s, pAdd_i, pGt_i, atI_0, atI_1, atI_2, atI_3, lg0, lg1, lg2, lg3, pIx_t, pIx_l, pAdd_t, pAdd_l, ↓keyOf1_ib, keyOf1_i, ↓T.bind_assoc, bind_ret', bind_bad', bind_exc', bind_draw', lift_some, lift_none', big, below62', below24', below64', below29', mul_ok, div_ok, mod_ok, ↓mArgs_bb, envB_self, tryT_ret, tryT_exc, tryT_draw, List.length_cons, List.length_nil, List.map_cons, List.map_nil, List.append_nil, List.nil_append, List.cons_append, List.replicate_succ, List.replicate_zero, List.isEmpty_nil, List.isEmpty_cons, Option.map_some, Option.map_none, Option.bind_some, Option.bind_none, true_and, and_true, and_self, false_and, and_false, true_or, or_true, false_or, or_false, not_true_eq_false, not_false_eq_true, Bool.not_true, Bool.not_false, Bool.true_and, Bool.and_true, Bool.false_and, Bool.and_false, Bool.true_or, Bool.or_true, Bool.or_false, Bool.false_or, decide_true, decide_false, decide_eq_true_eq, decide_eq_false_iff_not, if_true, if_false, ite_true, ite_false, ↓reduceIte, Int.natCast_nonneg, Nat.reduceLT, Nat.reduceLeDiff, Nat.reduceEqDiff, Nat.reduceSub, Nat.reduceMul, Int.reduceLT, Int.reduceLE, Int.reduceEq, Int.reduceAdd, Int.reduceSub, Int.reduceMul, Int.reduceNeg, Int.reducePow, List.length_map, List.length_range, eq_self, ne_eq, Classical.not_not, Bool.not_eq_true, Bool.not_eq_false, Bool.false_eq_true, reduceCtorEq, Int.toNat_natCast, Nat.add_eq, Nat.reduceAdd, Int.cast_ofNat_Int, Int.reduceToNat, Int.zero_add, Int.add_zero, Nat.zero_add, Nat.add_zero, Nat.sub_zero, Int.sub_zero, Int.natCast_zero, Int.natCast_one, Int.natCast_add, Int.natCast_succ, beq_self_eq_true, Bool.decide_eq_true, Bool.decide_eq_false, ↓vf0, ↓vm0, rf0, rm0, ↓qf0, ↓qm0, ↓zf0, ↓zm0, ↓im0, ss0, ↓vf1, ↓vm1, rf1, rm1, ↓qf1, ↓qm1, ↓zf1, ↓zm1, ↓im1, ss1, ↓vf2, ↓vm2, rf2, rm2, ↓qf2, ↓qm2, ↓zf2, ↓zm2, ↓im2, ss2, S0_are_rows, U0_are_rows, e, le, h0]
theorem is_row_raw {r : Rw} {n : Nat} (ok : RowOk n r) (hn : n ≤ 100) : f_is_row [rawV r, .int n] = .ret (.bl true) := by
  have l1 : r.1.length ≤ n := by
    have := nodup_le n (r.1.map Int.toNat) (by
      rw [List.Nodup, List.pairwise_map]
      exact List.Pairwise.imp_of_mem (fun {x y} hx hy hxy e => hxy (by have := ok.2.2 x hx; have := ok.2.2 y hy; omega)) ok.2.1) fun x hx => by
        obtain ⟨y, hy, rfl⟩ := List.mem_map.mp hx
        have := ok.2.2 y hy
        omega
    rwa [List.length_map] at this
  have e1 := are_spots_il (n := (n : Int)) (l := r.1) (by omega) ok.2.2
  have hb : nl r.2 = il (r.2.map fun k : Nat => (k : Int)) := nl_il' r.2
  have nd : (r.2.map fun k : Nat => (k : Int)).Nodup := by
    rw [List.Nodup, List.pairwise_map]
    exact ok.1.2.1.imp fun h e => h (by omega)
  have e2 := are_spots_il (n := (n : Int)) (l := r.2.map fun k : Nat => (k : Int)) (by rw [List.length_map, ok.1.1]; omega) fun x hx => by
    obtain ⟨k, hk, rfl⟩ := List.mem_map.mp hx
    have := ok.1.2.2 k hk
    omega
  rw [distN_nodup ok.2.1, decide_eq_true rfl] at e1
  rw [distN_nodup nd, decide_eq_true rfl] at e2
  have h := is_row_2 (a := .lst (il r.1)) (b := .lst (nl r.2)) (n := n) (p := true) (q := true) (r := true) e1 (fun _ => by rw [hb]; exact e2) fun _ _ => ⟨n, by
    show some (AV.int (nl r.2).length) = _
    rw [nl_len, ok.1.1], (decide_eq_true rfl).symm⟩
  exact h
theorem rota_ok {t : AV} {rows : List Rw} {n : Nat} (h : SeqIs t (rows.map rawV)) (ok : WR n rows) : f_Rota [.int n, t] = .ret (rotaV n (rows.map srtR)) := by
  have hs : seqOf t = some (rows.map rawV) := by rcases h with rfl | rfl <;> rfl
  have ht : (tyName t).isSome = true := by rcases h with rfl | rfl <;> rfl
  have e1 : f_is_whole [.int n, .int 1] = .ret (.bl true) := by
    rw [is_whole_i, decide_eq_true (by have := ok.n0; omega)]
  have e2 := are_rows_o (n := n) (q := fun _ => true) ht hs (by rw [List.length_map]; have := ok.r1; omega) fun x hx => by
    obtain ⟨r, hr, rfl⟩ := List.mem_map.mp hx
    exact is_row_raw (ok.row hr) ok.n1
  rw [show (decide (0 < ((rows.map rawV).length : Int)) && (rows.map rawV).all fun _ => true) = true by
    rw [decide_eq_true (by rw [List.length_map]; have := ok.r0; omega)]
    simp] at e2
  have c : C0_Rota_init [.slf 0 [.int n], .fro (.int n), .fro t, .un, .un] = .ret (rows.map fun r => rowV (srtR r), [.slf 0 [.int n], .fro (.int n), .fro t, .un, .un]) := by
    refine nLc_M (l := rows) rawV (fun r => rowV (srtR r)) (by refine t_eq ?_; simp -dsimp only [↓fUn_b, ↓fTru_b, ↓fNotT_b, ↓lCons_b, ↓fTup_b, ↓fCall_b, ↓sSeq_b, ↓sIf_b, ↓iSeq_b, ↓fNew_b, ↓nLc_b, ↓sFldSet_b, ↓fC_b, ↓lNil_b, ↓sNil_b, ↓fYes_b, ↓tgName_b, ↓tgNil_b, ↓tgCons_b, ↓tgTup_b, ↓lcRun_b, ↓frz_val, ↓lrs_val, ↓liftS_b, ↓liftN_b, ↓seqOf_t_b, ↓seqOf_l_b, ↓lstOf_l_b, ↓intOf_i_b, ↓blOf_b_b, ↓tru_n_b, ↓tru_b_b, ↓tru_i_b, ↓tru_t_b, ↓tru_l_b, ↓pLen_t_b, ↓pLen_l_b, ↓pLen_s_b, ↓pTuple_t_b, ↓pTuple_l_b, ↓pAdd_i_b, ↓atI_0_b, ↓atI_1_b, ↓atI_2_b, ↓atI_3_b, ↓lg0_b, ↓lg1_b, ↓lg2_b, ↓lg3_b, rs_val, outV_rt, outV_nx, backE_n, backE_u, wipeE_n, wipeE_u, froOf_f, froOf_u, seqOf_t, seqOf_l, lstOf_l, intOf_i, blOf_b, tru_n, tru_b, tru_i, tru_t, tru_l, pLen_t, pLen_l, pLen_s, pTuple_t, pTuple_l, pAdd_i, atI_0, atI_1, atI_2, atI_3, lg0, lg1, lg2, lg3, pIx_t, pIx_l, pAdd_t, pAdd_l, ↓keyOf1_ib, keyOf1_i, ↓T.bind_assoc, bind_ret', bind_bad', bind_exc', bind_draw', lift_some, lift_none', big, below62', below24', below64', below29', mul_ok, div_ok, mod_ok, ↓sRaise_b, ↓mArgs_bb, envB_self, tryT_ret, tryT_exc, tryT_draw, List.length_cons, List.length_nil, List.map_cons, List.map_nil, List.append_nil, List.nil_append, List.cons_append, List.replicate_succ, List.replicate_zero, List.isEmpty_nil, List.isEmpty_cons, Option.map_some, Option.map_none, Option.bind_some, Option.bind_none, true_and, and_true, and_self, false_and, and_false, true_or, or_true, false_or, or_false, not_true_eq_false, not_false_eq_true, Bool.not_true, Bool.not_false, Bool.true_and, Bool.and_true, Bool.false_and, Bool.and_false, Bool.true_or, Bool.or_true, Bool.or_false, Bool.false_or, decide_true, decide_false, decide_eq_true_eq, decide_eq_false_iff_not, if_true, if_false, ite_true, ite_false, ↓reduceIte, Int.natCast_nonneg, Nat.reduceLT, Nat.reduceLeDiff, Nat.reduceEqDiff, Nat.reduceSub, Nat.reduceMul, Int.reduceLT, Int.reduceLE, Int.reduceEq, Int.reduceAdd, Int.reduceSub, Int.reduceMul, Int.reduceNeg, Int.reducePow, List.length_map, List.length_range, eq_self, ne_eq, Classical.not_not, Bool.not_eq_true, Bool.not_eq_false, Bool.false_eq_true, reduceCtorEq, Int.toNat_natCast, Nat.add_eq, Nat.reduceAdd, Int.cast_ofNat_Int, Int.reduceToNat, Int.zero_add, Int.add_zero, Nat.zero_add, Nat.add_zero, Nat.sub_zero, Int.sub_zero, Int.natCast_zero, Int.natCast_one, Int.natCast_add, Int.natCast_succ, beq_self_eq_true, Bool.decide_eq_true, Bool.decide_eq_false, ↓vf0, ↓vm0, rf0, rm0, ↓qf0, ↓qm0, ↓zf0, ↓zm0, ↓im0, ss0, ↓vf1, ↓vm1, rf1, rm1, ↓qf1, ↓qm1, ↓zf1, ↓zm1, ↓im1, ss1, ↓vf2, ↓vm2, rf2, rm2, ↓qf2, ↓qm2, ↓zf2, ↓zm2, ↓im2, ss2, ↓vf3, ↓vm3, rf3, rm3, ↓qf3, ↓qm3, ↓zf3, ↓zm3, ↓im3, ss3, ↓vf4, ↓vm4, rf4, rm4, ↓qf4, ↓qm4, ↓zf4, ↓zm4, ↓im4, ss4, hs]; (try simp only [T.bind_ret])) (Nat.lt_of_le_of_lt ok.r1 (by decide)) rfl fun b hb => ?_
    refine ⟨[.slf 0 [.int n], .fro (.int n), .fro t, .fro (.lst (il b.1)), .fro (.lst (nl b.2))], ?_, rfl⟩
    have l1 : b.1.length ≤ 1000000 := by
      have := ok.tn b hb
      have := nodup_le n (b.1.map Int.toNat) (by
        rw [List.Nodup, List.pairwise_map]
        exact List.Pairwise.imp_of_mem (fun {x y} hx hy hxy e => hxy (by have := (ok.tn b hb).2 x hx; have := (ok.tn b hb).2 y hy; omega)) (ok.tn b hb).1) fun x hx => by
          obtain ⟨y, hy, rfl⟩ := List.mem_map.mp hx
          have := (ok.tn b hb).2 y hy
          omega
      rw [List.length_map] at this
      have := ok.n1
      omega
    have s1 : pSorted (.lst (il b.1)) = some (.lst (il (Dn.isort b.1))) := by
      show (intsOf (il b.1)).bind _ = _
      rw [intsOf_il, Option.bind_some, if_pos (show b.1.length ≤ big from l1)]
      rfl
    have s2 : pTuple (.lst (nl b.2)) = some (.tup (nl b.2)) := rfl
    refine t_eq ?_; simp -dsimp only [↓fUn_b, ↓fTru_b, ↓fNotT_b, ↓lCons_b, ↓fTup_b, ↓fCall_b, ↓sSeq_b, ↓sIf_b, ↓iSeq_b, ↓fNew_b, ↓nLc_b, ↓sFldSet_b, ↓fC_b, ↓lNil_b, ↓sNil_b, ↓fYes_b, ↓tgName_b, ↓tgNil_b, ↓tgCons_b, ↓tgTup_b, ↓lcRun_b, ↓frz_val, ↓lrs_val, ↓liftS_b, ↓liftN_b, ↓seqOf_t_b, ↓seqOf_l_b, ↓lstOf_l_b, ↓intOf_i_b, ↓blOf_b_b, ↓tru_n_b, ↓tru_b_b, ↓tru_i_b, ↓tru_t_b, ↓tru_l_b, ↓pLen_t_b, ↓pLen_l_b, ↓pLen_s_b, ↓pTuple_t_b, ↓pTuple_l_b, ↓pAdd_i_b, ↓atI_0_b, ↓atI_1_b, ↓atI_2_b, ↓atI_3_b, ↓lg0_b, ↓lg1_b, ↓lg2_b, ↓lg3_b, rs_val, outV_rt, outV_nx, backE_n, backE_u, wipeE_n, wipeE_u, froOf_f, froOf_u, seqOf_t, seqOf_l, lstOf_l, intOf_i, blOf_b, tru_n, tru_b, tru_i, tru_t, tru_l, pLen_t, pLen_l, pLen_s, pTuple_t, pTuple_l, pAdd_i, atI_0, atI_1, atI_2, atI_3, lg0, lg1, lg2, lg3, pIx_t, pIx_l, pAdd_t, pAdd_l, ↓keyOf1_ib, keyOf1_i, ↓T.bind_assoc, bind_ret', bind_bad', bind_exc', bind_draw', lift_some, lift_none', big, below62', below24', below64', below29', mul_ok, div_ok, mod_ok, ↓sRaise_b, ↓mArgs_bb, envB_self, tryT_ret, tryT_exc, tryT_draw, List.length_cons, List.length_nil, List.map_cons, List.map_nil, List.append_nil, List.nil_append, List.cons_append, List.replicate_succ, List.replicate_zero, List.isEmpty_nil, List.isEmpty_cons, Option.map_some, Option.map_none, Option.bind_some, Option.bind_none, true_and, and_true, and_self, false_and, and_false, true_or, or_true, false_or, or_false, not_true_eq_false, not_false_eq_true, Bool.not_true, Bool.not_false, Bool.true_and, Bool.and_true, Bool.false_and, Bool.and_false, Bool.true_or, Bool.or_true, Bool.or_false, Bool.false_or, decide_true, decide_false, decide_eq_true_eq, decide_eq_false_iff_not, if_true, if_false, ite_true, ite_false, ↓reduceIte, Int.natCast_nonneg, Nat.reduceLT, Nat.reduceLeDiff, Nat.reduceEqDiff, Nat.reduceSub, Nat.reduceMul, Int.reduceLT, Int.reduceLE, Int.reduceEq, Int.reduceAdd, Int.reduceSub, Int.reduceMul, Int.reduceNeg, Int.reducePow, List.length_map, List.length_range, eq_self, ne_eq, Classical.not_not, Bool.not_eq_true, Bool.not_eq_false, Bool.false_eq_true, reduceCtorEq, Int.toNat_natCast, Nat.add_eq, Nat.reduceAdd, Int.cast_ofNat_Int, Int.reduceToNat, Int.zero_add, Int.add_zero, Nat.zero_add, Nat.add_zero, Nat.sub_zero, Int.sub_zero, Int.natCast_zero, Int.natCast_one, Int.natCast_add, Int.natCast_succ, beq_self_eq_true, Bool.decide_eq_true, Bool.decide_eq_false, ↓vf0, ↓vm0, rf0, rm0, ↓qf0, ↓qm0, ↓zf0, ↓zm0, ↓im0, ss0, ↓vf1, ↓vm1, rf1, rm1, ↓qf1, ↓qm1, ↓zf1, ↓zm1, ↓im1, ss1, ↓vf2, ↓vm2, rf2, rm2, ↓qf2, ↓qm2, ↓zf2, ↓zm2, ↓im2, ss2, ↓vf3, ↓vm3, rf3, rm3, ↓qf3, ↓qm3, ↓zf3, ↓zm3, ↓im3, ss3, ↓vf4, ↓vm4, rf4, rm4, ↓qf4, ↓qm4, ↓zf4, ↓zm4, ↓im4, ss4, s1, s2, rowV, srtR, rawV]; (try simp only [T.bind_ret])
  have hm : (rows.map fun r => rowV (srtR r)) = (rows.map srtR).map rowV := by rw [List.map_map]; rfl
  rw [hm] at c
  unfold f_Rota b_Rota
  refine t_eq ?_
  simp -dsimp only [fnInit, List.reduceReplicate, outI, rotaV, ↓fBin_b, ↓fUn_b, ↓fTru_b, ↓fBlT_b, ↓fNotT_b, ↓fOrT_b, ↓fAnd_b, ↓fNot_b, ↓fIf_b, ↓lCons_b, ↓fTup_b, ↓fSl_b, ↓fCall_b, ↓sSeq_b, ↓sExpr_b, ↓sRet_b, ↓sIf_b, ↓sSet_b, ↓sAsg_b, ↓iSeq_b, ↓iRange1_b, ↓sFor_b, ↓fNew_b, ↓nLst_b, ↓nList_b, ↓fAppend_b, ↓fPopAt_b, ↓nLc_b, ↓nListRange_b, ↓sPar_b, ↓sParE_b, ↓sParN_b, ↓sFldSet_b, ↓fC_b, ↓lNil_b, ↓sNil_b, ↓fYes_b, ↓tgName_b, ↓tgNil_b, ↓tgCons_b, ↓tgTup_b, ↓lcRun_b, ↓fPart_n, ↓fPart_s, ↓frz_val, ↓lrs_val, ↓liftS_b, ↓liftN_b, ↓seqOf_t_b, ↓seqOf_l_b, ↓lstOf_l_b, ↓intOf_i_b, ↓blOf_b_b, ↓tru_n_b, ↓tru_b_b, ↓tru_i_b, ↓tru_t_b, ↓tru_l_b, ↓pLen_t_b, ↓pLen_l_b, ↓pLen_s_b, ↓pTuple_t_b, ↓pTuple_l_b, ↓pAdd_i_b, ↓pNeg_i_b, ↓pLt_i_b, ↓pGt_i_b, ↓pGe_i_b, ↓pMax2_i_b, ↓pMin2_i_b, ↓pIs_nn_b, ↓pIs_in_b, ↓pIs_tn_b, ↓pIs_ln_b, ↓pIs_bn_b, ↓pIs_bb_b, ↓pNotIs_nn_b, ↓pNotIs_in_b, ↓pNotIs_tn_b, ↓pNotIs_ln_b, ↓pNotIs_bn_b, ↓pNotIs_bb_b, ↓pCut_t_b, ↓pCut_l_b, ↓atI_0_b, ↓atI_1_b, ↓atI_2_b, ↓atI_3_b, ↓lg0_b, ↓lg1_b, ↓lg2_b, ↓lg3_b, ↓isi_bl_int_b, ↓isi_bl_bool_b, ↓isi_bl_tuple_b, ↓isi2_bl_b, ↓isi_int_int_b, ↓isi_int_bool_b, ↓isi_int_tuple_b, ↓isi2_int_b, ↓isi_str_int_b, ↓isi_str_bool_b, ↓isi_str_tuple_b, ↓isi2_str_b, ↓isi_tup_int_b, ↓isi_tup_bool_b, ↓isi_tup_tuple_b, ↓isi2_tup_b, ↓isi_lst_int_b, ↓isi_lst_bool_b, ↓isi_lst_tuple_b, ↓isi2_lst_b, rs_val, outV_rt, outV_nx, backE_n, backE_u, wipeE_n, wipeE_u, froOf_f, froOf_u, seqOf_t, seqOf_l, lstOf_l, intOf_i, blOf_b, tru_n, tru_b, tru_i, tru_t, tru_l, pLen_t, pLen_l, pLen_s, pTuple_t, pTuple_l, pAdd_i, pNeg_i, pLt_i, pGt_i, pGe_i, pMax2_i, pMin2_i, pIs_nn, pIs_in, pIs_tn, pIs_ln, pIs_bn, pIs_bb, pNotIs_nn, pNotIs_in, pNotIs_tn, pNotIs_ln, pNotIs_bn, pNotIs_bb, pCut_t, pCut_l, atI_0, atI_1, atI_2, atI_3, lg0, lg1, lg2, lg3, isi_bl_int, isi_bl_bool, isi_bl_tuple, isi2_bl, isi_int_int, isi_int_bool, isi_int_tuple, isi2_int, isi_str_int, isi_str_bool, isi_str_tuple, isi2_str, isi_tup_int, isi_tup_bool, isi_tup_tuple, isi2_tup, isi_lst_int, isi_lst_bool, isi_lst_tuple, isi2_lst, pIx_t, pIx_l, pAdd_t, pAdd_l, ↓keyOf1_ib, keyOf1_i, ↓T.bind_assoc, bind_ret', bind_bad', bind_exc', bind_draw', lift_some, lift_none', big, below62', below24', below64', below29', mul_ok, div_ok, mod_ok, ↓sRaise_b, ↓sTryB_b, mDrop_b, ↓mArgs_bb, mArgs_b, mIfX_b, mIfS_b, envB_self, tryT_ret, tryT_exc, tryT_draw, List.length_cons, List.length_nil, List.map_cons, List.map_nil, List.append_nil, List.nil_append, List.cons_append, List.replicate_succ, List.replicate_zero, List.isEmpty_nil, List.isEmpty_cons, Option.map_some, Option.map_none, Option.bind_some, Option.bind_none, true_and, and_true, and_self, false_and, and_false, true_or, or_true, false_or, or_false, not_true_eq_false, not_false_eq_true, Bool.not_true, Bool.not_false, Bool.true_and, Bool.and_true, Bool.false_and, Bool.and_false, Bool.true_or, Bool.or_true, Bool.or_false, Bool.false_or, decide_true, decide_false, decide_eq_true_eq, decide_eq_false_iff_not, if_true, if_false, ite_true, ite_false, ↓reduceIte, Int.natCast_nonneg, Nat.reduceLT, Nat.reduceLeDiff, Nat.reduceEqDiff, Nat.reduceSub, Nat.reduceMul, Int.reduceLT, Int.reduceLE, Int.reduceEq, Int.reduceAdd, Int.reduceSub, Int.reduceMul, Int.reduceNeg, Int.reducePow, List.length_map, List.length_range, eq_self, ne_eq, Classical.not_not, Bool.not_eq_true, Bool.not_eq_false, Bool.false_eq_true, reduceCtorEq, Int.toNat_natCast, Nat.add_eq, Nat.reduceAdd, Int.cast_ofNat_Int, Int.reduceToNat, Int.zero_add, Int.add_zero, Nat.zero_add, Nat.add_zero, Nat.sub_zero, Int.sub_zero, Int.natCast_zero, Int.natCast_one, Int.natCast_add, Int.natCast_succ, beq_self_eq_true, Bool.decide_eq_true, Bool.decide_eq_false, ↓vf0, ↓vm0, rf0, rm0, ↓qf0, ↓qm0, ↓zf0, ↓zm0, ↓im0, ss0, ↓imd0, ↓vf1, ↓vm1, rf1, rm1, ↓qf1, ↓qm1, ↓zf1, ↓zm1, ↓im1, ss1, ↓imd1, ↓vf2, ↓vm2, rf2, rm2, ↓qf2, ↓qm2, ↓zf2, ↓zm2, ↓im2, ss2, ↓imd2, ↓vf3, ↓vm3, rf3, rm3, ↓qf3, ↓qm3, ↓zf3, ↓zm3, ↓im3, ss3, ↓imd3, ↓vf4, ↓vm4, rf4, rm4, ↓qf4, ↓qm4, ↓zf4, ↓zm4, ↓im4, ss4, ↓imd4, ↓vf5, ↓vm5, rf5, rm5, ↓qf5, ↓qm5, ↓zf5, ↓zm5, ↓im5, ss5, ↓imd5, ↓vf6, ↓vm6, rf6, rm6, ↓qf6, ↓qm6, ↓zf6, ↓zm6, ↓im6, ss6, ↓imd6, ↓vf7, ↓vm7, rf7, rm7, ↓qf7, ↓qm7, ↓zf7, ↓zm7, ↓im7, ss7, ↓imd7, ↓vf8, ↓vm8, rf8, rm8, ↓qf8, ↓qm8, ↓zf8, ↓zm8, ↓im8, ss8, ↓imd8, ↓vf9, ↓vm9, rf9, rm9, ↓qf9, ↓qm9, ↓zf9, ↓zm9, ↓im9, ss9, ↓imd9, ↓vf10, ↓vm10, rf10, rm10, ↓qf10, ↓qm10, ↓zf10, ↓zm10, ↓im10, ss10, ↓imd10, S0t0_Rota_init, U0t0_Rota_init, S1t0_Rota_init, U1t0_Rota_init, S0_Rota_init, S1_Rota_init, S2_Rota_init, S3_Rota_init, U3_Rota_init, U2_Rota_init, U1_Rota_init, U0_Rota_init, e1, e2, c]
theorem rota_p {p t : AV} (h : f_is_whole [p, .int 1] = .ret (.bl false)) : f_Rota [p, t] = .exc 1 [.str "places"] := by
  unfold f_Rota b_Rota
  refine t_eq ?_
  simp -dsimp only [fnInit, List.reduceReplicate, outI, ↓fBin_b, ↓fUn_b, ↓fTru_b, ↓fBlT_b, ↓fNotT_b, ↓fOrT_b, ↓fAnd_b, ↓fNot_b, ↓fIf_b, ↓lCons_b, ↓fTup_b, ↓fSl_b, ↓fCall_b, ↓sSeq_b, ↓sExpr_b, ↓sRet_b, ↓sIf_b, ↓sSet_b, ↓sAsg_b, ↓iSeq_b, ↓iRange1_b, ↓sFor_b, ↓fNew_b, ↓nLst_b, ↓nList_b, ↓fAppend_b, ↓fPopAt_b, ↓nLc_b, ↓nListRange_b, ↓sPar_b, ↓sParE_b, ↓sParN_b, ↓sFldSet_b, ↓fC_b, ↓lNil_b, ↓sNil_b, ↓fYes_b, ↓tgName_b, ↓tgNil_b, ↓tgCons_b, ↓tgTup_b, ↓lcRun_b, ↓fPart_n, ↓fPart_s, ↓frz_val, ↓lrs_val, ↓liftS_b, ↓liftN_b, ↓seqOf_t_b, ↓seqOf_l_b, ↓lstOf_l_b, ↓intOf_i_b, ↓blOf_b_b, ↓tru_n_b, ↓tru_b_b, ↓tru_i_b, ↓tru_t_b, ↓tru_l_b, ↓pLen_t_b, ↓pLen_l_b, ↓pLen_s_b, ↓pTuple_t_b, ↓pTuple_l_b, ↓pAdd_i_b, ↓pNeg_i_b, ↓pLt_i_b, ↓pGt_i_b, ↓pGe_i_b, ↓pMax2_i_b, ↓pMin2_i_b, ↓pIs_nn_b, ↓pIs_in_b, ↓pIs_tn_b, ↓pIs_ln_b, ↓pIs_bn_b, ↓pIs_bb_b, ↓pNotIs_nn_b, ↓pNotIs_in_b, ↓pNotIs_tn_b, ↓pNotIs_ln_b, ↓pNotIs_bn_b, ↓pNotIs_bb_b, ↓pCut_t_b, ↓pCut_l_b, ↓atI_0_b, ↓atI_1_b, ↓atI_2_b, ↓atI_3_b, ↓lg0_b, ↓lg1_b, ↓lg2_b, ↓lg3_b, ↓isi_bl_int_b, ↓isi_bl_bool_b, ↓isi_bl_tuple_b, ↓isi2_bl_b, ↓isi_int_int_b, ↓isi_int_bool_b, ↓isi_int_tuple_b, ↓isi2_int_b, ↓isi_str_int_b, ↓isi_str_bool_b, ↓isi_str_tuple_b, ↓isi2_str_b, ↓isi_tup_int_b, ↓isi_tup_bool_b, ↓isi_tup_tuple_b, ↓isi2_tup_b, ↓isi_lst_int_b, ↓isi_lst_bool_b, ↓isi_lst_tuple_b, ↓isi2_lst_b, rs_val, outV_rt, outV_nx, backE_n, backE_u, wipeE_n, wipeE_u, froOf_f, froOf_u, seqOf_t, seqOf_l, lstOf_l, intOf_i, blOf_b, tru_n, tru_b, tru_i, tru_t, tru_l, pLen_t, pLen_l, pLen_s, pTuple_t, pTuple_l, pAdd_i, pNeg_i, pLt_i, pGt_i, pGe_i, pMax2_i, pMin2_i, pIs_nn, pIs_in, pIs_tn, pIs_ln, pIs_bn, pIs_bb, pNotIs_nn, pNotIs_in, pNotIs_tn, pNotIs_ln, pNotIs_bn, pNotIs_bb, pCut_t, pCut_l, atI_0, atI_1, atI_2, atI_3, lg0, lg1, lg2, lg3, isi_bl_int, isi_bl_bool, isi_bl_tuple, isi2_bl, isi_int_int, isi_int_bool, isi_int_tuple, isi2_int, isi_str_int, isi_str_bool, isi_str_tuple, isi2_str, isi_tup_int, isi_tup_bool, isi_tup_tuple, isi2_tup, isi_lst_int, isi_lst_bool, isi_lst_tuple, isi2_lst, pIx_t, pIx_l, pAdd_t, pAdd_l, ↓keyOf1_ib, keyOf1_i, ↓T.bind_assoc, bind_ret', bind_bad', bind_exc', bind_draw', lift_some, lift_none', big, below62', below24', below64', below29', mul_ok, div_ok, mod_ok, ↓sRaise_b, ↓sTryB_b, mDrop_b, ↓mArgs_bb, mArgs_b, mIfX_b, mIfS_b, envB_self, tryT_ret, tryT_exc, tryT_draw, List.length_cons, List.length_nil, List.map_cons, List.map_nil, List.append_nil, List.nil_append, List.cons_append, List.replicate_succ, List.replicate_zero, List.isEmpty_nil, List.isEmpty_cons, Option.map_some, Option.map_none, Option.bind_some, Option.bind_none, true_and, and_true, and_self, false_and, and_false, true_or, or_true, false_or, or_false, not_true_eq_false, not_false_eq_true, Bool.not_true, Bool.not_false, Bool.true_and, Bool.and_true, Bool.false_and, Bool.and_false, Bool.true_or, Bool.or_true, Bool.or_false, Bool.false_or, decide_true, decide_false, decide_eq_true_eq, decide_eq_false_iff_not, if_true, if_false, ite_true, ite_false, ↓reduceIte, Int.natCast_nonneg, Nat.reduceLT, Nat.reduceLeDiff, Nat.reduceEqDiff, Nat.reduceSub, Nat.reduceMul, Int.reduceLT, Int.reduceLE, Int.reduceEq, Int.reduceAdd, Int.reduceSub, Int.reduceMul, Int.reduceNeg, Int.reducePow, List.length_map, List.length_range, eq_self, ne_eq, Classical.not_not, Bool.not_eq_true, Bool.not_eq_false, Bool.false_eq_true, reduceCtorEq, Int.toNat_natCast, Nat.add_eq, Nat.reduceAdd, Int.cast_ofNat_Int, Int.reduceToNat, Int.zero_add, Int.add_zero, Nat.zero_add, Nat.add_zero, Nat.sub_zero, Int.sub_zero, Int.natCast_zero, Int.natCast_one, Int.natCast_add, Int.natCast_succ, beq_self_eq_true, Bool.decide_eq_true, Bool.decide_eq_false, ↓vf0, ↓vm0, rf0, rm0, ↓qf0, ↓qm0, ↓zf0, ↓zm0, ↓im0, ss0, ↓imd0, ↓vf1, ↓vm1, rf1, rm1, ↓qf1, ↓qm1, ↓zf1, ↓zm1, ↓im1, ss1, ↓imd1, ↓vf2, ↓vm2, rf2, rm2, ↓qf2, ↓qm2, ↓zf2, ↓zm2, ↓im2, ss2, ↓imd2, ↓vf3, ↓vm3, rf3, rm3, ↓qf3, ↓qm3, ↓zf3, ↓zm3, ↓im3, ss3, ↓imd3, ↓vf4, ↓vm4, rf4, rm4, ↓qf4, ↓qm4, ↓zf4, ↓zm4, ↓im4, ss4, ↓imd4, ↓vf5, ↓vm5, rf5, rm5, ↓qf5, ↓qm5, ↓zf5, ↓zm5, ↓im5, ss5, ↓imd5, ↓vf6, ↓vm6, rf6, rm6, ↓qf6, ↓qm6, ↓zf6, ↓zm6, ↓im6, ss6, ↓imd6, ↓vf7, ↓vm7, rf7, rm7, ↓qf7, ↓qm7, ↓zf7, ↓zm7, ↓im7, ss7, ↓imd7, ↓vf8, ↓vm8, rf8, rm8, ↓qf8, ↓qm8, ↓zf8, ↓zm8, ↓im8, ss8, ↓imd8, ↓vf9, ↓vm9, rf9, rm9, ↓qf9, ↓qm9, ↓zf9, ↓zm9, ↓im9, ss9, ↓imd9, ↓vf10, ↓vm10, rf10, rm10, ↓qf10, ↓qm10, ↓zf10, ↓zm10, ↓im10, ss10, ↓imd10, S0t0_Rota_init, U0t0_Rota_init, S1t0_Rota_init, U1t0_Rota_init, S0_Rota_init, S1_Rota_init, S2_Rota_init, S3_Rota_init, U3_Rota_init, U2_Rota_init, U1_Rota_init, U0_Rota_init, h]
theorem rota_r {p t : AV} (h : f_is_whole [p, .int 1] = .ret (.bl true)) (h2 : f_are_rows [t, p] = .ret (.bl false)) : f_Rota [p, t] = .exc 1 [.str "rows"] := by
  unfold f_Rota b_Rota
  refine t_eq ?_
  simp -dsimp only [fnInit, List.reduceReplicate, outI, ↓fBin_b, ↓fUn_b, ↓fTru_b, ↓fBlT_b, ↓fNotT_b, ↓fOrT_b, ↓fAnd_b, ↓fNot_b, ↓fIf_b, ↓lCons_b, ↓fTup_b, ↓fSl_b, ↓fCall_b, ↓sSeq_b, ↓sExpr_b, ↓sRet_b, ↓sIf_b, ↓sSet_b, ↓sAsg_b, ↓iSeq_b, ↓iRange1_b, ↓sFor_b, ↓fNew_b, ↓nLst_b, ↓nList_b, ↓fAppend_b, ↓fPopAt_b, ↓nLc_b, ↓nListRange_b, ↓sPar_b, ↓sParE_b, ↓sParN_b, ↓sFldSet_b, ↓fC_b, ↓lNil_b, ↓sNil_b, ↓fYes_b, ↓tgName_b, ↓tgNil_b, ↓tgCons_b, ↓tgTup_b, ↓lcRun_b, ↓fPart_n, ↓fPart_s, ↓frz_val, ↓lrs_val, ↓liftS_b, ↓liftN_b, ↓seqOf_t_b, ↓seqOf_l_b, ↓lstOf_l_b, ↓intOf_i_b, ↓blOf_b_b, ↓tru_n_b, ↓tru_b_b, ↓tru_i_b, ↓tru_t_b, ↓tru_l_b, ↓pLen_t_b, ↓pLen_l_b, ↓pLen_s_b, ↓pTuple_t_b, ↓pTuple_l_b, ↓pAdd_i_b, ↓pNeg_i_b, ↓pLt_i_b, ↓pGt_i_b, ↓pGe_i_b, ↓pMax2_i_b, ↓pMin2_i_b, ↓pIs_nn_b, ↓pIs_in_b, ↓pIs_tn_b, ↓pIs_ln_b, ↓pIs_bn_b, ↓pIs_bb_b, ↓pNotIs_nn_b, ↓pNotIs_in_b, ↓pNotIs_tn_b, ↓pNotIs_ln_b, ↓pNotIs_bn_b, ↓pNotIs_bb_b, ↓pCut_t_b, ↓pCut_l_b, ↓atI_0_b, ↓atI_1_b, ↓atI_2_b, ↓atI_3_b, ↓lg0_b, ↓lg1_b, ↓lg2_b, ↓lg3_b, ↓isi_bl_int_b, ↓isi_bl_bool_b, ↓isi_bl_tuple_b, ↓isi2_bl_b, ↓isi_int_int_b, ↓isi_int_bool_b, ↓isi_int_tuple_b, ↓isi2_int_b, ↓isi_str_int_b, ↓isi_str_bool_b, ↓isi_str_tuple_b, ↓isi2_str_b, ↓isi_tup_int_b, ↓isi_tup_bool_b, ↓isi_tup_tuple_b, ↓isi2_tup_b, ↓isi_lst_int_b, ↓isi_lst_bool_b, ↓isi_lst_tuple_b, ↓isi2_lst_b, rs_val, outV_rt, outV_nx, backE_n, backE_u, wipeE_n, wipeE_u, froOf_f, froOf_u, seqOf_t, seqOf_l, lstOf_l, intOf_i, blOf_b, tru_n, tru_b, tru_i, tru_t, tru_l, pLen_t, pLen_l, pLen_s, pTuple_t, pTuple_l, pAdd_i, pNeg_i, pLt_i, pGt_i, pGe_i, pMax2_i, pMin2_i, pIs_nn, pIs_in, pIs_tn, pIs_ln, pIs_bn, pIs_bb, pNotIs_nn, pNotIs_in, pNotIs_tn, pNotIs_ln, pNotIs_bn, pNotIs_bb, pCut_t, pCut_l, atI_0, atI_1, atI_2, atI_3, lg0, lg1, lg2, lg3, isi_bl_int, isi_bl_bool, isi_bl_tuple, isi2_bl, isi_int_int, isi_int_bool, isi_int_tuple, isi2_int, isi_str_int, isi_str_bool, isi_str_tuple, isi2_str, isi_tup_int, isi_tup_bool, isi_tup_tuple, isi2_tup, isi_lst_int, isi_lst_bool, isi_lst_tuple, isi2_lst, pIx_t, pIx_l, pAdd_t, pAdd_l, ↓keyOf1_ib, keyOf1_i, ↓T.bind_assoc, bind_ret', bind_bad', bind_exc', bind_draw', lift_some, lift_none', big, below62', below24', below64', below29', mul_ok, div_ok, mod_ok, ↓sRaise_b, ↓sTryB_b, mDrop_b, ↓mArgs_bb, mArgs_b, mIfX_b, mIfS_b, envB_self, tryT_ret, tryT_exc, tryT_draw, List.length_cons, List.length_nil, List.map_cons, List.map_nil, List.append_nil, List.nil_append, List.cons_append, List.replicate_succ, List.replicate_zero, List.isEmpty_nil, List.isEmpty_cons, Option.map_some, Option.map_none, Option.bind_some, Option.bind_none, true_and, and_true, and_self, false_and, and_false, true_or, or_true, false_or, or_false, not_true_eq_false, not_false_eq_true, Bool.not_true, Bool.not_false, Bool.true_and, Bool.and_true, Bool.false_and, Bool.and_false, Bool.true_or, Bool.or_true, Bool.or_false, Bool.false_or, decide_true, decide_false, decide_eq_true_eq, decide_eq_false_iff_not, if_true, if_false, ite_true, ite_false, ↓reduceIte, Int.natCast_nonneg, Nat.reduceLT, Nat.reduceLeDiff, Nat.reduceEqDiff, Nat.reduceSub, Nat.reduceMul, Int.reduceLT, Int.reduceLE, Int.reduceEq, Int.reduceAdd, Int.reduceSub, Int.reduceMul, Int.reduceNeg, Int.reducePow, List.length_map, List.length_range, eq_self, ne_eq, Classical.not_not, Bool.not_eq_true, Bool.not_eq_false, Bool.false_eq_true, reduceCtorEq, Int.toNat_natCast, Nat.add_eq, Nat.reduceAdd, Int.cast_ofNat_Int, Int.reduceToNat, Int.zero_add, Int.add_zero, Nat.zero_add, Nat.add_zero, Nat.sub_zero, Int.sub_zero, Int.natCast_zero, Int.natCast_one, Int.natCast_add, Int.natCast_succ, beq_self_eq_true, Bool.decide_eq_true, Bool.decide_eq_false, ↓vf0, ↓vm0, rf0, rm0, ↓qf0, ↓qm0, ↓zf0, ↓zm0, ↓im0, ss0, ↓imd0, ↓vf1, ↓vm1, rf1, rm1, ↓qf1, ↓qm1, ↓zf1, ↓zm1, ↓im1, ss1, ↓imd1, ↓vf2, ↓vm2, rf2, rm2, ↓qf2, ↓qm2, ↓zf2, ↓zm2, ↓im2, ss2, ↓imd2, ↓vf3, ↓vm3, rf3, rm3, ↓qf3, ↓qm3, ↓zf3, ↓zm3, ↓im3, ss3, ↓imd3, ↓vf4, ↓vm4, rf4, rm4, ↓qf4, ↓qm4, ↓zf4, ↓zm4, ↓im4, ss4, ↓imd4, ↓vf5, ↓vm5, rf5, rm5, ↓qf5, ↓qm5, ↓zf5, ↓zm5, ↓im5, ss5, ↓imd5, ↓vf6, ↓vm6, rf6, rm6, ↓qf6, ↓qm6, ↓zf6, ↓zm6, ↓im6, ss6, ↓imd6, ↓vf7, ↓vm7, rf7, rm7, ↓qf7, ↓qm7, ↓zf7, ↓zm7, ↓im7, ss7, ↓imd7, ↓vf8, ↓vm8, rf8, rm8, ↓qf8, ↓qm8, ↓zf8, ↓zm8, ↓im8, ss8, ↓imd8, ↓vf9, ↓vm9, rf9, rm9, ↓qf9, ↓qm9, ↓zf9, ↓zm9, ↓im9, ss9, ↓imd9, ↓vf10, ↓vm10, rf10, rm10, ↓qf10, ↓qm10, ↓zf10, ↓zm10, ↓im10, ss10, ↓imd10, S0t0_Rota_init, U0t0_Rota_init, S1t0_Rota_init, U1t0_Rota_init, S0_Rota_init, S1_Rota_init, S2_Rota_init, S3_Rota_init, U3_Rota_init, U2_Rota_init, U1_Rota_init, U0_Rota_init, h, h2]
theorem heard_ok {p t v : AV} (h : f_Rota [p, t] = .ret v) : f_law_heard [p, t] = .ret .non := by
  unfold f_law_heard b_law_heard; refine t_eq ?_; simp -dsimp only [fnOf, List.reduceReplicate, ↓lCons_b, ↓sSeq_b, ↓sRet_b, ↓sSet_b, ↓iSeq_b, ↓fC_b, ↓lNil_b, ↓sNil_b, ↓fYes_b, ↓tgName_b, ↓tgNil_b, ↓tgCons_b, ↓tgTup_b, ↓lcRun_b, ↓frz_val, ↓lrs_val, ↓liftS_b, ↓liftN_b, ↓seqOf_t_b, ↓seqOf_l_b, ↓lstOf_l_b, ↓intOf_i_b, ↓blOf_b_b, ↓tru_n_b, ↓tru_b_b, ↓tru_i_b, ↓tru_t_b, ↓tru_l_b, ↓pLen_t_b, ↓pLen_l_b, ↓pLen_s_b, ↓pAdd_i_b, ↓atI_0_b, ↓atI_1_b, ↓atI_2_b, ↓atI_3_b, ↓lg0_b, ↓lg1_b, ↓lg2_b, ↓lg3_b, rs_val, outV_rt, outV_nx, backE_n, backE_u, wipeE_n, wipeE_u, froOf_f, froOf_u, seqOf_t, seqOf_l, lstOf_l, intOf_i, blOf_b, tru_n, tru_b, tru_i, tru_t, tru_l, pLen_t, pLen_l, pLen_s, pAdd_i, atI_0, atI_1, atI_2, atI_3, lg0, lg1, lg2, lg3, pIx_t, pIx_l, pAdd_t, pAdd_l, ↓keyOf1_ib, keyOf1_i, ↓T.bind_assoc, bind_ret', bind_bad', bind_exc', bind_draw', lift_some, lift_none', big, below62', below24', below64', below29', mul_ok, div_ok, mod_ok, ↓sTryB_b, mDrop_b, ↓mArgs_bb, mArgs_b, envB_self, tryT_ret, tryT_exc, tryT_draw, List.length_cons, List.length_nil, List.map_cons, List.map_nil, List.append_nil, List.nil_append, List.cons_append, List.replicate_succ, List.replicate_zero, List.isEmpty_nil, List.isEmpty_cons, Option.map_some, Option.map_none, Option.bind_some, Option.bind_none, true_and, and_true, and_self, false_and, and_false, true_or, or_true, false_or, or_false, not_true_eq_false, not_false_eq_true, Bool.not_true, Bool.not_false, Bool.true_and, Bool.and_true, Bool.false_and, Bool.and_false, Bool.true_or, Bool.or_true, Bool.or_false, Bool.false_or, decide_true, decide_false, decide_eq_true_eq, decide_eq_false_iff_not, if_true, if_false, ite_true, ite_false, ↓reduceIte, Int.natCast_nonneg, Nat.reduceLT, Nat.reduceLeDiff, Nat.reduceEqDiff, Nat.reduceSub, Nat.reduceMul, Int.reduceLT, Int.reduceLE, Int.reduceEq, Int.reduceAdd, Int.reduceSub, Int.reduceMul, Int.reduceNeg, Int.reducePow, List.length_map, List.length_range, eq_self, ne_eq, Classical.not_not, Bool.not_eq_true, Bool.not_eq_false, Bool.false_eq_true, reduceCtorEq, Int.toNat_natCast, Nat.add_eq, Nat.reduceAdd, Int.cast_ofNat_Int, Int.reduceToNat, Int.zero_add, Int.add_zero, Nat.zero_add, Nat.add_zero, Nat.sub_zero, Int.sub_zero, Int.natCast_zero, Int.natCast_one, Int.natCast_add, Int.natCast_succ, beq_self_eq_true, Bool.decide_eq_true, Bool.decide_eq_false, ↓vf0, ↓vm0, rf0, rm0, ↓qf0, ↓qm0, ↓zf0, ↓zm0, ↓im0, ss0, ↓vf1, ↓vm1, rf1, rm1, ↓qf1, ↓qm1, ↓zf1, ↓zm1, ↓im1, ss1, ↓vf2, ↓vm2, rf2, rm2, ↓qf2, ↓qm2, ↓zf2, ↓zm2, ↓im2, ss2, ↓vf3, ↓vm3, rf3, rm3, ↓qf3, ↓qm3, ↓zf3, ↓zm3, ↓im3, ss3, S0_law_heard, S1_law_heard, S2_law_heard, U2_law_heard, U1_law_heard, U0_law_heard, h]
theorem heard_exc {p t x : AV} (h : f_Rota [p, t] = .exc 1 [x]) : f_law_heard [p, t] = .ret x := by
  have hs : sb_InvalidRota 1 = true := rfl
  have hh : hndE 3 2 (fun _ => true) (fun _ => false) "other" 1 [x] [.fro p, .fro t, .fro .non, .un] = .ret (.nx [.fro p, .fro t, .fro x, .un]) := rfl
  unfold f_law_heard b_law_heard; refine t_eq ?_; simp -dsimp only [fnOf, List.reduceReplicate, ↓lCons_b, ↓sSeq_b, ↓sRet_b, ↓sSet_b, ↓iSeq_b, ↓fC_b, ↓lNil_b, ↓sNil_b, ↓fYes_b, ↓tgName_b, ↓tgNil_b, ↓tgCons_b, ↓tgTup_b, ↓lcRun_b, ↓frz_val, ↓lrs_val, ↓liftS_b, ↓liftN_b, ↓seqOf_t_b, ↓seqOf_l_b, ↓lstOf_l_b, ↓intOf_i_b, ↓blOf_b_b, ↓tru_n_b, ↓tru_b_b, ↓tru_i_b, ↓tru_t_b, ↓tru_l_b, ↓pLen_t_b, ↓pLen_l_b, ↓pLen_s_b, ↓pAdd_i_b, ↓atI_0_b, ↓atI_1_b, ↓atI_2_b, ↓atI_3_b, ↓lg0_b, ↓lg1_b, ↓lg2_b, ↓lg3_b, rs_val, outV_rt, outV_nx, backE_n, backE_u, wipeE_n, wipeE_u, froOf_f, froOf_u, seqOf_t, seqOf_l, lstOf_l, intOf_i, blOf_b, tru_n, tru_b, tru_i, tru_t, tru_l, pLen_t, pLen_l, pLen_s, pAdd_i, atI_0, atI_1, atI_2, atI_3, lg0, lg1, lg2, lg3, pIx_t, pIx_l, pAdd_t, pAdd_l, ↓keyOf1_ib, keyOf1_i, ↓T.bind_assoc, bind_ret', bind_bad', bind_exc', bind_draw', lift_some, lift_none', big, below62', below24', below64', below29', mul_ok, div_ok, mod_ok, ↓sTryB_b, mDrop_b, ↓mArgs_bb, mArgs_b, envB_self, tryT_ret, tryT_exc, tryT_draw, List.length_cons, List.length_nil, List.map_cons, List.map_nil, List.append_nil, List.nil_append, List.cons_append, List.replicate_succ, List.replicate_zero, List.isEmpty_nil, List.isEmpty_cons, Option.map_some, Option.map_none, Option.bind_some, Option.bind_none, true_and, and_true, and_self, false_and, and_false, true_or, or_true, false_or, or_false, not_true_eq_false, not_false_eq_true, Bool.not_true, Bool.not_false, Bool.true_and, Bool.and_true, Bool.false_and, Bool.and_false, Bool.true_or, Bool.or_true, Bool.or_false, Bool.false_or, decide_true, decide_false, decide_eq_true_eq, decide_eq_false_iff_not, if_true, if_false, ite_true, ite_false, ↓reduceIte, Int.natCast_nonneg, Nat.reduceLT, Nat.reduceLeDiff, Nat.reduceEqDiff, Nat.reduceSub, Nat.reduceMul, Int.reduceLT, Int.reduceLE, Int.reduceEq, Int.reduceAdd, Int.reduceSub, Int.reduceMul, Int.reduceNeg, Int.reducePow, List.length_map, List.length_range, eq_self, ne_eq, Classical.not_not, Bool.not_eq_true, Bool.not_eq_false, Bool.false_eq_true, reduceCtorEq, Int.toNat_natCast, Nat.add_eq, Nat.reduceAdd, Int.cast_ofNat_Int, Int.reduceToNat, Int.zero_add, Int.add_zero, Nat.zero_add, Nat.add_zero, Nat.sub_zero, Int.sub_zero, Int.natCast_zero, Int.natCast_one, Int.natCast_add, Int.natCast_succ, beq_self_eq_true, Bool.decide_eq_true, Bool.decide_eq_false, ↓vf0, ↓vm0, rf0, rm0, ↓qf0, ↓qm0, ↓zf0, ↓zm0, ↓im0, ss0, ↓vf1, ↓vm1, rf1, rm1, ↓qf1, ↓qm1, ↓zf1, ↓zm1, ↓im1, ss1, ↓vf2, ↓vm2, rf2, rm2, ↓qf2, ↓qm2, ↓zf2, ↓zm2, ↓im2, ss2, ↓vf3, ↓vm3, rf3, rm3, ↓qf3, ↓qm3, ↓zf3, ↓zm3, ↓im3, ss3, S0_law_heard, S1_law_heard, S2_law_heard, U2_law_heard, U1_law_heard, U0_law_heard, h, hs, hh]
end K03
set_option Elab.async false
set_option linter.all false
set_option maxRecDepth 100000
set_option maxHeartbeats 0
namespace K03
open PySem PySem.Spec PyProof.Rows L2 Dn
theorem k3_times (ns : List Int) : (if (if (ns.length : Int) < 3 then (ns.length : Int) else 3) > 1 then (if (ns.length : Int) < 3 then (ns.length : Int) else 3) else 1) = ((max 1 (min 3 ns.length) : Nat) : Int) := by
  split <;> split <;> omega
def Fz (s : Dn.Slot) : Prop := froOf (some s) = s
theorem law_box_eq (ns : List Int) (k o : Int) (hk : 0 ≤ k) (ho : 0 ≤ o) : f_law_box [.scr ns, .int k, .int o] = .ret .box := by
  show fBox _ = _
  unfold fBox
  exact if_pos ⟨hk, ho⟩
theorem law_pick_all (xs : List AV) (h0 : 0 < xs.length) (h1 : xs.length < 1000) : (f_law_pick [.box, .lst xs]).Al (fun t => t ∈ xs) NoX := by
  refine aFnQ rfl ?_
  show (K0_law_pick [.fro .box, .fro (.lst xs)]).Al _ _
  have tk := take_eq (b := (xs.length : Int)) (by omega) (by omega)
  (simp only [U0_law_pick, al_seq, nx_nx, lq_nx]; refine al_rd _ (by (simp -dsimp only [↓fBin_b, ↓fUn_b, ↓lCons_b, ↓fCall_b, ↓sSeq_b, ↓sRet_b, ↓iSeq_b, ↓fC_b, ↓lNil_b, ↓sNil_b, ↓fYes_b, ↓tgName_b, ↓tgNil_b, ↓tgCons_b, ↓tgTup_b, ↓lcRun_b, ↓frz_val, ↓lrs_val, ↓liftS_b, ↓liftN_b, ↓seqOf_t_b, ↓seqOf_l_b, ↓lstOf_l_b, ↓intOf_i_b, ↓blOf_b_b, ↓tru_n_b, ↓tru_b_b, ↓tru_i_b, ↓tru_t_b, ↓tru_l_b, ↓pLen_t_b, ↓pLen_l_b, ↓pLen_s_b, ↓pAdd_i_b, ↓atI_0_b, ↓atI_1_b, ↓atI_2_b, ↓atI_3_b, ↓lg0_b, ↓lg1_b, ↓lg2_b, ↓lg3_b, rs_val, outV_rt, outV_nx, backE_n, backE_u, wipeE_n, wipeE_u, froOf_f, froOf_u, seqOf_t, seqOf_l, lstOf_l, intOf_i, blOf_b, tru_n, tru_b, tru_i, tru_t, tru_l, pLen_t, pLen_l, pLen_s, pAdd_i, atI_0, atI_1, atI_2, atI_3, lg0, lg1, lg2, lg3, pIx_t, pIx_l, pAdd_t, pAdd_l, ↓keyOf1_ib, keyOf1_i, ↓T.bind_assoc, bind_ret', bind_bad', bind_exc', bind_draw', lift_some, lift_none', big, below62', below24', below64', below29', mul_ok, div_ok, mod_ok, ↓mArgs_bb, envB_self, tryT_ret, tryT_exc, tryT_draw, List.length_cons, List.length_nil, List.map_cons, List.map_nil, List.append_nil, List.nil_append, List.cons_append, List.replicate_succ, List.replicate_zero, List.isEmpty_nil, List.isEmpty_cons, Option.map_some, Option.map_none, Option.bind_some, Option.bind_none, true_and, and_true, and_self, false_and, and_false, true_or, or_true, false_or, or_false, not_true_eq_false, not_false_eq_true, Bool.not_true, Bool.not_false, Bool.true_and, Bool.and_true, Bool.false_and, Bool.and_false, Bool.true_or, Bool.or_true, Bool.or_false, Bool.false_or, decide_true, decide_false, decide_eq_true_eq, decide_eq_false_iff_not, if_true, if_false, ite_true, ite_false, ↓reduceIte, Int.natCast_nonneg, Nat.reduceLT, Nat.reduceLeDiff, Nat.reduceEqDiff, Nat.reduceSub, Nat.reduceMul, Int.reduceLT, Int.reduceLE, Int.reduceEq, Int.reduceAdd, Int.reduceSub, Int.reduceMul, Int.reduceNeg, Int.reducePow, List.length_map, List.length_range, eq_self, ne_eq, Classical.not_not, Bool.not_eq_true, Bool.not_eq_false, Bool.false_eq_true, reduceCtorEq, Int.toNat_natCast, Nat.add_eq, Nat.reduceAdd, Int.cast_ofNat_Int, Int.reduceToNat, Int.zero_add, Int.add_zero, Nat.zero_add, Nat.add_zero, Nat.sub_zero, Int.sub_zero, Int.natCast_zero, Int.natCast_one, Int.natCast_add, Int.natCast_succ, beq_self_eq_true, Bool.decide_eq_true, Bool.decide_eq_false, ↓vf0, ↓vm0, rf0, rm0, ↓qf0, ↓qm0, ↓zf0, ↓zm0, ↓im0, ss0, ↓vf1, ↓vm1, rf1, rm1, ↓qf1, ↓qm1, ↓zf1, ↓zm1, ↓im1, ss1, S0_law_pick, U0_law_pick, tk]); (try simp only [T.bind_ret]); exact rfl) ?_); (try (with_reducible refine al_nx ?_))
  refine al_dr fun r hr => ?_
  have hr2 : r < xs.length := by omega
  have e : atI xs (r : Int) = some xs[r] := by rw [atI_nat' hr2, List.getElem?_eq_getElem hr2]
  (try refine al_rd _ (by (simp -dsimp only [↓fBin_b, ↓fUn_b, ↓fTru_b, ↓fBlT_b, ↓fNotT_b, ↓fOrT_b, ↓fAnd_b, ↓fNot_b, ↓fIf_b, ↓lCons_b, ↓fTup_b, ↓fSl_b, ↓fCall_b, ↓sSeq_b, ↓sExpr_b, ↓sRet_b, ↓sIf_b, ↓sSet_b, ↓sAsg_b, ↓iSeq_b, ↓iRange1_b, ↓sFor_b, ↓fNew_b, ↓nLst_b, ↓nList_b, ↓fAppend_b, ↓fPopAt_b, ↓nLc_b, ↓nListRange_b, ↓sPar_b, ↓sParE_b, ↓sParN_b, ↓sFldSet_b, ↓fC_b, ↓lNil_b, ↓sNil_b, ↓fYes_b, ↓tgName_b, ↓tgNil_b, ↓tgCons_b, ↓tgTup_b, ↓lcRun_b, ↓fPart_n, ↓fPart_s, ↓frz_val, ↓lrs_val, ↓liftS_b, ↓liftN_b, ↓seqOf_t_b, ↓seqOf_l_b, ↓lstOf_l_b, ↓intOf_i_b, ↓blOf_b_b, ↓tru_n_b, ↓tru_b_b, ↓tru_i_b, ↓tru_t_b, ↓tru_l_b, ↓pLen_t_b, ↓pLen_l_b, ↓pLen_s_b, ↓pTuple_t_b, ↓pTuple_l_b, ↓pAdd_i_b, ↓pNeg_i_b, ↓pLt_i_b, ↓pGt_i_b, ↓pGe_i_b, ↓pMax2_i_b, ↓pMin2_i_b, ↓pIs_nn_b, ↓pIs_in_b, ↓pIs_tn_b, ↓pIs_ln_b, ↓pIs_bn_b, ↓pIs_bb_b, ↓pNotIs_nn_b, ↓pNotIs_in_b, ↓pNotIs_tn_b, ↓pNotIs_ln_b, ↓pNotIs_bn_b, ↓pNotIs_bb_b, ↓pCut_t_b, ↓pCut_l_b, ↓atI_0_b, ↓atI_1_b, ↓atI_2_b, ↓atI_3_b, ↓lg0_b, ↓lg1_b, ↓lg2_b, ↓lg3_b, ↓isi_bl_int_b, ↓isi_bl_bool_b, ↓isi_bl_tuple_b, ↓isi2_bl_b, ↓isi_int_int_b, ↓isi_int_bool_b, ↓isi_int_tuple_b, ↓isi2_int_b, ↓isi_str_int_b, ↓isi_str_bool_b, ↓isi_str_tuple_b, ↓isi2_str_b, ↓isi_tup_int_b, ↓isi_tup_bool_b, ↓isi_tup_tuple_b, ↓isi2_tup_b, ↓isi_lst_int_b, ↓isi_lst_bool_b, ↓isi_lst_tuple_b, ↓isi2_lst_b, rs_val, outV_rt, outV_nx, backE_n, backE_u, wipeE_n, wipeE_u, froOf_f, froOf_u, seqOf_t, seqOf_l, lstOf_l, intOf_i, blOf_b, tru_n, tru_b, tru_i, tru_t, tru_l, pLen_t, pLen_l, pLen_s, pTuple_t, pTuple_l, pAdd_i, pNeg_i, pLt_i, pGt_i, pGe_i, pMax2_i, pMin2_i, pIs_nn, pIs_in, pIs_tn, pIs_ln, pIs_bn, pIs_bb, pNotIs_nn, pNotIs_in, pNotIs_tn, pNotIs_ln, pNotIs_bn, pNotIs_bb, pCut_t, pCut_l, atI_0, atI_1, atI_2, atI_3, lg0, lg1, lg2, lg3, isi_bl_int, isi_bl_bool, isi_bl_tuple, isi2_bl, isi_int_int, isi_int_bool, isi_int_tuple, isi2_int, isi_str_int, isi_str_bool, isi_str_tuple, isi2_str, isi_tup_int, isi_tup_bool, isi_tup_tuple, isi2_tup, isi_lst_int, isi_lst_bool, isi_lst_tuple, isi2_lst, pIx_t, pIx_l, pAdd_t, pAdd_l, ↓keyOf1_ib, keyOf1_i, ↓T.bind_assoc, bind_ret', bind_bad', bind_exc', bind_draw', lift_some, lift_none', big, below62', below24', below64', below29', mul_ok, div_ok, mod_ok, ↓sRaise_b, ↓sTryB_b, mDrop_b, ↓mArgs_bb, mArgs_b, mIfX_b, mIfS_b, envB_self, tryT_ret, tryT_exc, tryT_draw, List.length_cons, List.length_nil, List.map_cons, List.map_nil, List.append_nil, List.nil_append, List.cons_append, List.replicate_succ, List.replicate_zero, List.isEmpty_nil, List.isEmpty_cons, Option.map_some, Option.map_none, Option.bind_some, Option.bind_none, true_and, and_true, and_self, false_and, and_false, true_or, or_true, false_or, or_false, not_true_eq_false, not_false_eq_true, Bool.not_true, Bool.not_false, Bool.true_and, Bool.and_true, Bool.false_and, Bool.and_false, Bool.true_or, Bool.or_true, Bool.or_false, Bool.false_or, decide_true, decide_false, decide_eq_true_eq, decide_eq_false_iff_not, if_true, if_false, ite_true, ite_false, ↓reduceIte, Int.natCast_nonneg, Nat.reduceLT, Nat.reduceLeDiff, Nat.reduceEqDiff, Nat.reduceSub, Nat.reduceMul, Int.reduceLT, Int.reduceLE, Int.reduceEq, Int.reduceAdd, Int.reduceSub, Int.reduceMul, Int.reduceNeg, Int.reducePow, List.length_map, List.length_range, eq_self, ne_eq, Classical.not_not, Bool.not_eq_true, Bool.not_eq_false, Bool.false_eq_true, reduceCtorEq, Int.toNat_natCast, Nat.add_eq, Nat.reduceAdd, Int.cast_ofNat_Int, Int.reduceToNat, Int.zero_add, Int.add_zero, Nat.zero_add, Nat.add_zero, Nat.sub_zero, Int.sub_zero, Int.natCast_zero, Int.natCast_one, Int.natCast_add, Int.natCast_succ, beq_self_eq_true, Bool.decide_eq_true, Bool.decide_eq_false, ↓vf0, ↓vm0, rf0, rm0, ↓qf0, ↓qm0, ↓zf0, ↓zm0, ↓im0, ss0, ↓imd0, ↓vf1, ↓vm1, rf1, rm1, ↓qf1, ↓qm1, ↓zf1, ↓zm1, ↓im1, ss1, ↓imd1, ↓vf2, ↓vm2, rf2, rm2, ↓qf2, ↓qm2, ↓zf2, ↓zm2, ↓im2, ss2, ↓imd2, ↓vf3, ↓vm3, rf3, rm3, ↓qf3, ↓qm3, ↓zf3, ↓zm3, ↓im3, ss3, ↓imd3, ↓vf4, ↓vm4, rf4, rm4, ↓qf4, ↓qm4, ↓zf4, ↓zm4, ↓im4, ss4, ↓imd4, ↓vf5, ↓vm5, rf5, rm5, ↓qf5, ↓qm5, ↓zf5, ↓zm5, ↓im5, ss5, ↓imd5, ↓vf6, ↓vm6, rf6, rm6, ↓qf6, ↓qm6, ↓zf6, ↓zm6, ↓im6, ss6, ↓imd6, ↓vf7, ↓vm7, rf7, rm7, ↓qf7, ↓qm7, ↓zf7, ↓zm7, ↓im7, ss7, ↓imd7, ↓vf8, ↓vm8, rf8, rm8, ↓qf8, ↓qm8, ↓zf8, ↓zm8, ↓im8, ss8, ↓imd8, ↓vf9, ↓vm9, rf9, rm9, ↓qf9, ↓qm9, ↓zf9, ↓zm9, ↓im9, ss9, ↓imd9, ↓vf10, ↓vm10, rf10, rm10, ↓qf10, ↓qm10, ↓zf10, ↓zm10, ↓im10, ss10, ↓imd10, e]); (try simp only [T.bind_ret]); exact rfl) ?_); (try (with_reducible refine al_nx ?_))
  refine al_rtF ?_
  exact List.getElem_mem hr2
theorem strOk_str (s : String) : PyData.strOk (Str.ofString s) = true := by
  unfold PyData.strOk
  rw [Str.ofString_eq_toList]
  simp only [List.all_toArray, List.all_map, List.all_eq_true]
  intro c _
  have := c.valid
  show decide (c.toNat < 0x110000) = true
  rw [decide_eq_true_eq]
  rcases this with h | h
  · exact Nat.lt_trans h (by decide)
  · exact h.2
theorem pNe_self_str (s : String) : pNe (.str (Str.ofString s)) (.str (Str.ofString s)) = some (.bl false) := by
  unfold pNe
  have d : dat DEP (.str (Str.ofString s)) = true := strOk_str s
  have a : aeq DEP (.str (Str.ofString s)) (.str (Str.ofString s)) = true := by
    show (Str.ofString s == Str.ofString s) = true
    exact beq_self_eq_true _
  rw [d, a]
  rfl
theorem pEq_self_str (s : String) : pEq (.str (Str.ofString s)) (.str (Str.ofString s)) = some (.bl true) := by
  unfold pEq
  have d : dat DEP (.str (Str.ofString s)) = true := strOk_str s
  have a : aeq DEP (.str (Str.ofString s)) (.str (Str.ofString s)) = true := by
    show (Str.ofString s == Str.ofString s) = true
    exact beq_self_eq_true _
  rw [d, a]
  rfl
def deepN : Nat → AV
  | 0 => .tup []
  | i + 1 => if i % 2 = 0 then .lst [deepN i, .int 1] else .tup [deepN i]
def valL : List AV := [.int 0, .int (-3), .int 1000000000, .str "", .str "turn", .non, .bl true, .bl false, .lst [], .lst [.int 1, .str "move"], .tup [.int 0, .non], .tup [], .str "none", .int 2, .str "x y", .lst [.str "0"], .tup [.int 1, .int 0], .int 1, deepN 7]
theorem law_value_all : (f_law_value [.box]).Al (fun t => t ∈ valL) NoX := by
  refine aFnQ rfl ?_
  show (K0_law_value [.fro .box, .un, .un, .un]).Al _ _
  have pw : pPow (.int 10) (.int 9) = some (.int 1000000000) := pow_ok (i := 10) (j := 9) (by decide) (by decide)
  (simp only [U3f0_law_value, U4_law_value, U3_law_value, U2_law_value, U1_law_value, U0_law_value, al_seq, nx_nx, lq_nx]; refine al_rd _ (by (simp -dsimp only [↓fBin_b, ↓fUn_b, ↓fBlT_b, ↓fIf_b, ↓lCons_b, ↓fTup_b, ↓fCall_b, ↓sSeq_b, ↓sRet_b, ↓sSet_b, ↓iSeq_b, ↓iRange1_b, ↓sFor_b, ↓fNew_b, ↓nLst_b, ↓fC_b, ↓lNil_b, ↓sNil_b, ↓fYes_b, ↓tgName_b, ↓tgNil_b, ↓tgCons_b, ↓tgTup_b, ↓lcRun_b, ↓frz_val, ↓lrs_val, ↓liftS_b, ↓liftN_b, ↓seqOf_t_b, ↓seqOf_l_b, ↓lstOf_l_b, ↓intOf_i_b, ↓blOf_b_b, ↓tru_n_b, ↓tru_b_b, ↓tru_i_b, ↓tru_t_b, ↓tru_l_b, ↓pLen_t_b, ↓pLen_l_b, ↓pLen_s_b, ↓pAdd_i_b, ↓pNeg_i_b, ↓atI_0_b, ↓atI_1_b, ↓atI_2_b, ↓atI_3_b, ↓lg0_b, ↓lg1_b, ↓lg2_b, ↓lg3_b, rs_val, outV_rt, outV_nx, backE_n, backE_u, wipeE_n, wipeE_u, froOf_f, froOf_u, seqOf_t, seqOf_l, lstOf_l, intOf_i, blOf_b, tru_n, tru_b, tru_i, tru_t, tru_l, pLen_t, pLen_l, pLen_s, pAdd_i, pNeg_i, atI_0, atI_1, atI_2, atI_3, lg0, lg1, lg2, lg3, pIx_t, pIx_l, pAdd_t, pAdd_l, ↓keyOf1_ib, keyOf1_i, ↓T.bind_assoc, bind_ret', bind_bad', bind_exc', bind_draw', lift_some, lift_none', big, below62', below24', below64', below29', mul_ok, div_ok, mod_ok, ↓mArgs_bb, envB_self, tryT_ret, tryT_exc, tryT_draw, List.length_cons, List.length_nil, List.map_cons, List.map_nil, List.append_nil, List.nil_append, List.cons_append, List.replicate_succ, List.replicate_zero, List.isEmpty_nil, List.isEmpty_cons, Option.map_some, Option.map_none, Option.bind_some, Option.bind_none, true_and, and_true, and_self, false_and, and_false, true_or, or_true, false_or, or_false, not_true_eq_false, not_false_eq_true, Bool.not_true, Bool.not_false, Bool.true_and, Bool.and_true, Bool.false_and, Bool.and_false, Bool.true_or, Bool.or_true, Bool.or_false, Bool.false_or, decide_true, decide_false, decide_eq_true_eq, decide_eq_false_iff_not, if_true, if_false, ite_true, ite_false, ↓reduceIte, Int.natCast_nonneg, Nat.reduceLT, Nat.reduceLeDiff, Nat.reduceEqDiff, Nat.reduceSub, Nat.reduceMul, Int.reduceLT, Int.reduceLE, Int.reduceEq, Int.reduceAdd, Int.reduceSub, Int.reduceMul, Int.reduceNeg, Int.reducePow, List.length_map, List.length_range, eq_self, ne_eq, Classical.not_not, Bool.not_eq_true, Bool.not_eq_false, Bool.false_eq_true, reduceCtorEq, Int.toNat_natCast, Nat.add_eq, Nat.reduceAdd, Int.cast_ofNat_Int, Int.reduceToNat, Int.zero_add, Int.add_zero, Nat.zero_add, Nat.add_zero, Nat.sub_zero, Int.sub_zero, Int.natCast_zero, Int.natCast_one, Int.natCast_add, Int.natCast_succ, beq_self_eq_true, Bool.decide_eq_true, Bool.decide_eq_false, ↓vf0, ↓vm0, rf0, rm0, ↓qf0, ↓qm0, ↓zf0, ↓zm0, ↓im0, ss0, ↓vf1, ↓vm1, rf1, rm1, ↓qf1, ↓qm1, ↓zf1, ↓zm1, ↓im1, ss1, ↓vf2, ↓vm2, rf2, rm2, ↓qf2, ↓qm2, ↓zf2, ↓zm2, ↓im2, ss2, ↓vf3, ↓vm3, rf3, rm3, ↓qf3, ↓qm3, ↓zf3, ↓zm3, ↓im3, ss3, S3f0_law_value, S0_law_value, S1_law_value, S2_law_value, S3_law_value, S4_law_value, U3f0_law_value, U4_law_value, U3_law_value, U2_law_value, U1_law_value, U0_law_value, pw]); (try simp only [T.bind_ret]); exact rfl) ?_); (try (with_reducible refine al_nx ?_))
  (simp only [U3f0_law_value, U4_law_value, U3_law_value, U2_law_value, U1_law_value, U0_law_value, al_seq, nx_nx, lq_nx]; refine al_rd _ (by (simp -dsimp only [↓fBin_b, ↓fUn_b, ↓fBlT_b, ↓fIf_b, ↓lCons_b, ↓fTup_b, ↓fCall_b, ↓sSeq_b, ↓sRet_b, ↓sSet_b, ↓iSeq_b, ↓iRange1_b, ↓sFor_b, ↓fNew_b, ↓nLst_b, ↓fC_b, ↓lNil_b, ↓sNil_b, ↓fYes_b, ↓tgName_b, ↓tgNil_b, ↓tgCons_b, ↓tgTup_b, ↓lcRun_b, ↓frz_val, ↓lrs_val, ↓liftS_b, ↓liftN_b, ↓seqOf_t_b, ↓seqOf_l_b, ↓lstOf_l_b, ↓intOf_i_b, ↓blOf_b_b, ↓tru_n_b, ↓tru_b_b, ↓tru_i_b, ↓tru_t_b, ↓tru_l_b, ↓pLen_t_b, ↓pLen_l_b, ↓pLen_s_b, ↓pAdd_i_b, ↓pNeg_i_b, ↓atI_0_b, ↓atI_1_b, ↓atI_2_b, ↓atI_3_b, ↓lg0_b, ↓lg1_b, ↓lg2_b, ↓lg3_b, rs_val, outV_rt, outV_nx, backE_n, backE_u, wipeE_n, wipeE_u, froOf_f, froOf_u, seqOf_t, seqOf_l, lstOf_l, intOf_i, blOf_b, tru_n, tru_b, tru_i, tru_t, tru_l, pLen_t, pLen_l, pLen_s, pAdd_i, pNeg_i, atI_0, atI_1, atI_2, atI_3, lg0, lg1, lg2, lg3, pIx_t, pIx_l, pAdd_t, pAdd_l, ↓keyOf1_ib, keyOf1_i, ↓T.bind_assoc, bind_ret', bind_bad', bind_exc', bind_draw', lift_some, lift_none', big, below62', below24', below64', below29', mul_ok, div_ok, mod_ok, ↓mArgs_bb, envB_self, tryT_ret, tryT_exc, tryT_draw, List.length_cons, List.length_nil, List.map_cons, List.map_nil, List.append_nil, List.nil_append, List.cons_append, List.replicate_succ, List.replicate_zero, List.isEmpty_nil, List.isEmpty_cons, Option.map_some, Option.map_none, Option.bind_some, Option.bind_none, true_and, and_true, and_self, false_and, and_false, true_or, or_true, false_or, or_false, not_true_eq_false, not_false_eq_true, Bool.not_true, Bool.not_false, Bool.true_and, Bool.and_true, Bool.false_and, Bool.and_false, Bool.true_or, Bool.or_true, Bool.or_false, Bool.false_or, decide_true, decide_false, decide_eq_true_eq, decide_eq_false_iff_not, if_true, if_false, ite_true, ite_false, ↓reduceIte, Int.natCast_nonneg, Nat.reduceLT, Nat.reduceLeDiff, Nat.reduceEqDiff, Nat.reduceSub, Nat.reduceMul, Int.reduceLT, Int.reduceLE, Int.reduceEq, Int.reduceAdd, Int.reduceSub, Int.reduceMul, Int.reduceNeg, Int.reducePow, List.length_map, List.length_range, eq_self, ne_eq, Classical.not_not, Bool.not_eq_true, Bool.not_eq_false, Bool.false_eq_true, reduceCtorEq, Int.toNat_natCast, Nat.add_eq, Nat.reduceAdd, Int.cast_ofNat_Int, Int.reduceToNat, Int.zero_add, Int.add_zero, Nat.zero_add, Nat.add_zero, Nat.sub_zero, Int.sub_zero, Int.natCast_zero, Int.natCast_one, Int.natCast_add, Int.natCast_succ, beq_self_eq_true, Bool.decide_eq_true, Bool.decide_eq_false, ↓vf0, ↓vm0, rf0, rm0, ↓qf0, ↓qm0, ↓zf0, ↓zm0, ↓im0, ss0, ↓vf1, ↓vm1, rf1, rm1, ↓qf1, ↓qm1, ↓zf1, ↓zm1, ↓im1, ss1, ↓vf2, ↓vm2, rf2, rm2, ↓qf2, ↓qm2, ↓zf2, ↓zm2, ↓im2, ss2, ↓vf3, ↓vm3, rf3, rm3, ↓qf3, ↓qm3, ↓zf3, ↓zm3, ↓im3, ss3, S3f0_law_value, S0_law_value, S1_law_value, S2_law_value, S3_law_value, S4_law_value, U3f0_law_value, U4_law_value, U3_law_value, U2_law_value, U1_law_value, U0_law_value]); (try simp only [T.bind_ret]); exact rfl) ?_); (try (with_reducible refine al_nx ?_))
  (simp only [U3f0_law_value, U4_law_value, U3_law_value, U2_law_value, U1_law_value, U0_law_value, al_seq, nx_nx, lq_nx]; refine al_rd _ (by (simp -dsimp only [↓fBin_b, ↓fUn_b, ↓fBlT_b, ↓fIf_b, ↓lCons_b, ↓fTup_b, ↓fCall_b, ↓sSeq_b, ↓sRet_b, ↓sSet_b, ↓iSeq_b, ↓iRange1_b, ↓sFor_b, ↓fNew_b, ↓nLst_b, ↓fC_b, ↓lNil_b, ↓sNil_b, ↓fYes_b, ↓tgName_b, ↓tgNil_b, ↓tgCons_b, ↓tgTup_b, ↓lcRun_b, ↓frz_val, ↓lrs_val, ↓liftS_b, ↓liftN_b, ↓seqOf_t_b, ↓seqOf_l_b, ↓lstOf_l_b, ↓intOf_i_b, ↓blOf_b_b, ↓tru_n_b, ↓tru_b_b, ↓tru_i_b, ↓tru_t_b, ↓tru_l_b, ↓pLen_t_b, ↓pLen_l_b, ↓pLen_s_b, ↓pAdd_i_b, ↓pNeg_i_b, ↓atI_0_b, ↓atI_1_b, ↓atI_2_b, ↓atI_3_b, ↓lg0_b, ↓lg1_b, ↓lg2_b, ↓lg3_b, rs_val, outV_rt, outV_nx, backE_n, backE_u, wipeE_n, wipeE_u, froOf_f, froOf_u, seqOf_t, seqOf_l, lstOf_l, intOf_i, blOf_b, tru_n, tru_b, tru_i, tru_t, tru_l, pLen_t, pLen_l, pLen_s, pAdd_i, pNeg_i, atI_0, atI_1, atI_2, atI_3, lg0, lg1, lg2, lg3, pIx_t, pIx_l, pAdd_t, pAdd_l, ↓keyOf1_ib, keyOf1_i, ↓T.bind_assoc, bind_ret', bind_bad', bind_exc', bind_draw', lift_some, lift_none', big, below62', below24', below64', below29', mul_ok, div_ok, mod_ok, ↓mArgs_bb, envB_self, tryT_ret, tryT_exc, tryT_draw, List.length_cons, List.length_nil, List.map_cons, List.map_nil, List.append_nil, List.nil_append, List.cons_append, List.replicate_succ, List.replicate_zero, List.isEmpty_nil, List.isEmpty_cons, Option.map_some, Option.map_none, Option.bind_some, Option.bind_none, true_and, and_true, and_self, false_and, and_false, true_or, or_true, false_or, or_false, not_true_eq_false, not_false_eq_true, Bool.not_true, Bool.not_false, Bool.true_and, Bool.and_true, Bool.false_and, Bool.and_false, Bool.true_or, Bool.or_true, Bool.or_false, Bool.false_or, decide_true, decide_false, decide_eq_true_eq, decide_eq_false_iff_not, if_true, if_false, ite_true, ite_false, ↓reduceIte, Int.natCast_nonneg, Nat.reduceLT, Nat.reduceLeDiff, Nat.reduceEqDiff, Nat.reduceSub, Nat.reduceMul, Int.reduceLT, Int.reduceLE, Int.reduceEq, Int.reduceAdd, Int.reduceSub, Int.reduceMul, Int.reduceNeg, Int.reducePow, List.length_map, List.length_range, eq_self, ne_eq, Classical.not_not, Bool.not_eq_true, Bool.not_eq_false, Bool.false_eq_true, reduceCtorEq, Int.toNat_natCast, Nat.add_eq, Nat.reduceAdd, Int.cast_ofNat_Int, Int.reduceToNat, Int.zero_add, Int.add_zero, Nat.zero_add, Nat.add_zero, Nat.sub_zero, Int.sub_zero, Int.natCast_zero, Int.natCast_one, Int.natCast_add, Int.natCast_succ, beq_self_eq_true, Bool.decide_eq_true, Bool.decide_eq_false, ↓vf0, ↓vm0, rf0, rm0, ↓qf0, ↓qm0, ↓zf0, ↓zm0, ↓im0, ss0, ↓vf1, ↓vm1, rf1, rm1, ↓qf1, ↓qm1, ↓zf1, ↓zm1, ↓im1, ss1, ↓vf2, ↓vm2, rf2, rm2, ↓qf2, ↓qm2, ↓zf2, ↓zm2, ↓im2, ss2, ↓vf3, ↓vm3, rf3, rm3, ↓qf3, ↓qm3, ↓zf3, ↓zm3, ↓im3, ss3, S3f0_law_value, S0_law_value, S1_law_value, S2_law_value, S3_law_value, S4_law_value, U3f0_law_value, U4_law_value, U3_law_value, U2_law_value, U1_law_value, U0_law_value]); (try simp only [T.bind_ret]); exact rfl) ?_); (try (with_reducible refine al_nx ?_))
  (simp only [U3f0_law_value, U4_law_value, U3_law_value, U2_law_value, U1_law_value, U0_law_value, al_seq, nx_nx, lq_nx]; refine al_rd _ (by (simp -dsimp only [↓fBin_b, ↓fUn_b, ↓fBlT_b, ↓fIf_b, ↓lCons_b, ↓fTup_b, ↓fCall_b, ↓sSeq_b, ↓sRet_b, ↓sSet_b, ↓iSeq_b, ↓iRange1_b, ↓sFor_b, ↓fNew_b, ↓nLst_b, ↓fC_b, ↓lNil_b, ↓sNil_b, ↓fYes_b, ↓tgName_b, ↓tgNil_b, ↓tgCons_b, ↓tgTup_b, ↓lcRun_b, ↓frz_val, ↓lrs_val, ↓liftS_b, ↓liftN_b, ↓seqOf_t_b, ↓seqOf_l_b, ↓lstOf_l_b, ↓intOf_i_b, ↓blOf_b_b, ↓tru_n_b, ↓tru_b_b, ↓tru_i_b, ↓tru_t_b, ↓tru_l_b, ↓pLen_t_b, ↓pLen_l_b, ↓pLen_s_b, ↓pAdd_i_b, ↓pNeg_i_b, ↓atI_0_b, ↓atI_1_b, ↓atI_2_b, ↓atI_3_b, ↓lg0_b, ↓lg1_b, ↓lg2_b, ↓lg3_b, rs_val, outV_rt, outV_nx, backE_n, backE_u, wipeE_n, wipeE_u, froOf_f, froOf_u, seqOf_t, seqOf_l, lstOf_l, intOf_i, blOf_b, tru_n, tru_b, tru_i, tru_t, tru_l, pLen_t, pLen_l, pLen_s, pAdd_i, pNeg_i, atI_0, atI_1, atI_2, atI_3, lg0, lg1, lg2, lg3, pIx_t, pIx_l, pAdd_t, pAdd_l, ↓keyOf1_ib, keyOf1_i, ↓T.bind_assoc, bind_ret', bind_bad', bind_exc', bind_draw', lift_some, lift_none', big, below62', below24', below64', below29', mul_ok, div_ok, mod_ok, ↓mArgs_bb, envB_self, tryT_ret, tryT_exc, tryT_draw, List.length_cons, List.length_nil, List.map_cons, List.map_nil, List.append_nil, List.nil_append, List.cons_append, List.replicate_succ, List.replicate_zero, List.isEmpty_nil, List.isEmpty_cons, Option.map_some, Option.map_none, Option.bind_some, Option.bind_none, true_and, and_true, and_self, false_and, and_false, true_or, or_true, false_or, or_false, not_true_eq_false, not_false_eq_true, Bool.not_true, Bool.not_false, Bool.true_and, Bool.and_true, Bool.false_and, Bool.and_false, Bool.true_or, Bool.or_true, Bool.or_false, Bool.false_or, decide_true, decide_false, decide_eq_true_eq, decide_eq_false_iff_not, if_true, if_false, ite_true, ite_false, ↓reduceIte, Int.natCast_nonneg, Nat.reduceLT, Nat.reduceLeDiff, Nat.reduceEqDiff, Nat.reduceSub, Nat.reduceMul, Int.reduceLT, Int.reduceLE, Int.reduceEq, Int.reduceAdd, Int.reduceSub, Int.reduceMul, Int.reduceNeg, Int.reducePow, List.length_map, List.length_range, eq_self, ne_eq, Classical.not_not, Bool.not_eq_true, Bool.not_eq_false, Bool.false_eq_true, reduceCtorEq, Int.toNat_natCast, Nat.add_eq, Nat.reduceAdd, Int.cast_ofNat_Int, Int.reduceToNat, Int.zero_add, Int.add_zero, Nat.zero_add, Nat.add_zero, Nat.sub_zero, Int.sub_zero, Int.natCast_zero, Int.natCast_one, Int.natCast_add, Int.natCast_succ, beq_self_eq_true, Bool.decide_eq_true, Bool.decide_eq_false, ↓vf0, ↓vm0, rf0, rm0, ↓qf0, ↓qm0, ↓zf0, ↓zm0, ↓im0, ss0, ↓vf1, ↓vm1, rf1, rm1, ↓qf1, ↓qm1, ↓zf1, ↓zm1, ↓im1, ss1, ↓vf2, ↓vm2, rf2, rm2, ↓qf2, ↓qm2, ↓zf2, ↓zm2, ↓im2, ss2, ↓vf3, ↓vm3, rf3, rm3, ↓qf3, ↓qm3, ↓zf3, ↓zm3, ↓im3, ss3, S3f0_law_value, S0_law_value, S1_law_value, S2_law_value, S3_law_value, S4_law_value, U3f0_law_value, U4_law_value, U3_law_value, U2_law_value, U1_law_value, U0_law_value]); (try simp only [T.bind_ret]); exact rfl) ?_); (try (with_reducible refine al_nx ?_))
  refine al_forL (fun i ρ => ∃ s3 : Dn.Slot, ρ = [.fro .box, .fro (.lst (valL.take 18)), .fro (deepN i), s3]) ⟨_, rfl⟩ (fun i x ρ hx hI => ?_) fun ρ hI => ?_
  · obtain ⟨s3, rfl⟩ := hI
    obtain ⟨hi, rfl⟩ := range_get hx
    (try refine al_rd _ (by (simp -dsimp only [↓fBin_b, ↓fUn_b, ↓fTru_b, ↓fBlT_b, ↓fNotT_b, ↓fOrT_b, ↓fAnd_b, ↓fNot_b, ↓fIf_b, ↓lCons_b, ↓fTup_b, ↓fSl_b, ↓fCall_b, ↓sSeq_b, ↓sExpr_b, ↓sRet_b, ↓sIf_b, ↓sSet_b, ↓sAsg_b, ↓iSeq_b, ↓iRange1_b, ↓sFor_b, ↓fNew_b, ↓nLst_b, ↓nList_b, ↓fAppend_b, ↓fPopAt_b, ↓nLc_b, ↓nListRange_b, ↓sPar_b, ↓sParE_b, ↓sParN_b, ↓sFldSet_b, ↓fC_b, ↓lNil_b, ↓sNil_b, ↓fYes_b, ↓tgName_b, ↓tgNil_b, ↓tgCons_b, ↓tgTup_b, ↓lcRun_b, ↓fPart_n, ↓fPart_s, ↓frz_val, ↓lrs_val, ↓liftS_b, ↓liftN_b, ↓seqOf_t_b, ↓seqOf_l_b, ↓lstOf_l_b, ↓intOf_i_b, ↓blOf_b_b, ↓tru_n_b, ↓tru_b_b, ↓tru_i_b, ↓tru_t_b, ↓tru_l_b, ↓pLen_t_b, ↓pLen_l_b, ↓pLen_s_b, ↓pTuple_t_b, ↓pTuple_l_b, ↓pAdd_i_b, ↓pNeg_i_b, ↓pLt_i_b, ↓pGt_i_b, ↓pGe_i_b, ↓pMax2_i_b, ↓pMin2_i_b, ↓pIs_nn_b, ↓pIs_in_b, ↓pIs_tn_b, ↓pIs_ln_b, ↓pIs_bn_b, ↓pIs_bb_b, ↓pNotIs_nn_b, ↓pNotIs_in_b, ↓pNotIs_tn_b, ↓pNotIs_ln_b, ↓pNotIs_bn_b, ↓pNotIs_bb_b, ↓pCut_t_b, ↓pCut_l_b, ↓atI_0_b, ↓atI_1_b, ↓atI_2_b, ↓atI_3_b, ↓lg0_b, ↓lg1_b, ↓lg2_b, ↓lg3_b, ↓isi_bl_int_b, ↓isi_bl_bool_b, ↓isi_bl_tuple_b, ↓isi2_bl_b, ↓isi_int_int_b, ↓isi_int_bool_b, ↓isi_int_tuple_b, ↓isi2_int_b, ↓isi_str_int_b, ↓isi_str_bool_b, ↓isi_str_tuple_b, ↓isi2_str_b, ↓isi_tup_int_b, ↓isi_tup_bool_b, ↓isi_tup_tuple_b, ↓isi2_tup_b, ↓isi_lst_int_b, ↓isi_lst_bool_b, ↓isi_lst_tuple_b, ↓isi2_lst_b, rs_val, outV_rt, outV_nx, backE_n, backE_u, wipeE_n, wipeE_u, froOf_f, froOf_u, seqOf_t, seqOf_l, lstOf_l, intOf_i, blOf_b, tru_n, tru_b, tru_i, tru_t, tru_l, pLen_t, pLen_l, pLen_s, pTuple_t, pTuple_l, pAdd_i, pNeg_i, pLt_i, pGt_i, pGe_i, pMax2_i, pMin2_i, pIs_nn, pIs_in, pIs_tn, pIs_ln, pIs_bn, pIs_bb, pNotIs_nn, pNotIs_in, pNotIs_tn, pNotIs_ln, pNotIs_bn, pNotIs_bb, pCut_t, pCut_l, atI_0, atI_1, atI_2, atI_3, lg0, lg1, lg2, lg3, isi_bl_int, isi_bl_bool, isi_bl_tuple, isi2_bl, isi_int_int, isi_int_bool, isi_int_tuple, isi2_int, isi_str_int, isi_str_bool, isi_str_tuple, isi2_str, isi_tup_int, isi_tup_bool, isi_tup_tuple, isi2_tup, isi_lst_int, isi_lst_bool, isi_lst_tuple, isi2_lst, pIx_t, pIx_l, pAdd_t, pAdd_l, ↓keyOf1_ib, keyOf1_i, ↓T.bind_assoc, bind_ret', bind_bad', bind_exc', bind_draw', lift_some, lift_none', big, below62', below24', below64', below29', mul_ok, div_ok, mod_ok, ↓sRaise_b, ↓sTryB_b, mDrop_b, ↓mArgs_bb, mArgs_b, mIfX_b, mIfS_b, envB_self, tryT_ret, tryT_exc, tryT_draw, List.length_cons, List.length_nil, List.map_cons, List.map_nil, List.append_nil, List.nil_append, List.cons_append, List.replicate_succ, List.replicate_zero, List.isEmpty_nil, List.isEmpty_cons, Option.map_some, Option.map_none, Option.bind_some, Option.bind_none, true_and, and_true, and_self, false_and, and_false, true_or, or_true, false_or, or_false, not_true_eq_false, not_false_eq_true, Bool.not_true, Bool.not_false, Bool.true_and, Bool.and_true, Bool.false_and, Bool.and_false, Bool.true_or, Bool.or_true, Bool.or_false, Bool.false_or, decide_true, decide_false, decide_eq_true_eq, decide_eq_false_iff_not, if_true, if_false, ite_true, ite_false, ↓reduceIte, Int.natCast_nonneg, Nat.reduceLT, Nat.reduceLeDiff, Nat.reduceEqDiff, Nat.reduceSub, Nat.reduceMul, Int.reduceLT, Int.reduceLE, Int.reduceEq, Int.reduceAdd, Int.reduceSub, Int.reduceMul, Int.reduceNeg, Int.reducePow, List.length_map, List.length_range, eq_self, ne_eq, Classical.not_not, Bool.not_eq_true, Bool.not_eq_false, Bool.false_eq_true, reduceCtorEq, Int.toNat_natCast, Nat.add_eq, Nat.reduceAdd, Int.cast_ofNat_Int, Int.reduceToNat, Int.zero_add, Int.add_zero, Nat.zero_add, Nat.add_zero, Nat.sub_zero, Int.sub_zero, Int.natCast_zero, Int.natCast_one, Int.natCast_add, Int.natCast_succ, beq_self_eq_true, Bool.decide_eq_true, Bool.decide_eq_false, ↓vf0, ↓vm0, rf0, rm0, ↓qf0, ↓qm0, ↓zf0, ↓zm0, ↓im0, ss0, ↓imd0, ↓vf1, ↓vm1, rf1, rm1, ↓qf1, ↓qm1, ↓zf1, ↓zm1, ↓im1, ss1, ↓imd1, ↓vf2, ↓vm2, rf2, rm2, ↓qf2, ↓qm2, ↓zf2, ↓zm2, ↓im2, ss2, ↓imd2, ↓vf3, ↓vm3, rf3, rm3, ↓qf3, ↓qm3, ↓zf3, ↓zm3, ↓im3, ss3, ↓imd3, ↓vf4, ↓vm4, rf4, rm4, ↓qf4, ↓qm4, ↓zf4, ↓zm4, ↓im4, ss4, ↓imd4, ↓vf5, ↓vm5, rf5, rm5, ↓qf5, ↓qm5, ↓zf5, ↓zm5, ↓im5, ss5, ↓imd5, ↓vf6, ↓vm6, rf6, rm6, ↓qf6, ↓qm6, ↓zf6, ↓zm6, ↓im6, ss6, ↓imd6, ↓vf7, ↓vm7, rf7, rm7, ↓qf7, ↓qm7, ↓zf7, ↓zm7, ↓im7, ss7, ↓imd7, ↓vf8, ↓vm8, rf8, rm8, ↓qf8, ↓qm8, ↓zf8, ↓zm8, ↓im8, ss8, ↓imd8, ↓vf9, ↓vm9, rf9, rm9, ↓qf9, ↓qm9, ↓zf9, ↓zm9, ↓im9, ss9, ↓imd9, ↓vf10, ↓vm10, rf10, rm10, ↓qf10, ↓qm10, ↓zf10, ↓zm10, ↓im10, ss10, ↓imd10]); (try simp only [T.bind_ret]); exact rfl) ?_); (try (with_reducible refine al_nx ?_)); refine al_retI.mpr ?_
    have m2 := mod_ok (i := (i : Int)) (j := 2) (by omega)
    by_cases h : i % 2 = 0
    · have ee : pEq (.int ((i : Int) % 2)) (.int 0) = some (.bl true) := by rw [pEq_int, decide_eq_true (by omega)]
      (simp only [U3f0_law_value, U4_law_value, U3_law_value, U2_law_value, U1_law_value, U0_law_value, al_seq, nx_nx, lq_nx]; refine al_rd _ (by (simp -dsimp only [↓fBin_b, ↓fUn_b, ↓fBlT_b, ↓fIf_b, ↓lCons_b, ↓fTup_b, ↓fCall_b, ↓sSeq_b, ↓sRet_b, ↓sSet_b, ↓iSeq_b, ↓iRange1_b, ↓sFor_b, ↓fNew_b, ↓nLst_b, ↓fC_b, ↓lNil_b, ↓sNil_b, ↓fYes_b, ↓tgName_b, ↓tgNil_b, ↓tgCons_b, ↓tgTup_b, ↓lcRun_b, ↓frz_val, ↓lrs_val, ↓liftS_b, ↓liftN_b, ↓seqOf_t_b, ↓seqOf_l_b, ↓lstOf_l_b, ↓intOf_i_b, ↓blOf_b_b, ↓tru_n_b, ↓tru_b_b, ↓tru_i_b, ↓tru_t_b, ↓tru_l_b, ↓pLen_t_b, ↓pLen_l_b, ↓pLen_s_b, ↓pAdd_i_b, ↓pNeg_i_b, ↓atI_0_b, ↓atI_1_b, ↓atI_2_b, ↓atI_3_b, ↓lg0_b, ↓lg1_b, ↓lg2_b, ↓lg3_b, rs_val, outV_rt, outV_nx, backE_n, backE_u, wipeE_n, wipeE_u, froOf_f, froOf_u, seqOf_t, seqOf_l, lstOf_l, intOf_i, blOf_b, tru_n, tru_b, tru_i, tru_t, tru_l, pLen_t, pLen_l, pLen_s, pAdd_i, pNeg_i, atI_0, atI_1, atI_2, atI_3, lg0, lg1, lg2, lg3, pIx_t, pIx_l, pAdd_t, pAdd_l, ↓keyOf1_ib, keyOf1_i, ↓T.bind_assoc, bind_ret', bind_bad', bind_exc', bind_draw', lift_some, lift_none', big, below62', below24', below64', below29', mul_ok, div_ok, mod_ok, ↓mArgs_bb, envB_self, tryT_ret, tryT_exc, tryT_draw, List.length_cons, List.length_nil, List.map_cons, List.map_nil, List.append_nil, List.nil_append, List.cons_append, List.replicate_succ, List.replicate_zero, List.isEmpty_nil, List.isEmpty_cons, Option.map_some, Option.map_none, Option.bind_some, Option.bind_none, true_and, and_true, and_self, false_and, and_false, true_or, or_true, false_or, or_false, not_true_eq_false, not_false_eq_true, Bool.not_true, Bool.not_false, Bool.true_and, Bool.and_true, Bool.false_and, Bool.and_false, Bool.true_or, Bool.or_true, Bool.or_false, Bool.false_or, decide_true, decide_false, decide_eq_true_eq, decide_eq_false_iff_not, if_true, if_false, ite_true, ite_false, ↓reduceIte, Int.natCast_nonneg, Nat.reduceLT, Nat.reduceLeDiff, Nat.reduceEqDiff, Nat.reduceSub, Nat.reduceMul, Int.reduceLT, Int.reduceLE, Int.reduceEq, Int.reduceAdd, Int.reduceSub, Int.reduceMul, Int.reduceNeg, Int.reducePow, List.length_map, List.length_range, eq_self, ne_eq, Classical.not_not, Bool.not_eq_true, Bool.not_eq_false, Bool.false_eq_true, reduceCtorEq, Int.toNat_natCast, Nat.add_eq, Nat.reduceAdd, Int.cast_ofNat_Int, Int.reduceToNat, Int.zero_add, Int.add_zero, Nat.zero_add, Nat.add_zero, Nat.sub_zero, Int.sub_zero, Int.natCast_zero, Int.natCast_one, Int.natCast_add, Int.natCast_succ, beq_self_eq_true, Bool.decide_eq_true, Bool.decide_eq_false, ↓vf0, ↓vm0, rf0, rm0, ↓qf0, ↓qm0, ↓zf0, ↓zm0, ↓im0, ss0, ↓vf1, ↓vm1, rf1, rm1, ↓qf1, ↓qm1, ↓zf1, ↓zm1, ↓im1, ss1, ↓vf2, ↓vm2, rf2, rm2, ↓qf2, ↓qm2, ↓zf2, ↓zm2, ↓im2, ss2, ↓vf3, ↓vm3, rf3, rm3, ↓qf3, ↓qm3, ↓zf3, ↓zm3, ↓im3, ss3, S3f0_law_value, S0_law_value, S1_law_value, S2_law_value, S3_law_value, S4_law_value, U3f0_law_value, U4_law_value, U3_law_value, U2_law_value, U1_law_value, U0_law_value, m2, ee]); (try simp only [T.bind_ret]); exact rfl) ?_); (try (with_reducible refine al_nx ?_))
      refine al_endL ?_
      refine ⟨.fro (.int (i : Int)), ?_⟩
      rw [show deepN (i + 1) = .lst [deepN i, .int 1] from if_pos h]
    · have ee : pEq (.int ((i : Int) % 2)) (.int 0) = some (.bl false) := by rw [pEq_int, decide_eq_false (by omega)]
      (simp only [U3f0_law_value, U4_law_value, U3_law_value, U2_law_value, U1_law_value, U0_law_value, al_seq, nx_nx, lq_nx]; refine al_rd _ (by (simp -dsimp only [↓fBin_b, ↓fUn_b, ↓fBlT_b, ↓fIf_b, ↓lCons_b, ↓fTup_b, ↓fCall_b, ↓sSeq_b, ↓sRet_b, ↓sSet_b, ↓iSeq_b, ↓iRange1_b, ↓sFor_b, ↓fNew_b, ↓nLst_b, ↓fC_b, ↓lNil_b, ↓sNil_b, ↓fYes_b, ↓tgName_b, ↓tgNil_b, ↓tgCons_b, ↓tgTup_b, ↓lcRun_b, ↓frz_val, ↓lrs_val, ↓liftS_b, ↓liftN_b, ↓seqOf_t_b, ↓seqOf_l_b, ↓lstOf_l_b, ↓intOf_i_b, ↓blOf_b_b, ↓tru_n_b, ↓tru_b_b, ↓tru_i_b, ↓tru_t_b, ↓tru_l_b, ↓pLen_t_b, ↓pLen_l_b, ↓pLen_s_b, ↓pAdd_i_b, ↓pNeg_i_b, ↓atI_0_b, ↓atI_1_b, ↓atI_2_b, ↓atI_3_b, ↓lg0_b, ↓lg1_b, ↓lg2_b, ↓lg3_b, rs_val, outV_rt, outV_nx, backE_n, backE_u, wipeE_n, wipeE_u, froOf_f, froOf_u, seqOf_t, seqOf_l, lstOf_l, intOf_i, blOf_b, tru_n, tru_b, tru_i, tru_t, tru_l, pLen_t, pLen_l, pLen_s, pAdd_i, pNeg_i, atI_0, atI_1, atI_2, atI_3, lg0, lg1, lg2, lg3, pIx_t, pIx_l, pAdd_t, pAdd_l, ↓keyOf1_ib, keyOf1_i, ↓T.bind_assoc, bind_ret', bind_bad', bind_exc', bind_draw', lift_some, lift_none', big, below62', below24', below64', below29', mul_ok, div_ok, mod_ok, ↓mArgs_bb, envB_self, tryT_ret, tryT_exc, tryT_draw, List.length_cons, List.length_nil, List.map_cons, List.map_nil, List.append_nil, List.nil_append, List.cons_append, List.replicate_succ, List.replicate_zero, List.isEmpty_nil, List.isEmpty_cons, Option.map_some, Option.map_none, Option.bind_some, Option.bind_none, true_and, and_true, and_self, false_and, and_false, true_or, or_true, false_or, or_false, not_true_eq_false, not_false_eq_true, Bool.not_true, Bool.not_false, Bool.true_and, Bool.and_true, Bool.false_and, Bool.and_false, Bool.true_or, Bool.or_true, Bool.or_false, Bool.false_or, decide_true, decide_false, decide_eq_true_eq, decide_eq_false_iff_not, if_true, if_false, ite_true, ite_false, ↓reduceIte, Int.natCast_nonneg, Nat.reduceLT, Nat.reduceLeDiff, Nat.reduceEqDiff, Nat.reduceSub, Nat.reduceMul, Int.reduceLT, Int.reduceLE, Int.reduceEq, Int.reduceAdd, Int.reduceSub, Int.reduceMul, Int.reduceNeg, Int.reducePow, List.length_map, List.length_range, eq_self, ne_eq, Classical.not_not, Bool.not_eq_true, Bool.not_eq_false, Bool.false_eq_true, reduceCtorEq, Int.toNat_natCast, Nat.add_eq, Nat.reduceAdd, Int.cast_ofNat_Int, Int.reduceToNat, Int.zero_add, Int.add_zero, Nat.zero_add, Nat.add_zero, Nat.sub_zero, Int.sub_zero, Int.natCast_zero, Int.natCast_one, Int.natCast_add, Int.natCast_succ, beq_self_eq_true, Bool.decide_eq_true, Bool.decide_eq_false, ↓vf0, ↓vm0, rf0, rm0, ↓qf0, ↓qm0, ↓zf0, ↓zm0, ↓im0, ss0, ↓vf1, ↓vm1, rf1, rm1, ↓qf1, ↓qm1, ↓zf1, ↓zm1, ↓im1, ss1, ↓vf2, ↓vm2, rf2, rm2, ↓qf2, ↓qm2, ↓zf2, ↓zm2, ↓im2, ss2, ↓vf3, ↓vm3, rf3, rm3, ↓qf3, ↓qm3, ↓zf3, ↓zm3, ↓im3, ss3, S3f0_law_value, S0_law_value, S1_law_value, S2_law_value, S3_law_value, S4_law_value, U3f0_law_value, U4_law_value, U3_law_value, U2_law_value, U1_law_value, U0_law_value, m2, ee]); (try simp only [T.bind_ret]); exact rfl) ?_); (try (with_reducible refine al_nx ?_))
      refine al_endL ?_
      refine ⟨.fro (.int (i : Int)), ?_⟩
      rw [show deepN (i + 1) = .tup [deepN i] from if_neg h]
  · obtain ⟨s3, rfl⟩ := hI
    rw [show (rangeL 0 7).length = 7 from rfl]
    rw [show valL.take 18 = [.int 0, .int (-3), .int 1000000000, .str "", .str "turn", .non, .bl true, .bl false, .lst [], .lst [.int 1, .str "move"], .tup [.int 0, .non], .tup [], .str "none", .int 2, .str "x y", .lst [.str "0"], .tup [.int 1, .int 0], .int 1] from rfl]
    (simp only [U3f0_law_value, U4_law_value, U3_law_value, U2_law_value, U1_law_value, U0_law_value, al_seq, nx_nx, lq_nx]; refine al_rd _ (by (simp -dsimp only [↓fBin_b, ↓fUn_b, ↓fBlT_b, ↓fIf_b, ↓lCons_b, ↓fTup_b, ↓fCall_b, ↓sSeq_b, ↓sRet_b, ↓sSet_b, ↓iSeq_b, ↓iRange1_b, ↓sFor_b, ↓fNew_b, ↓nLst_b, ↓fC_b, ↓lNil_b, ↓sNil_b, ↓fYes_b, ↓tgName_b, ↓tgNil_b, ↓tgCons_b, ↓tgTup_b, ↓lcRun_b, ↓frz_val, ↓lrs_val, ↓liftS_b, ↓liftN_b, ↓seqOf_t_b, ↓seqOf_l_b, ↓lstOf_l_b, ↓intOf_i_b, ↓blOf_b_b, ↓tru_n_b, ↓tru_b_b, ↓tru_i_b, ↓tru_t_b, ↓tru_l_b, ↓pLen_t_b, ↓pLen_l_b, ↓pLen_s_b, ↓pAdd_i_b, ↓pNeg_i_b, ↓atI_0_b, ↓atI_1_b, ↓atI_2_b, ↓atI_3_b, ↓lg0_b, ↓lg1_b, ↓lg2_b, ↓lg3_b, rs_val, outV_rt, outV_nx, backE_n, backE_u, wipeE_n, wipeE_u, froOf_f, froOf_u, seqOf_t, seqOf_l, lstOf_l, intOf_i, blOf_b, tru_n, tru_b, tru_i, tru_t, tru_l, pLen_t, pLen_l, pLen_s, pAdd_i, pNeg_i, atI_0, atI_1, atI_2, atI_3, lg0, lg1, lg2, lg3, pIx_t, pIx_l, pAdd_t, pAdd_l, ↓keyOf1_ib, keyOf1_i, ↓T.bind_assoc, bind_ret', bind_bad', bind_exc', bind_draw', lift_some, lift_none', big, below62', below24', below64', below29', mul_ok, div_ok, mod_ok, ↓mArgs_bb, envB_self, tryT_ret, tryT_exc, tryT_draw, List.length_cons, List.length_nil, List.map_cons, List.map_nil, List.append_nil, List.nil_append, List.cons_append, List.replicate_succ, List.replicate_zero, List.isEmpty_nil, List.isEmpty_cons, Option.map_some, Option.map_none, Option.bind_some, Option.bind_none, true_and, and_true, and_self, false_and, and_false, true_or, or_true, false_or, or_false, not_true_eq_false, not_false_eq_true, Bool.not_true, Bool.not_false, Bool.true_and, Bool.and_true, Bool.false_and, Bool.and_false, Bool.true_or, Bool.or_true, Bool.or_false, Bool.false_or, decide_true, decide_false, decide_eq_true_eq, decide_eq_false_iff_not, if_true, if_false, ite_true, ite_false, ↓reduceIte, Int.natCast_nonneg, Nat.reduceLT, Nat.reduceLeDiff, Nat.reduceEqDiff, Nat.reduceSub, Nat.reduceMul, Int.reduceLT, Int.reduceLE, Int.reduceEq, Int.reduceAdd, Int.reduceSub, Int.reduceMul, Int.reduceNeg, Int.reducePow, List.length_map, List.length_range, eq_self, ne_eq, Classical.not_not, Bool.not_eq_true, Bool.not_eq_false, Bool.false_eq_true, reduceCtorEq, Int.toNat_natCast, Nat.add_eq, Nat.reduceAdd, Int.cast_ofNat_Int, Int.reduceToNat, Int.zero_add, Int.add_zero, Nat.zero_add, Nat.add_zero, Nat.sub_zero, Int.sub_zero, Int.natCast_zero, Int.natCast_one, Int.natCast_add, Int.natCast_succ, beq_self_eq_true, Bool.decide_eq_true, Bool.decide_eq_false, ↓vf0, ↓vm0, rf0, rm0, ↓qf0, ↓qm0, ↓zf0, ↓zm0, ↓im0, ss0, ↓vf1, ↓vm1, rf1, rm1, ↓qf1, ↓qm1, ↓zf1, ↓zm1, ↓im1, ss1, ↓vf2, ↓vm2, rf2, rm2, ↓qf2, ↓qm2, ↓zf2, ↓zm2, ↓im2, ss2, ↓vf3, ↓vm3, rf3, rm3, ↓qf3, ↓qm3, ↓zf3, ↓zm3, ↓im3, ss3, S3f0_law_value, S0_law_value, S1_law_value, S2_law_value, S3_law_value, S4_law_value, U3f0_law_value, U4_law_value, U3_law_value, U2_law_value, U1_law_value, U0_law_value]); (try simp only [T.bind_ret]); exact rfl) ?_); (try (with_reducible refine al_nx ?_))
    refine al_by (law_pick_all _ (by decide) (by decide)) fun t ht => ?_
    (try refine al_rd _ (by (simp -dsimp only [↓fBin_b, ↓fUn_b, ↓fTru_b, ↓fBlT_b, ↓fNotT_b, ↓fOrT_b, ↓fAnd_b, ↓fNot_b, ↓fIf_b, ↓lCons_b, ↓fTup_b, ↓fSl_b, ↓fCall_b, ↓sSeq_b, ↓sExpr_b, ↓sRet_b, ↓sIf_b, ↓sSet_b, ↓sAsg_b, ↓iSeq_b, ↓iRange1_b, ↓sFor_b, ↓fNew_b, ↓nLst_b, ↓nList_b, ↓fAppend_b, ↓fPopAt_b, ↓nLc_b, ↓nListRange_b, ↓sPar_b, ↓sParE_b, ↓sParN_b, ↓sFldSet_b, ↓fC_b, ↓lNil_b, ↓sNil_b, ↓fYes_b, ↓tgName_b, ↓tgNil_b, ↓tgCons_b, ↓tgTup_b, ↓lcRun_b, ↓fPart_n, ↓fPart_s, ↓frz_val, ↓lrs_val, ↓liftS_b, ↓liftN_b, ↓seqOf_t_b, ↓seqOf_l_b, ↓lstOf_l_b, ↓intOf_i_b, ↓blOf_b_b, ↓tru_n_b, ↓tru_b_b, ↓tru_i_b, ↓tru_t_b, ↓tru_l_b, ↓pLen_t_b, ↓pLen_l_b, ↓pLen_s_b, ↓pTuple_t_b, ↓pTuple_l_b, ↓pAdd_i_b, ↓pNeg_i_b, ↓pLt_i_b, ↓pGt_i_b, ↓pGe_i_b, ↓pMax2_i_b, ↓pMin2_i_b, ↓pIs_nn_b, ↓pIs_in_b, ↓pIs_tn_b, ↓pIs_ln_b, ↓pIs_bn_b, ↓pIs_bb_b, ↓pNotIs_nn_b, ↓pNotIs_in_b, ↓pNotIs_tn_b, ↓pNotIs_ln_b, ↓pNotIs_bn_b, ↓pNotIs_bb_b, ↓pCut_t_b, ↓pCut_l_b, ↓atI_0_b, ↓atI_1_b, ↓atI_2_b, ↓atI_3_b, ↓lg0_b, ↓lg1_b, ↓lg2_b, ↓lg3_b, ↓isi_bl_int_b, ↓isi_bl_bool_b, ↓isi_bl_tuple_b, ↓isi2_bl_b, ↓isi_int_int_b, ↓isi_int_bool_b, ↓isi_int_tuple_b, ↓isi2_int_b, ↓isi_str_int_b, ↓isi_str_bool_b, ↓isi_str_tuple_b, ↓isi2_str_b, ↓isi_tup_int_b, ↓isi_tup_bool_b, ↓isi_tup_tuple_b, ↓isi2_tup_b, ↓isi_lst_int_b, ↓isi_lst_bool_b, ↓isi_lst_tuple_b, ↓isi2_lst_b, rs_val, outV_rt, outV_nx, backE_n, backE_u, wipeE_n, wipeE_u, froOf_f, froOf_u, seqOf_t, seqOf_l, lstOf_l, intOf_i, blOf_b, tru_n, tru_b, tru_i, tru_t, tru_l, pLen_t, pLen_l, pLen_s, pTuple_t, pTuple_l, pAdd_i, pNeg_i, pLt_i, pGt_i, pGe_i, pMax2_i, pMin2_i, pIs_nn, pIs_in, pIs_tn, pIs_ln, pIs_bn, pIs_bb, pNotIs_nn, pNotIs_in, pNotIs_tn, pNotIs_ln, pNotIs_bn, pNotIs_bb, pCut_t, pCut_l, atI_0, atI_1, atI_2, atI_3, lg0, lg1, lg2, lg3, isi_bl_int, isi_bl_bool, isi_bl_tuple, isi2_bl, isi_int_int, isi_int_bool, isi_int_tuple, isi2_int, isi_str_int, isi_str_bool, isi_str_tuple, isi2_str, isi_tup_int, isi_tup_bool, isi_tup_tuple, isi2_tup, isi_lst_int, isi_lst_bool, isi_lst_tuple, isi2_lst, pIx_t, pIx_l, pAdd_t, pAdd_l, ↓keyOf1_ib, keyOf1_i, ↓T.bind_assoc, bind_ret', bind_bad', bind_exc', bind_draw', lift_some, lift_none', big, below62', below24', below64', below29', mul_ok, div_ok, mod_ok, ↓sRaise_b, ↓sTryB_b, mDrop_b, ↓mArgs_bb, mArgs_b, mIfX_b, mIfS_b, envB_self, tryT_ret, tryT_exc, tryT_draw, List.length_cons, List.length_nil, List.map_cons, List.map_nil, List.append_nil, List.nil_append, List.cons_append, List.replicate_succ, List.replicate_zero, List.isEmpty_nil, List.isEmpty_cons, Option.map_some, Option.map_none, Option.bind_some, Option.bind_none, true_and, and_true, and_self, false_and, and_false, true_or, or_true, false_or, or_false, not_true_eq_false, not_false_eq_true, Bool.not_true, Bool.not_false, Bool.true_and, Bool.and_true, Bool.false_and, Bool.and_false, Bool.true_or, Bool.or_true, Bool.or_false, Bool.false_or, decide_true, decide_false, decide_eq_true_eq, decide_eq_false_iff_not, if_true, if_false, ite_true, ite_false, ↓reduceIte, Int.natCast_nonneg, Nat.reduceLT, Nat.reduceLeDiff, Nat.reduceEqDiff, Nat.reduceSub, Nat.reduceMul, Int.reduceLT, Int.reduceLE, Int.reduceEq, Int.reduceAdd, Int.reduceSub, Int.reduceMul, Int.reduceNeg, Int.reducePow, List.length_map, List.length_range, eq_self, ne_eq, Classical.not_not, Bool.not_eq_true, Bool.not_eq_false, Bool.false_eq_true, reduceCtorEq, Int.toNat_natCast, Nat.add_eq, Nat.reduceAdd, Int.cast_ofNat_Int, Int.reduceToNat, Int.zero_add, Int.add_zero, Nat.zero_add, Nat.add_zero, Nat.sub_zero, Int.sub_zero, Int.natCast_zero, Int.natCast_one, Int.natCast_add, Int.natCast_succ, beq_self_eq_true, Bool.decide_eq_true, Bool.decide_eq_false, ↓vf0, ↓vm0, rf0, rm0, ↓qf0, ↓qm0, ↓zf0, ↓zm0, ↓im0, ss0, ↓imd0, ↓vf1, ↓vm1, rf1, rm1, ↓qf1, ↓qm1, ↓zf1, ↓zm1, ↓im1, ss1, ↓imd1, ↓vf2, ↓vm2, rf2, rm2, ↓qf2, ↓qm2, ↓zf2, ↓zm2, ↓im2, ss2, ↓imd2, ↓vf3, ↓vm3, rf3, rm3, ↓qf3, ↓qm3, ↓zf3, ↓zm3, ↓im3, ss3, ↓imd3, ↓vf4, ↓vm4, rf4, rm4, ↓qf4, ↓qm4, ↓zf4, ↓zm4, ↓im4, ss4, ↓imd4, ↓vf5, ↓vm5, rf5, rm5, ↓qf5, ↓qm5, ↓zf5, ↓zm5, ↓im5, ss5, ↓imd5, ↓vf6, ↓vm6, rf6, rm6, ↓qf6, ↓qm6, ↓zf6, ↓zm6, ↓im6, ss6, ↓imd6, ↓vf7, ↓vm7, rf7, rm7, ↓qf7, ↓qm7, ↓zf7, ↓zm7, ↓im7, ss7, ↓imd7, ↓vf8, ↓vm8, rf8, rm8, ↓qf8, ↓qm8, ↓zf8, ↓zm8, ↓im8, ss8, ↓imd8, ↓vf9, ↓vm9, rf9, rm9, ↓qf9, ↓qm9, ↓zf9, ↓zm9, ↓im9, ss9, ↓imd9, ↓vf10, ↓vm10, rf10, rm10, ↓qf10, ↓qm10, ↓zf10, ↓zm10, ↓im10, ss10, ↓imd10]); (try simp only [T.bind_ret]); exact rfl) ?_); (try (with_reducible refine al_nx ?_))
    exact al_rtF ht
theorem val_rows {t : AV} {n : Int} (h : t ∈ valL) : f_are_rows [t, .int n] = .ret (.bl false) := by
  have no : ∀ {x : AV}, (tyName x).isSome = true → (∀ xs, x = .tup xs → xs.length ≠ 2) → f_is_row [x, .int n] = .ret (.bl false) := fun a b => is_row_no a b
  have sq : ∀ {t : AV} {xs : List AV}, (tyName t).isSome = true → seqOf t = some xs → xs.length < 1000 → (∀ x ∈ xs, (tyName x).isSome = true ∧ ∀ ys, x = .tup ys → ys.length ≠ 2) → f_are_rows [t, .int n] = .ret (.bl false) := fun {t xs} a b c d => by
    have e := are_rows_o (n := n) (q := fun _ => false) a b c fun x hx => no (d x hx).1 (d x hx).2
    rw [e]
    cases xs with
    | nil => rfl
    | cons x r => simp
  have nt : ∀ {x : AV}, (∀ xs, x ≠ .tup xs) → ∀ ys, x = .tup ys → ys.length ≠ 2 := fun h ys e => (h ys e).elim
  simp only [valL, List.mem_cons, List.not_mem_nil, or_false] at h
  rcases h with rfl | rfl | rfl | rfl | rfl | rfl | rfl | rfl | rfl | rfl | rfl | rfl | rfl | rfl | rfl | rfl | rfl | rfl | rfl
  all_goals first
    | exact are_rows_no rfl rfl
    | (refine sq (xs := []) rfl rfl (by decide) fun x hx => ?_
       cases hx)
    | (refine sq rfl rfl (by decide) fun x hx => ?_
       simp only [List.mem_cons, List.not_mem_nil, or_false] at hx
       rcases hx with rfl | rfl
       all_goals exact ⟨rfl, fun ys e => by cases e <;> decide⟩)
    | (refine sq rfl rfl (by decide) fun x hx => ?_
       simp only [List.mem_cons, List.not_mem_nil, or_false] at hx
       rcases hx with rfl
       all_goals exact ⟨rfl, fun ys e => by cases e <;> decide⟩)
theorem cut_neg1 {xs : List AV} : cutA xs none (some (-1)) = xs.take (xs.length - 1) := by
  unfold cutA HT.sIx
  dsimp only
  rw [if_pos (by decide), List.drop_zero, Nat.sub_zero]
  congr 1
  omega
theorem law_wrong_all {n : Nat} (n0 : 0 < n) (hn : n ≤ 6) (r : AV) : (f_law_wrong [.box, .tup [.int n, r]]).Al (fun t => f_is_row [t, .int n] = .ret (.bl false)) NoX := by
  refine aFnQ rfl ?_
  show (K0_law_wrong [.fro .box, .fro (.tup [.int n, r]), .un, .un, .un]).Al _ _
  have bn : below (n : Int) 24 = true := below_of (by omega)
  (simp only [U3_law_wrong, U2_law_wrong, U1_law_wrong, U0_law_wrong, al_seq, nx_nx, lq_nx]; refine al_rd _ (by (simp -dsimp only [↓fBin_b, ↓fUn_b, ↓lCons_b, ↓fTup_b, ↓fSl_b, ↓fCall_b, ↓sSeq_b, ↓sRet_b, ↓sSet_b, ↓iSeq_b, ↓fNew_b, ↓nLst_b, ↓nListRange_b, ↓sPar_b, ↓fC_b, ↓lNil_b, ↓sNil_b, ↓fYes_b, ↓tgName_b, ↓tgNil_b, ↓tgCons_b, ↓tgTup_b, ↓lcRun_b, ↓fPart_n, ↓fPart_s, ↓frz_val, ↓lrs_val, ↓liftS_b, ↓liftN_b, ↓seqOf_t_b, ↓seqOf_l_b, ↓lstOf_l_b, ↓intOf_i_b, ↓blOf_b_b, ↓tru_n_b, ↓tru_b_b, ↓tru_i_b, ↓tru_t_b, ↓tru_l_b, ↓pLen_t_b, ↓pLen_l_b, ↓pLen_s_b, ↓pAdd_i_b, ↓pNeg_i_b, ↓pCut_t_b, ↓pCut_l_b, ↓atI_0_b, ↓atI_1_b, ↓atI_2_b, ↓atI_3_b, ↓lg0_b, ↓lg1_b, ↓lg2_b, ↓lg3_b, rs_val, outV_rt, outV_nx, backE_n, backE_u, wipeE_n, wipeE_u, froOf_f, froOf_u, seqOf_t, seqOf_l, lstOf_l, intOf_i, blOf_b, tru_n, tru_b, tru_i, tru_t, tru_l, pLen_t, pLen_l, pLen_s, pAdd_i, pNeg_i, pCut_t, pCut_l, atI_0, atI_1, atI_2, atI_3, lg0, lg1, lg2, lg3, pIx_t, pIx_l, pAdd_t, pAdd_l, ↓keyOf1_ib, keyOf1_i, ↓T.bind_assoc, bind_ret', bind_bad', bind_exc', bind_draw', lift_some, lift_none', big, below62', below24', below64', below29', mul_ok, div_ok, mod_ok, ↓mArgs_bb, envB_self, tryT_ret, tryT_exc, tryT_draw, List.length_cons, List.length_nil, List.map_cons, List.map_nil, List.append_nil, List.nil_append, List.cons_append, List.replicate_succ, List.replicate_zero, List.isEmpty_nil, List.isEmpty_cons, Option.map_some, Option.map_none, Option.bind_some, Option.bind_none, true_and, and_true, and_self, false_and, and_false, true_or, or_true, false_or, or_false, not_true_eq_false, not_false_eq_true, Bool.not_true, Bool.not_false, Bool.true_and, Bool.and_true, Bool.false_and, Bool.and_false, Bool.true_or, Bool.or_true, Bool.or_false, Bool.false_or, decide_true, decide_false, decide_eq_true_eq, decide_eq_false_iff_not, if_true, if_false, ite_true, ite_false, ↓reduceIte, Int.natCast_nonneg, Nat.reduceLT, Nat.reduceLeDiff, Nat.reduceEqDiff, Nat.reduceSub, Nat.reduceMul, Int.reduceLT, Int.reduceLE, Int.reduceEq, Int.reduceAdd, Int.reduceSub, Int.reduceMul, Int.reduceNeg, Int.reducePow, List.length_map, List.length_range, eq_self, ne_eq, Classical.not_not, Bool.not_eq_true, Bool.not_eq_false, Bool.false_eq_true, reduceCtorEq, Int.toNat_natCast, Nat.add_eq, Nat.reduceAdd, Int.cast_ofNat_Int, Int.reduceToNat, Int.zero_add, Int.add_zero, Nat.zero_add, Nat.add_zero, Nat.sub_zero, Int.sub_zero, Int.natCast_zero, Int.natCast_one, Int.natCast_add, Int.natCast_succ, beq_self_eq_true, Bool.decide_eq_true, Bool.decide_eq_false, ↓vf0, ↓vm0, rf0, rm0, ↓qf0, ↓qm0, ↓zf0, ↓zm0, ↓im0, ss0, ↓vf1, ↓vm1, rf1, rm1, ↓qf1, ↓qm1, ↓zf1, ↓zm1, ↓im1, ss1, ↓vf2, ↓vm2, rf2, rm2, ↓qf2, ↓qm2, ↓zf2, ↓zm2, ↓im2, ss2, ↓vf3, ↓vm3, rf3, rm3, ↓qf3, ↓qm3, ↓zf3, ↓zm3, ↓im3, ss3, ↓vf4, ↓vm4, rf4, rm4, ↓qf4, ↓qm4, ↓zf4, ↓zm4, ↓im4, ss4, S0_law_wrong, S1_law_wrong, S2_law_wrong, S3_law_wrong, U3_law_wrong, U2_law_wrong, U1_law_wrong, U0_law_wrong, bn]); (try simp only [T.bind_ret]); exact rfl) ?_); (try (with_reducible refine al_nx ?_))
  rw [rangeL_nl]
  (simp only [U3_law_wrong, U2_law_wrong, U1_law_wrong, U0_law_wrong, al_seq, nx_nx, lq_nx]; refine al_rd _ (by (simp -dsimp only [↓fBin_b, ↓fUn_b, ↓lCons_b, ↓fTup_b, ↓fSl_b, ↓fCall_b, ↓sSeq_b, ↓sRet_b, ↓sSet_b, ↓iSeq_b, ↓fNew_b, ↓nLst_b, ↓nListRange_b, ↓sPar_b, ↓fC_b, ↓lNil_b, ↓sNil_b, ↓fYes_b, ↓tgName_b, ↓tgNil_b, ↓tgCons_b, ↓tgTup_b, ↓lcRun_b, ↓fPart_n, ↓fPart_s, ↓frz_val, ↓lrs_val, ↓liftS_b, ↓liftN_b, ↓seqOf_t_b, ↓seqOf_l_b, ↓lstOf_l_b, ↓intOf_i_b, ↓blOf_b_b, ↓tru_n_b, ↓tru_b_b, ↓tru_i_b, ↓tru_t_b, ↓tru_l_b, ↓pLen_t_b, ↓pLen_l_b, ↓pLen_s_b, ↓pAdd_i_b, ↓pNeg_i_b, ↓pCut_t_b, ↓pCut_l_b, ↓atI_0_b, ↓atI_1_b, ↓atI_2_b, ↓atI_3_b, ↓lg0_b, ↓lg1_b, ↓lg2_b, ↓lg3_b, rs_val, outV_rt, outV_nx, backE_n, backE_u, wipeE_n, wipeE_u, froOf_f, froOf_u, seqOf_t, seqOf_l, lstOf_l, intOf_i, blOf_b, tru_n, tru_b, tru_i, tru_t, tru_l, pLen_t, pLen_l, pLen_s, pAdd_i, pNeg_i, pCut_t, pCut_l, atI_0, atI_1, atI_2, atI_3, lg0, lg1, lg2, lg3, pIx_t, pIx_l, pAdd_t, pAdd_l, ↓keyOf1_ib, keyOf1_i, ↓T.bind_assoc, bind_ret', bind_bad', bind_exc', bind_draw', lift_some, lift_none', big, below62', below24', below64', below29', mul_ok, div_ok, mod_ok, ↓mArgs_bb, envB_self, tryT_ret, tryT_exc, tryT_draw, List.length_cons, List.length_nil, List.map_cons, List.map_nil, List.append_nil, List.nil_append, List.cons_append, List.replicate_succ, List.replicate_zero, List.isEmpty_nil, List.isEmpty_cons, Option.map_some, Option.map_none, Option.bind_some, Option.bind_none, true_and, and_true, and_self, false_and, and_false, true_or, or_true, false_or, or_false, not_true_eq_false, not_false_eq_true, Bool.not_true, Bool.not_false, Bool.true_and, Bool.and_true, Bool.false_and, Bool.and_false, Bool.true_or, Bool.or_true, Bool.or_false, Bool.false_or, decide_true, decide_false, decide_eq_true_eq, decide_eq_false_iff_not, if_true, if_false, ite_true, ite_false, ↓reduceIte, Int.natCast_nonneg, Nat.reduceLT, Nat.reduceLeDiff, Nat.reduceEqDiff, Nat.reduceSub, Nat.reduceMul, Int.reduceLT, Int.reduceLE, Int.reduceEq, Int.reduceAdd, Int.reduceSub, Int.reduceMul, Int.reduceNeg, Int.reducePow, List.length_map, List.length_range, eq_self, ne_eq, Classical.not_not, Bool.not_eq_true, Bool.not_eq_false, Bool.false_eq_true, reduceCtorEq, Int.toNat_natCast, Nat.add_eq, Nat.reduceAdd, Int.cast_ofNat_Int, Int.reduceToNat, Int.zero_add, Int.add_zero, Nat.zero_add, Nat.add_zero, Nat.sub_zero, Int.sub_zero, Int.natCast_zero, Int.natCast_one, Int.natCast_add, Int.natCast_succ, beq_self_eq_true, Bool.decide_eq_true, Bool.decide_eq_false, ↓vf0, ↓vm0, rf0, rm0, ↓qf0, ↓qm0, ↓zf0, ↓zm0, ↓im0, ss0, ↓vf1, ↓vm1, rf1, rm1, ↓qf1, ↓qm1, ↓zf1, ↓zm1, ↓im1, ss1, ↓vf2, ↓vm2, rf2, rm2, ↓qf2, ↓qm2, ↓zf2, ↓zm2, ↓im2, ss2, ↓vf3, ↓vm3, rf3, rm3, ↓qf3, ↓qm3, ↓zf3, ↓zm3, ↓im3, ss3, ↓vf4, ↓vm4, rf4, rm4, ↓qf4, ↓qm4, ↓zf4, ↓zm4, ↓im4, ss4, S0_law_wrong, S1_law_wrong, S2_law_wrong, S3_law_wrong, U3_law_wrong, U2_law_wrong, U1_law_wrong, U0_law_wrong]); (try simp only [T.bind_ret]); exact rfl) ?_); (try (with_reducible refine al_nx ?_))
  have pm : pMul (.lst [.int 0]) (.int ((n : Int) + 1)) = some (.lst (nl (List.replicate (n + 1) 0))) := by
    show (if 0 ≤ (n : Int) + 1 ∧ [AV.int 0].length * ((n : Int) + 1).toNat ≤ big ∧ (n : Int) + 1 < 1000000 then some (AV.lst (List.replicate ((n : Int) + 1).toNat [AV.int 0]).flatten) else none) = _
    have e : ((n : Int) + 1).toNat = n + 1 := by omega
    rw [e, if_pos ⟨by omega, Nat.le_trans (show 1 * (n + 1) ≤ 7 by omega) (by decide), by omega⟩]
    refine congrArg (fun l => some (AV.lst l)) ?_
    generalize n + 1 = m
    induction m with
    | zero => rfl
    | succ m ih =>
      rw [List.replicate_succ, List.flatten_cons, ih]
      rfl
  have nr : (nl (List.range n)).length + 1 ≤ 1000000 := by rw [nl_len, List.length_range]; omega
  (simp only [U3_law_wrong, U2_law_wrong, U1_law_wrong, U0_law_wrong, al_seq, nx_nx, lq_nx]; refine al_rd _ (by (simp -dsimp only [↓fBin_b, ↓fUn_b, ↓lCons_b, ↓fTup_b, ↓fSl_b, ↓fCall_b, ↓sSeq_b, ↓sRet_b, ↓sSet_b, ↓iSeq_b, ↓fNew_b, ↓nLst_b, ↓nListRange_b, ↓sPar_b, ↓fC_b, ↓lNil_b, ↓sNil_b, ↓fYes_b, ↓tgName_b, ↓tgNil_b, ↓tgCons_b, ↓tgTup_b, ↓lcRun_b, ↓fPart_n, ↓fPart_s, ↓frz_val, ↓lrs_val, ↓liftS_b, ↓liftN_b, ↓seqOf_t_b, ↓seqOf_l_b, ↓lstOf_l_b, ↓intOf_i_b, ↓blOf_b_b, ↓tru_n_b, ↓tru_b_b, ↓tru_i_b, ↓tru_t_b, ↓tru_l_b, ↓pLen_t_b, ↓pLen_l_b, ↓pLen_s_b, ↓pAdd_i_b, ↓pNeg_i_b, ↓pCut_t_b, ↓pCut_l_b, ↓atI_0_b, ↓atI_1_b, ↓atI_2_b, ↓atI_3_b, ↓lg0_b, ↓lg1_b, ↓lg2_b, ↓lg3_b, rs_val, outV_rt, outV_nx, backE_n, backE_u, wipeE_n, wipeE_u, froOf_f, froOf_u, seqOf_t, seqOf_l, lstOf_l, intOf_i, blOf_b, tru_n, tru_b, tru_i, tru_t, tru_l, pLen_t, pLen_l, pLen_s, pAdd_i, pNeg_i, pCut_t, pCut_l, atI_0, atI_1, atI_2, atI_3, lg0, lg1, lg2, lg3, pIx_t, pIx_l, pAdd_t, pAdd_l, ↓keyOf1_ib, keyOf1_i, ↓T.bind_assoc, bind_ret', bind_bad', bind_exc', bind_draw', lift_some, lift_none', big, below62', below24', below64', below29', mul_ok, div_ok, mod_ok, ↓mArgs_bb, envB_self, tryT_ret, tryT_exc, tryT_draw, List.length_cons, List.length_nil, List.map_cons, List.map_nil, List.append_nil, List.nil_append, List.cons_append, List.replicate_succ, List.replicate_zero, List.isEmpty_nil, List.isEmpty_cons, Option.map_some, Option.map_none, Option.bind_some, Option.bind_none, true_and, and_true, and_self, false_and, and_false, true_or, or_true, false_or, or_false, not_true_eq_false, not_false_eq_true, Bool.not_true, Bool.not_false, Bool.true_and, Bool.and_true, Bool.false_and, Bool.and_false, Bool.true_or, Bool.or_true, Bool.or_false, Bool.false_or, decide_true, decide_false, decide_eq_true_eq, decide_eq_false_iff_not, if_true, if_false, ite_true, ite_false, ↓reduceIte, Int.natCast_nonneg, Nat.reduceLT, Nat.reduceLeDiff, Nat.reduceEqDiff, Nat.reduceSub, Nat.reduceMul, Int.reduceLT, Int.reduceLE, Int.reduceEq, Int.reduceAdd, Int.reduceSub, Int.reduceMul, Int.reduceNeg, Int.reducePow, List.length_map, List.length_range, eq_self, ne_eq, Classical.not_not, Bool.not_eq_true, Bool.not_eq_false, Bool.false_eq_true, reduceCtorEq, Int.toNat_natCast, Nat.add_eq, Nat.reduceAdd, Int.cast_ofNat_Int, Int.reduceToNat, Int.zero_add, Int.add_zero, Nat.zero_add, Nat.add_zero, Nat.sub_zero, Int.sub_zero, Int.natCast_zero, Int.natCast_one, Int.natCast_add, Int.natCast_succ, beq_self_eq_true, Bool.decide_eq_true, Bool.decide_eq_false, ↓vf0, ↓vm0, rf0, rm0, ↓qf0, ↓qm0, ↓zf0, ↓zm0, ↓im0, ss0, ↓vf1, ↓vm1, rf1, rm1, ↓qf1, ↓qm1, ↓zf1, ↓zm1, ↓im1, ss1, ↓vf2, ↓vm2, rf2, rm2, ↓qf2, ↓qm2, ↓zf2, ↓zm2, ↓im2, ss2, ↓vf3, ↓vm3, rf3, rm3, ↓qf3, ↓qm3, ↓zf3, ↓zm3, ↓im3, ss3, ↓vf4, ↓vm4, rf4, rm4, ↓qf4, ↓qm4, ↓zf4, ↓zm4, ↓im4, ss4, S0_law_wrong, S1_law_wrong, S2_law_wrong, S3_law_wrong, U3_law_wrong, U2_law_wrong, U1_law_wrong, U0_law_wrong, cut_neg1, pm, nr]); (try simp only [T.bind_ret]); exact rfl) ?_); (try (with_reducible refine al_nx ?_))
  have ps : pMulS (.str "0") (.int (n : Int)) = some (.str (mulS "0" n)) := if_pos ⟨by omega, by omega, by decide⟩
  (simp only [U3_law_wrong, U2_law_wrong, U1_law_wrong, U0_law_wrong, al_seq, nx_nx, lq_nx]; refine al_rd _ (by (simp -dsimp only [↓fBin_b, ↓fUn_b, ↓lCons_b, ↓fTup_b, ↓fSl_b, ↓fCall_b, ↓sSeq_b, ↓sRet_b, ↓sSet_b, ↓iSeq_b, ↓fNew_b, ↓nLst_b, ↓nListRange_b, ↓sPar_b, ↓fC_b, ↓lNil_b, ↓sNil_b, ↓fYes_b, ↓tgName_b, ↓tgNil_b, ↓tgCons_b, ↓tgTup_b, ↓lcRun_b, ↓fPart_n, ↓fPart_s, ↓frz_val, ↓lrs_val, ↓liftS_b, ↓liftN_b, ↓seqOf_t_b, ↓seqOf_l_b, ↓lstOf_l_b, ↓intOf_i_b, ↓blOf_b_b, ↓tru_n_b, ↓tru_b_b, ↓tru_i_b, ↓tru_t_b, ↓tru_l_b, ↓pLen_t_b, ↓pLen_l_b, ↓pLen_s_b, ↓pAdd_i_b, ↓pNeg_i_b, ↓pCut_t_b, ↓pCut_l_b, ↓atI_0_b, ↓atI_1_b, ↓atI_2_b, ↓atI_3_b, ↓lg0_b, ↓lg1_b, ↓lg2_b, ↓lg3_b, rs_val, outV_rt, outV_nx, backE_n, backE_u, wipeE_n, wipeE_u, froOf_f, froOf_u, seqOf_t, seqOf_l, lstOf_l, intOf_i, blOf_b, tru_n, tru_b, tru_i, tru_t, tru_l, pLen_t, pLen_l, pLen_s, pAdd_i, pNeg_i, pCut_t, pCut_l, atI_0, atI_1, atI_2, atI_3, lg0, lg1, lg2, lg3, pIx_t, pIx_l, pAdd_t, pAdd_l, ↓keyOf1_ib, keyOf1_i, ↓T.bind_assoc, bind_ret', bind_bad', bind_exc', bind_draw', lift_some, lift_none', big, below62', below24', below64', below29', mul_ok, div_ok, mod_ok, ↓mArgs_bb, envB_self, tryT_ret, tryT_exc, tryT_draw, List.length_cons, List.length_nil, List.map_cons, List.map_nil, List.append_nil, List.nil_append, List.cons_append, List.replicate_succ, List.replicate_zero, List.isEmpty_nil, List.isEmpty_cons, Option.map_some, Option.map_none, Option.bind_some, Option.bind_none, true_and, and_true, and_self, false_and, and_false, true_or, or_true, false_or, or_false, not_true_eq_false, not_false_eq_true, Bool.not_true, Bool.not_false, Bool.true_and, Bool.and_true, Bool.false_and, Bool.and_false, Bool.true_or, Bool.or_true, Bool.or_false, Bool.false_or, decide_true, decide_false, decide_eq_true_eq, decide_eq_false_iff_not, if_true, if_false, ite_true, ite_false, ↓reduceIte, Int.natCast_nonneg, Nat.reduceLT, Nat.reduceLeDiff, Nat.reduceEqDiff, Nat.reduceSub, Nat.reduceMul, Int.reduceLT, Int.reduceLE, Int.reduceEq, Int.reduceAdd, Int.reduceSub, Int.reduceMul, Int.reduceNeg, Int.reducePow, List.length_map, List.length_range, eq_self, ne_eq, Classical.not_not, Bool.not_eq_true, Bool.not_eq_false, Bool.false_eq_true, reduceCtorEq, Int.toNat_natCast, Nat.add_eq, Nat.reduceAdd, Int.cast_ofNat_Int, Int.reduceToNat, Int.zero_add, Int.add_zero, Nat.zero_add, Nat.add_zero, Nat.sub_zero, Int.sub_zero, Int.natCast_zero, Int.natCast_one, Int.natCast_add, Int.natCast_succ, beq_self_eq_true, Bool.decide_eq_true, Bool.decide_eq_false, ↓vf0, ↓vm0, rf0, rm0, ↓qf0, ↓qm0, ↓zf0, ↓zm0, ↓im0, ss0, ↓vf1, ↓vm1, rf1, rm1, ↓qf1, ↓qm1, ↓zf1, ↓zm1, ↓im1, ss1, ↓vf2, ↓vm2, rf2, rm2, ↓qf2, ↓qm2, ↓zf2, ↓zm2, ↓im2, ss2, ↓vf3, ↓vm3, rf3, rm3, ↓qf3, ↓qm3, ↓zf3, ↓zm3, ↓im3, ss3, ↓vf4, ↓vm4, rf4, rm4, ↓qf4, ↓qm4, ↓zf4, ↓zm4, ↓im4, ss4, S0_law_wrong, S1_law_wrong, S2_law_wrong, S3_law_wrong, U3_law_wrong, U2_law_wrong, U1_law_wrong, U0_law_wrong, ps]); (try simp only [T.bind_ret]); exact rfl) ?_); (try (with_reducible refine al_nx ?_))
  refine al_by (law_pick_all _ (Nat.succ_pos _) (by simp only [List.length_cons, List.length_nil]; omega)) fun t ht => ?_
  (try refine al_rd _ (by (simp -dsimp only [↓fBin_b, ↓fUn_b, ↓fTru_b, ↓fBlT_b, ↓fNotT_b, ↓fOrT_b, ↓fAnd_b, ↓fNot_b, ↓fIf_b, ↓lCons_b, ↓fTup_b, ↓fSl_b, ↓fCall_b, ↓sSeq_b, ↓sExpr_b, ↓sRet_b, ↓sIf_b, ↓sSet_b, ↓sAsg_b, ↓iSeq_b, ↓iRange1_b, ↓sFor_b, ↓fNew_b, ↓nLst_b, ↓nList_b, ↓fAppend_b, ↓fPopAt_b, ↓nLc_b, ↓nListRange_b, ↓sPar_b, ↓sParE_b, ↓sParN_b, ↓sFldSet_b, ↓fC_b, ↓lNil_b, ↓sNil_b, ↓fYes_b, ↓tgName_b, ↓tgNil_b, ↓tgCons_b, ↓tgTup_b, ↓lcRun_b, ↓fPart_n, ↓fPart_s, ↓frz_val, ↓lrs_val, ↓liftS_b, ↓liftN_b, ↓seqOf_t_b, ↓seqOf_l_b, ↓lstOf_l_b, ↓intOf_i_b, ↓blOf_b_b, ↓tru_n_b, ↓tru_b_b, ↓tru_i_b, ↓tru_t_b, ↓tru_l_b, ↓pLen_t_b, ↓pLen_l_b, ↓pLen_s_b, ↓pTuple_t_b, ↓pTuple_l_b, ↓pAdd_i_b, ↓pNeg_i_b, ↓pLt_i_b, ↓pGt_i_b, ↓pGe_i_b, ↓pMax2_i_b, ↓pMin2_i_b, ↓pIs_nn_b, ↓pIs_in_b, ↓pIs_tn_b, ↓pIs_ln_b, ↓pIs_bn_b, ↓pIs_bb_b, ↓pNotIs_nn_b, ↓pNotIs_in_b, ↓pNotIs_tn_b, ↓pNotIs_ln_b, ↓pNotIs_bn_b, ↓pNotIs_bb_b, ↓pCut_t_b, ↓pCut_l_b, ↓atI_0_b, ↓atI_1_b, ↓atI_2_b, ↓atI_3_b, ↓lg0_b, ↓lg1_b, ↓lg2_b, ↓lg3_b, ↓isi_bl_int_b, ↓isi_bl_bool_b, ↓isi_bl_tuple_b, ↓isi2_bl_b, ↓isi_int_int_b, ↓isi_int_bool_b, ↓isi_int_tuple_b, ↓isi2_int_b, ↓isi_str_int_b, ↓isi_str_bool_b, ↓isi_str_tuple_b, ↓isi2_str_b, ↓isi_tup_int_b, ↓isi_tup_bool_b, ↓isi_tup_tuple_b, ↓isi2_tup_b, ↓isi_lst_int_b, ↓isi_lst_bool_b, ↓isi_lst_tuple_b, ↓isi2_lst_b, rs_val, outV_rt, outV_nx, backE_n, backE_u, wipeE_n, wipeE_u, froOf_f, froOf_u, seqOf_t, seqOf_l, lstOf_l, intOf_i, blOf_b, tru_n, tru_b, tru_i, tru_t, tru_l, pLen_t, pLen_l, pLen_s, pTuple_t, pTuple_l, pAdd_i, pNeg_i, pLt_i, pGt_i, pGe_i, pMax2_i, pMin2_i, pIs_nn, pIs_in, pIs_tn, pIs_ln, pIs_bn, pIs_bb, pNotIs_nn, pNotIs_in, pNotIs_tn, pNotIs_ln, pNotIs_bn, pNotIs_bb, pCut_t, pCut_l, atI_0, atI_1, atI_2, atI_3, lg0, lg1, lg2, lg3, isi_bl_int, isi_bl_bool, isi_bl_tuple, isi2_bl, isi_int_int, isi_int_bool, isi_int_tuple, isi2_int, isi_str_int, isi_str_bool, isi_str_tuple, isi2_str, isi_tup_int, isi_tup_bool, isi_tup_tuple, isi2_tup, isi_lst_int, isi_lst_bool, isi_lst_tuple, isi2_lst, pIx_t, pIx_l, pAdd_t, pAdd_l, ↓keyOf1_ib, keyOf1_i, ↓T.bind_assoc, bind_ret', bind_bad', bind_exc', bind_draw', lift_some, lift_none', big, below62', below24', below64', below29', mul_ok, div_ok, mod_ok, ↓sRaise_b, ↓sTryB_b, mDrop_b, ↓mArgs_bb, mArgs_b, mIfX_b, mIfS_b, envB_self, tryT_ret, tryT_exc, tryT_draw, List.length_cons, List.length_nil, List.map_cons, List.map_nil, List.append_nil, List.nil_append, List.cons_append, List.replicate_succ, List.replicate_zero, List.isEmpty_nil, List.isEmpty_cons, Option.map_some, Option.map_none, Option.bind_some, Option.bind_none, true_and, and_true, and_self, false_and, and_false, true_or, or_true, false_or, or_false, not_true_eq_false, not_false_eq_true, Bool.not_true, Bool.not_false, Bool.true_and, Bool.and_true, Bool.false_and, Bool.and_false, Bool.true_or, Bool.or_true, Bool.or_false, Bool.false_or, decide_true, decide_false, decide_eq_true_eq, decide_eq_false_iff_not, if_true, if_false, ite_true, ite_false, ↓reduceIte, Int.natCast_nonneg, Nat.reduceLT, Nat.reduceLeDiff, Nat.reduceEqDiff, Nat.reduceSub, Nat.reduceMul, Int.reduceLT, Int.reduceLE, Int.reduceEq, Int.reduceAdd, Int.reduceSub, Int.reduceMul, Int.reduceNeg, Int.reducePow, List.length_map, List.length_range, eq_self, ne_eq, Classical.not_not, Bool.not_eq_true, Bool.not_eq_false, Bool.false_eq_true, reduceCtorEq, Int.toNat_natCast, Nat.add_eq, Nat.reduceAdd, Int.cast_ofNat_Int, Int.reduceToNat, Int.zero_add, Int.add_zero, Nat.zero_add, Nat.add_zero, Nat.sub_zero, Int.sub_zero, Int.natCast_zero, Int.natCast_one, Int.natCast_add, Int.natCast_succ, beq_self_eq_true, Bool.decide_eq_true, Bool.decide_eq_false, ↓vf0, ↓vm0, rf0, rm0, ↓qf0, ↓qm0, ↓zf0, ↓zm0, ↓im0, ss0, ↓imd0, ↓vf1, ↓vm1, rf1, rm1, ↓qf1, ↓qm1, ↓zf1, ↓zm1, ↓im1, ss1, ↓imd1, ↓vf2, ↓vm2, rf2, rm2, ↓qf2, ↓qm2, ↓zf2, ↓zm2, ↓im2, ss2, ↓imd2, ↓vf3, ↓vm3, rf3, rm3, ↓qf3, ↓qm3, ↓zf3, ↓zm3, ↓im3, ss3, ↓imd3, ↓vf4, ↓vm4, rf4, rm4, ↓qf4, ↓qm4, ↓zf4, ↓zm4, ↓im4, ss4, ↓imd4, ↓vf5, ↓vm5, rf5, rm5, ↓qf5, ↓qm5, ↓zf5, ↓zm5, ↓im5, ss5, ↓imd5, ↓vf6, ↓vm6, rf6, rm6, ↓qf6, ↓qm6, ↓zf6, ↓zm6, ↓im6, ss6, ↓imd6, ↓vf7, ↓vm7, rf7, rm7, ↓qf7, ↓qm7, ↓zf7, ↓zm7, ↓im7, ss7, ↓imd7, ↓vf8, ↓vm8, rf8, rm8, ↓qf8, ↓qm8, ↓zf8, ↓zm8, ↓im8, ss8, ↓imd8, ↓vf9, ↓vm9, rf9, rm9, ↓qf9, ↓qm9, ↓zf9, ↓zm9, ↓im9, ss9, ↓imd9, ↓vf10, ↓vm10, rf10, rm10, ↓qf10, ↓qm10, ↓zf10, ↓zm10, ↓im10, ss10, ↓imd10]); (try simp only [T.bind_ret]); exact rfl) ?_); (try (with_reducible refine al_nx ?_))
  refine al_rtF ?_
  clear ps pm nr bn
  have W : ∀ l : List Nat, (∀ x ∈ l, x < n) → l.length ≤ 10 → f_are_spots [.lst (nl l), .int n] = .ret (.bl (decide ((distN (l.map fun k : Nat => (k : Int)) : Int) = ((l.map fun k : Nat => (k : Int)).length : Int)))) := fun l hl h1 => by
    rw [nl_il']
    exact are_spots_il (by rw [List.length_map]; omega) fun x hx => by
      obtain ⟨k, hk, rfl⟩ := List.mem_map.mp hx
      have := hl k hk
      omega
  have S0 : f_are_spots [.lst [], .int n] = .ret (.bl true) := W [] (fun x hx => by cases hx) (by decide)
  have S1 : f_are_spots [.lst [.int 0], .int n] = .ret (.bl true) := W [0] (fun x hx => by cases hx with | head => exact n0 | tail _ h => cases h) (by decide)
  have nlx : ∀ l : List Nat, ∀ x ∈ nl l, (tyName x).isSome = true := fun l x hx => by
    obtain ⟨k, _, rfl⟩ := List.mem_map.mp hx
    rfl
  have rng : ∀ l : List Nat, l.Sublist (List.range n) → (∀ x ∈ l, x < n) ∧ l.length ≤ 10 ∧ (l.map fun k : Nat => (k : Int)).Nodup := fun l h => ⟨fun x hx => List.mem_range.mp (h.subset hx), by have := h.length_le; rw [List.length_range] at this; omega, by
    rw [List.Nodup, List.pairwise_map]
    exact (h.nodup List.nodup_range).imp fun h e => h (by omega)⟩
  have good : ∀ l : List Nat, l.Sublist (List.range n) → f_are_spots [.lst (nl l), .int n] = .ret (.bl true) := fun l h => by
    obtain ⟨a, b, c⟩ := rng l h
    rw [W l a b, distN_nodup c, decide_eq_true rfl]
  have bad : ∀ xs : List AV, xs.length < 1000 → (∀ x ∈ xs, (tyName x).isSome = true) → xs.all (belowB n) = false → f_are_spots [.lst xs, .int n] = .ret (.bl false) := fun xs a b c => are_spots_bad rfl rfl a b c
  have L : ∀ {a b : AV}, f_are_spots [a, .int n] = .ret (.bl false) → f_is_row [.tup [a, b], .int n] = .ret (.bl false) := fun {a b} h => is_row_2 (q := true) (r := true) h (fun z => by cases z) fun z => by cases z
  have Rr : ∀ {a b : AV}, f_are_spots [a, .int n] = .ret (.bl true) → f_are_spots [b, .int n] = .ret (.bl false) → f_is_row [.tup [a, b], .int n] = .ret (.bl false) := fun {a b} h h2 => is_row_2 (q := false) (r := true) h (fun _ => h2) fun _ z => by cases z
  have bn : belowB n (.int (n : Int)) = false := decide_eq_false (by omega)
  have bm : belowB n (.int (-1)) = false := by
    show decide (0 ≤ (-1 : Int) ∧ (-1 : Int) < (n : Int)) = false
    exact decide_eq_false (by omega)
  have one : ∀ x : AV, (tyName x).isSome = true → belowB n x = false → f_are_spots [.lst [x], .int n] = .ret (.bl false) := fun x a b => bad [x] (show 1 < 1000 by decide) (fun y hy => by cases hy with | head => exact a | tail _ h => cases h) (by rw [List.all_cons, b]; rfl)
  simp only [List.mem_cons, List.not_mem_nil, or_false] at ht
  rcases ht with rfl | rfl | rfl | rfl | rfl | rfl | rfl | rfl | rfl | rfl | rfl | rfl | rfl | rfl | rfl | rfl | rfl
  · exact is_row_no rfl fun xs e => by cases e
  · exact is_row_no rfl fun xs e => by cases e
  · exact is_row_no rfl fun xs e => by cases e
  · exact is_row_no rfl fun xs e => by cases e; exact (show 3 ≠ 2 by decide)
  · exact is_row_no rfl fun xs e => by cases e; exact (show 1 ≠ 2 by decide)
  · exact is_row_no rfl fun xs e => by cases e
  · refine L ?_
    exact (W [0, 0] (fun x hx => by simp only [List.mem_cons, List.not_mem_nil, or_false] at hx; omega) (by decide)).trans (congrArg (fun b => T.ret (AV.bl b)) (decide_eq_false (by decide)))
  · exact L (one _ rfl bn)
  · have e := good ((List.range n).take ((nl (List.range n)).length - 1)) (List.take_sublist _ _)
    have e2 : (nl (List.range n)).take ((nl (List.range n)).length - 1) = nl ((List.range n).take ((nl (List.range n)).length - 1)) := (List.map_take ..).symm
    rw [e2]
    refine is_row_2 (p := true) (q := true) (r := false) S0 (fun _ => e) fun _ _ => ⟨((n - 1 : Nat) : Int), ?_, (decide_eq_false (by omega)).symm⟩
    show some (AV.int ((nl ((List.range n).take ((nl (List.range n)).length - 1))).length : Nat)) = _
    rw [nl_len, List.length_take, nl_len, List.length_range, Nat.min_eq_left (by omega)]
  · refine Rr S0 (bad _ (by rw [List.length_append, nl_len, List.length_range]; simp only [List.length_cons, List.length_nil]; omega) (fun x hx => ?_) ?_)
    · rcases List.mem_append.mp hx with h | h
      · exact nlx _ _ h
      · cases h with
        | head => rfl
        | tail _ h => cases h
    · rw [List.all_append, List.all_cons, bn]
      simp
  · refine Rr S0 ((W (List.replicate (n + 1) 0) (fun x hx => by rw [List.eq_of_mem_replicate hx]; exact n0) (by rw [List.length_replicate]; omega)).trans ?_)
    refine congrArg (fun b => T.ret (AV.bl b)) (decide_eq_false ?_)
    have : n = 1 ∨ n = 2 ∨ n = 3 ∨ n = 4 ∨ n = 5 ∨ n = 6 := by omega
    rcases this with rfl | rfl | rfl | rfl | rfl | rfl <;> decide
  · exact L (one _ rfl bm)
  · exact L (are_spots_no rfl rfl)
  · exact L (one _ rfl rfl)
  · exact Rr S0 (are_spots_no rfl rfl)
  · exact L (one _ rfl rfl)
  · exact Rr S1 (are_spots_no rfl rfl)
theorem law_true (ns : List Int) (hn : ns.length ≤ 63) : (f_law [.scr ns]).Al (fun t => t = .bl true) NoX := by
  refine aFnQ rfl ?_
  show (K0_law [.fro (.scr ns), .un, .un, .un, .un, .un, .un, .un, .un, .un, .un]).Al _ _
  have hk := k3_times ns
  have b62 : below ((max 1 (min 3 ns.length) : Nat) : Int) 62 = true := below_of (by omega)
  have nn : pNotIs .non .non = some (.bl false) := rfl
  have nr : pNe (.str "rows") (.str "rows") = some (.bl false) := pNe_self_str "rows"
  have np : pNe (.str "places") (.str "places") = some (.bl false) := pNe_self_str "places"
  (simp only [U0f1f2t0_law, U0f1f5t0_law, U0f1f7t0_law, U0f1f7_law, U0f1f6_law, U0f1f5_law, U0f1f4_law, U0f1f3_law, U0f1f2_law, U0f1f1_law, U0f1f0_law, U0f1_law, U0f0_law, U1_law, U0_law, al_seq, nx_nx, lq_nx]; refine al_rd _ (by (simp -dsimp only [↓fBin_b, ↓fUn_b, ↓fBlT_b, ↓fOrT_b, ↓fAnd_b, ↓lCons_b, ↓fTup_b, ↓fSl_b, ↓fCall_b, ↓sSeq_b, ↓sRet_b, ↓sIf_b, ↓sSet_b, ↓iSeq_b, ↓iRange1_b, ↓sFor_b, ↓fNew_b, ↓nLst_b, ↓nLc_b, ↓fC_b, ↓lNil_b, ↓sNil_b, ↓fYes_b, ↓tgName_b, ↓tgNil_b, ↓tgCons_b, ↓tgTup_b, ↓lcRun_b, ↓fPart_n, ↓fPart_s, ↓frz_val, ↓lrs_val, ↓liftS_b, ↓liftN_b, ↓seqOf_t_b, ↓seqOf_l_b, ↓lstOf_l_b, ↓intOf_i_b, ↓blOf_b_b, ↓tru_n_b, ↓tru_b_b, ↓tru_i_b, ↓tru_t_b, ↓tru_l_b, ↓pLen_t_b, ↓pLen_l_b, ↓pLen_s_b, ↓pTuple_t_b, ↓pTuple_l_b, ↓pAdd_i_b, ↓pNeg_i_b, ↓pMax2_i_b, ↓pMin2_i_b, ↓pIs_nn_b, ↓pIs_in_b, ↓pIs_tn_b, ↓pIs_ln_b, ↓pIs_bn_b, ↓pIs_bb_b, ↓pNotIs_nn_b, ↓pNotIs_in_b, ↓pNotIs_tn_b, ↓pNotIs_ln_b, ↓pNotIs_bn_b, ↓pNotIs_bb_b, ↓pCut_t_b, ↓pCut_l_b, ↓atI_0_b, ↓atI_1_b, ↓atI_2_b, ↓atI_3_b, ↓lg0_b, ↓lg1_b, ↓lg2_b, ↓lg3_b, rs_val, outV_rt, outV_nx, backE_n, backE_u, wipeE_n, wipeE_u, froOf_f, froOf_u, seqOf_t, seqOf_l, lstOf_l, intOf_i, blOf_b, tru_n, tru_b, tru_i, tru_t, tru_l, pLen_t, pLen_l, pLen_s, pTuple_t, pTuple_l, pAdd_i, pNeg_i, pMax2_i, pMin2_i, pIs_nn, pIs_in, pIs_tn, pIs_ln, pIs_bn, pIs_bb, pNotIs_nn, pNotIs_in, pNotIs_tn, pNotIs_ln, pNotIs_bn, pNotIs_bb, pCut_t, pCut_l, atI_0, atI_1, atI_2, atI_3, lg0, lg1, lg2, lg3, pIx_t, pIx_l, pAdd_t, pAdd_l, ↓keyOf1_ib, keyOf1_i, ↓T.bind_assoc, bind_ret', bind_bad', bind_exc', bind_draw', lift_some, lift_none', big, below62', below24', below64', below29', mul_ok, div_ok, mod_ok, ↓mArgs_bb, envB_self, tryT_ret, tryT_exc, tryT_draw, List.length_cons, List.length_nil, List.map_cons, List.map_nil, List.append_nil, List.nil_append, List.cons_append, List.replicate_succ, List.replicate_zero, List.isEmpty_nil, List.isEmpty_cons, Option.map_some, Option.map_none, Option.bind_some, Option.bind_none, true_and, and_true, and_self, false_and, and_false, true_or, or_true, false_or, or_false, not_true_eq_false, not_false_eq_true, Bool.not_true, Bool.not_false, Bool.true_and, Bool.and_true, Bool.false_and, Bool.and_false, Bool.true_or, Bool.or_true, Bool.or_false, Bool.false_or, decide_true, decide_false, decide_eq_true_eq, decide_eq_false_iff_not, if_true, if_false, ite_true, ite_false, ↓reduceIte, Int.natCast_nonneg, Nat.reduceLT, Nat.reduceLeDiff, Nat.reduceEqDiff, Nat.reduceSub, Nat.reduceMul, Int.reduceLT, Int.reduceLE, Int.reduceEq, Int.reduceAdd, Int.reduceSub, Int.reduceMul, Int.reduceNeg, Int.reducePow, List.length_map, List.length_range, eq_self, ne_eq, Classical.not_not, Bool.not_eq_true, Bool.not_eq_false, Bool.false_eq_true, reduceCtorEq, Int.toNat_natCast, Nat.add_eq, Nat.reduceAdd, Int.cast_ofNat_Int, Int.reduceToNat, Int.zero_add, Int.add_zero, Nat.zero_add, Nat.add_zero, Nat.sub_zero, Int.sub_zero, Int.natCast_zero, Int.natCast_one, Int.natCast_add, Int.natCast_succ, beq_self_eq_true, Bool.decide_eq_true, Bool.decide_eq_false, ↓vf0, ↓vm0, rf0, rm0, ↓qf0, ↓qm0, ↓zf0, ↓zm0, ↓im0, ss0, ↓vf1, ↓vm1, rf1, rm1, ↓qf1, ↓qm1, ↓zf1, ↓zm1, ↓im1, ss1, ↓vf2, ↓vm2, rf2, rm2, ↓qf2, ↓qm2, ↓zf2, ↓zm2, ↓im2, ss2, ↓vf3, ↓vm3, rf3, rm3, ↓qf3, ↓qm3, ↓zf3, ↓zm3, ↓im3, ss3, ↓vf4, ↓vm4, rf4, rm4, ↓qf4, ↓qm4, ↓zf4, ↓zm4, ↓im4, ss4, ↓vf5, ↓vm5, rf5, rm5, ↓qf5, ↓qm5, ↓zf5, ↓zm5, ↓im5, ss5, ↓vf6, ↓vm6, rf6, rm6, ↓qf6, ↓qm6, ↓zf6, ↓zm6, ↓im6, ss6, ↓vf7, ↓vm7, rf7, rm7, ↓qf7, ↓qm7, ↓zf7, ↓zm7, ↓im7, ss7, ↓vf8, ↓vm8, rf8, rm8, ↓qf8, ↓qm8, ↓zf8, ↓zm8, ↓im8, ss8, ↓vf9, ↓vm9, rf9, rm9, ↓qf9, ↓qm9, ↓zf9, ↓zm9, ↓im9, ss9, ↓vf10, ↓vm10, rf10, rm10, ↓qf10, ↓qm10, ↓zf10, ↓zm10, ↓im10, ss10, S0f1f2t0_law, S0f1f5t0_law, S0f1f7t0_law, S0f1f0_law, S0f1f1_law, S0f1f2_law, S0f1f3_law, S0f1f4_law, S0f1f5_law, S0f1f6_law, S0f1f7_law, S0f0_law, S0f1_law, S0_law, S1_law, U0f1f2t0_law, U0f1f5t0_law, U0f1f7t0_law, U0f1f7_law, U0f1f6_law, U0f1f5_law, U0f1f4_law, U0f1f3_law, U0f1f2_law, U0f1f1_law, U0f1f0_law, U0f1_law, U0f0_law, U1_law, U0_law, hk, b62]); (try simp only [T.bind_ret]); exact rfl) ?_); (try (with_reducible refine al_nx ?_))
  refine al_forL (fun i ρ => ∃ s1 s2 s3 s4 s5 s6 s7 s8 : Dn.Slot, ρ = [.fro (.scr ns), s1, s2, s3, s4, s5, s6, s7, s8, .un, .un]) ⟨_, _, _, _, _, _, _, _, rfl⟩ (fun k x ρ hx hI => ?_) fun ρ hI => ?_
  rotate_left
  · obtain ⟨s1, s2, s3, s4, s5, s6, s7, s8, rfl⟩ := hI
    have e1 : f_law_heard [.int 1, .lst []] = .ret (.str "rows") := heard_exc (rota_r (is_whole_i.trans (by rw [decide_eq_true (by decide)])) (are_rows_o (t := .lst []) (xs := []) (q := fun _ => true) rfl rfl (by decide) fun x hx => by cases hx))
    have ok1 : WR 1 [(([0] : List Int), ([0] : List Nat))] := wr_of (by decide) (by decide) (by decide) (by decide) fun r hr => by
      cases hr with
      | head => exact ⟨⟨rfl, by decide, by decide⟩, by decide, by decide⟩
      | tail _ h => cases h
    have e2 : f_law_heard [.int 1, .lst [.tup [.lst [.int 0], .lst [.int 0]]]] = .ret .non := heard_ok (rota_ok (n := 1) (rows := [(([0] : List Int), ([0] : List Nat))]) (.inl rfl) ok1)
    have q1 : pEq (.str "rows") (.str "rows") = some (.bl true) := pEq_self_str "rows"
    have q2 : pIs .non .non = some (.bl true) := rfl
    (simp only [U0f1f2t0_law, U0f1f5t0_law, U0f1f7t0_law, U0f1f7_law, U0f1f6_law, U0f1f5_law, U0f1f4_law, U0f1f3_law, U0f1f2_law, U0f1f1_law, U0f1f0_law, U0f1_law, U0f0_law, U1_law, U0_law, al_seq, nx_nx, lq_nx]; refine al_rd _ (by (simp -dsimp only [↓fBin_b, ↓fUn_b, ↓fBlT_b, ↓fOrT_b, ↓fAnd_b, ↓lCons_b, ↓fTup_b, ↓fSl_b, ↓fCall_b, ↓sSeq_b, ↓sRet_b, ↓sIf_b, ↓sSet_b, ↓iSeq_b, ↓iRange1_b, ↓sFor_b, ↓fNew_b, ↓nLst_b, ↓nLc_b, ↓fC_b, ↓lNil_b, ↓sNil_b, ↓fYes_b, ↓tgName_b, ↓tgNil_b, ↓tgCons_b, ↓tgTup_b, ↓lcRun_b, ↓fPart_n, ↓fPart_s, ↓frz_val, ↓lrs_val, ↓liftS_b, ↓liftN_b, ↓seqOf_t_b, ↓seqOf_l_b, ↓lstOf_l_b, ↓intOf_i_b, ↓blOf_b_b, ↓tru_n_b, ↓tru_b_b, ↓tru_i_b, ↓tru_t_b, ↓tru_l_b, ↓pLen_t_b, ↓pLen_l_b, ↓pLen_s_b, ↓pTuple_t_b, ↓pTuple_l_b, ↓pAdd_i_b, ↓pNeg_i_b, ↓pMax2_i_b, ↓pMin2_i_b, ↓pIs_nn_b, ↓pIs_in_b, ↓pIs_tn_b, ↓pIs_ln_b, ↓pIs_bn_b, ↓pIs_bb_b, ↓pNotIs_nn_b, ↓pNotIs_in_b, ↓pNotIs_tn_b, ↓pNotIs_ln_b, ↓pNotIs_bn_b, ↓pNotIs_bb_b, ↓pCut_t_b, ↓pCut_l_b, ↓atI_0_b, ↓atI_1_b, ↓atI_2_b, ↓atI_3_b, ↓lg0_b, ↓lg1_b, ↓lg2_b, ↓lg3_b, rs_val, outV_rt, outV_nx, backE_n, backE_u, wipeE_n, wipeE_u, froOf_f, froOf_u, seqOf_t, seqOf_l, lstOf_l, intOf_i, blOf_b, tru_n, tru_b, tru_i, tru_t, tru_l, pLen_t, pLen_l, pLen_s, pTuple_t, pTuple_l, pAdd_i, pNeg_i, pMax2_i, pMin2_i, pIs_nn, pIs_in, pIs_tn, pIs_ln, pIs_bn, pIs_bb, pNotIs_nn, pNotIs_in, pNotIs_tn, pNotIs_ln, pNotIs_bn, pNotIs_bb, pCut_t, pCut_l, atI_0, atI_1, atI_2, atI_3, lg0, lg1, lg2, lg3, pIx_t, pIx_l, pAdd_t, pAdd_l, ↓keyOf1_ib, keyOf1_i, ↓T.bind_assoc, bind_ret', bind_bad', bind_exc', bind_draw', lift_some, lift_none', big, below62', below24', below64', below29', mul_ok, div_ok, mod_ok, ↓mArgs_bb, envB_self, tryT_ret, tryT_exc, tryT_draw, List.length_cons, List.length_nil, List.map_cons, List.map_nil, List.append_nil, List.nil_append, List.cons_append, List.replicate_succ, List.replicate_zero, List.isEmpty_nil, List.isEmpty_cons, Option.map_some, Option.map_none, Option.bind_some, Option.bind_none, true_and, and_true, and_self, false_and, and_false, true_or, or_true, false_or, or_false, not_true_eq_false, not_false_eq_true, Bool.not_true, Bool.not_false, Bool.true_and, Bool.and_true, Bool.false_and, Bool.and_false, Bool.true_or, Bool.or_true, Bool.or_false, Bool.false_or, decide_true, decide_false, decide_eq_true_eq, decide_eq_false_iff_not, if_true, if_false, ite_true, ite_false, ↓reduceIte, Int.natCast_nonneg, Nat.reduceLT, Nat.reduceLeDiff, Nat.reduceEqDiff, Nat.reduceSub, Nat.reduceMul, Int.reduceLT, Int.reduceLE, Int.reduceEq, Int.reduceAdd, Int.reduceSub, Int.reduceMul, Int.reduceNeg, Int.reducePow, List.length_map, List.length_range, eq_self, ne_eq, Classical.not_not, Bool.not_eq_true, Bool.not_eq_false, Bool.false_eq_true, reduceCtorEq, Int.toNat_natCast, Nat.add_eq, Nat.reduceAdd, Int.cast_ofNat_Int, Int.reduceToNat, Int.zero_add, Int.add_zero, Nat.zero_add, Nat.add_zero, Nat.sub_zero, Int.sub_zero, Int.natCast_zero, Int.natCast_one, Int.natCast_add, Int.natCast_succ, beq_self_eq_true, Bool.decide_eq_true, Bool.decide_eq_false, ↓vf0, ↓vm0, rf0, rm0, ↓qf0, ↓qm0, ↓zf0, ↓zm0, ↓im0, ss0, ↓vf1, ↓vm1, rf1, rm1, ↓qf1, ↓qm1, ↓zf1, ↓zm1, ↓im1, ss1, ↓vf2, ↓vm2, rf2, rm2, ↓qf2, ↓qm2, ↓zf2, ↓zm2, ↓im2, ss2, ↓vf3, ↓vm3, rf3, rm3, ↓qf3, ↓qm3, ↓zf3, ↓zm3, ↓im3, ss3, ↓vf4, ↓vm4, rf4, rm4, ↓qf4, ↓qm4, ↓zf4, ↓zm4, ↓im4, ss4, ↓vf5, ↓vm5, rf5, rm5, ↓qf5, ↓qm5, ↓zf5, ↓zm5, ↓im5, ss5, ↓vf6, ↓vm6, rf6, rm6, ↓qf6, ↓qm6, ↓zf6, ↓zm6, ↓im6, ss6, ↓vf7, ↓vm7, rf7, rm7, ↓qf7, ↓qm7, ↓zf7, ↓zm7, ↓im7, ss7, ↓vf8, ↓vm8, rf8, rm8, ↓qf8, ↓qm8, ↓zf8, ↓zm8, ↓im8, ss8, ↓vf9, ↓vm9, rf9, rm9, ↓qf9, ↓qm9, ↓zf9, ↓zm9, ↓im9, ss9, ↓vf10, ↓vm10, rf10, rm10, ↓qf10, ↓qm10, ↓zf10, ↓zm10, ↓im10, ss10, S0f1f2t0_law, S0f1f5t0_law, S0f1f7t0_law, S0f1f0_law, S0f1f1_law, S0f1f2_law, S0f1f3_law, S0f1f4_law, S0f1f5_law, S0f1f6_law, S0f1f7_law, S0f0_law, S0f1_law, S0_law, S1_law, U0f1f2t0_law, U0f1f5t0_law, U0f1f7t0_law, U0f1f7_law, U0f1f6_law, U0f1f5_law, U0f1f4_law, U0f1f3_law, U0f1f2_law, U0f1f1_law, U0f1f0_law, U0f1_law, U0f0_law, U1_law, U0_law, e1, e2, q1, q2]); (try simp only [T.bind_ret]); exact rfl) ?_); (try (with_reducible refine al_nx ?_))
    exact al_rtF rfl
  obtain ⟨s1, s2, s3, s4, s5, s6, s7, s8, rfl⟩ := hI
  obtain ⟨hi, rfl⟩ := range_get hx
  (try refine al_rd _ (by (simp -dsimp only [↓fBin_b, ↓fUn_b, ↓fTru_b, ↓fBlT_b, ↓fNotT_b, ↓fOrT_b, ↓fAnd_b, ↓fNot_b, ↓fIf_b, ↓lCons_b, ↓fTup_b, ↓fSl_b, ↓fCall_b, ↓sSeq_b, ↓sExpr_b, ↓sRet_b, ↓sIf_b, ↓sSet_b, ↓sAsg_b, ↓iSeq_b, ↓iRange1_b, ↓sFor_b, ↓fNew_b, ↓nLst_b, ↓nList_b, ↓fAppend_b, ↓fPopAt_b, ↓nLc_b, ↓nListRange_b, ↓sPar_b, ↓sParE_b, ↓sParN_b, ↓sFldSet_b, ↓fC_b, ↓lNil_b, ↓sNil_b, ↓fYes_b, ↓tgName_b, ↓tgNil_b, ↓tgCons_b, ↓tgTup_b, ↓lcRun_b, ↓fPart_n, ↓fPart_s, ↓frz_val, ↓lrs_val, ↓liftS_b, ↓liftN_b, ↓seqOf_t_b, ↓seqOf_l_b, ↓lstOf_l_b, ↓intOf_i_b, ↓blOf_b_b, ↓tru_n_b, ↓tru_b_b, ↓tru_i_b, ↓tru_t_b, ↓tru_l_b, ↓pLen_t_b, ↓pLen_l_b, ↓pLen_s_b, ↓pTuple_t_b, ↓pTuple_l_b, ↓pAdd_i_b, ↓pNeg_i_b, ↓pLt_i_b, ↓pGt_i_b, ↓pGe_i_b, ↓pMax2_i_b, ↓pMin2_i_b, ↓pIs_nn_b, ↓pIs_in_b, ↓pIs_tn_b, ↓pIs_ln_b, ↓pIs_bn_b, ↓pIs_bb_b, ↓pNotIs_nn_b, ↓pNotIs_in_b, ↓pNotIs_tn_b, ↓pNotIs_ln_b, ↓pNotIs_bn_b, ↓pNotIs_bb_b, ↓pCut_t_b, ↓pCut_l_b, ↓atI_0_b, ↓atI_1_b, ↓atI_2_b, ↓atI_3_b, ↓lg0_b, ↓lg1_b, ↓lg2_b, ↓lg3_b, ↓isi_bl_int_b, ↓isi_bl_bool_b, ↓isi_bl_tuple_b, ↓isi2_bl_b, ↓isi_int_int_b, ↓isi_int_bool_b, ↓isi_int_tuple_b, ↓isi2_int_b, ↓isi_str_int_b, ↓isi_str_bool_b, ↓isi_str_tuple_b, ↓isi2_str_b, ↓isi_tup_int_b, ↓isi_tup_bool_b, ↓isi_tup_tuple_b, ↓isi2_tup_b, ↓isi_lst_int_b, ↓isi_lst_bool_b, ↓isi_lst_tuple_b, ↓isi2_lst_b, rs_val, outV_rt, outV_nx, backE_n, backE_u, wipeE_n, wipeE_u, froOf_f, froOf_u, seqOf_t, seqOf_l, lstOf_l, intOf_i, blOf_b, tru_n, tru_b, tru_i, tru_t, tru_l, pLen_t, pLen_l, pLen_s, pTuple_t, pTuple_l, pAdd_i, pNeg_i, pLt_i, pGt_i, pGe_i, pMax2_i, pMin2_i, pIs_nn, pIs_in, pIs_tn, pIs_ln, pIs_bn, pIs_bb, pNotIs_nn, pNotIs_in, pNotIs_tn, pNotIs_ln, pNotIs_bn, pNotIs_bb, pCut_t, pCut_l, atI_0, atI_1, atI_2, atI_3, lg0, lg1, lg2, lg3, isi_bl_int, isi_bl_bool, isi_bl_tuple, isi2_bl, isi_int_int, isi_int_bool, isi_int_tuple, isi2_int, isi_str_int, isi_str_bool, isi_str_tuple, isi2_str, isi_tup_int, isi_tup_bool, isi_tup_tuple, isi2_tup, isi_lst_int, isi_lst_bool, isi_lst_tuple, isi2_lst, pIx_t, pIx_l, pAdd_t, pAdd_l, ↓keyOf1_ib, keyOf1_i, ↓T.bind_assoc, bind_ret', bind_bad', bind_exc', bind_draw', lift_some, lift_none', big, below62', below24', below64', below29', mul_ok, div_ok, mod_ok, ↓sRaise_b, ↓sTryB_b, mDrop_b, ↓mArgs_bb, mArgs_b, mIfX_b, mIfS_b, envB_self, tryT_ret, tryT_exc, tryT_draw, List.length_cons, List.length_nil, List.map_cons, List.map_nil, List.append_nil, List.nil_append, List.cons_append, List.replicate_succ, List.replicate_zero, List.isEmpty_nil, List.isEmpty_cons, Option.map_some, Option.map_none, Option.bind_some, Option.bind_none, true_and, and_true, and_self, false_and, and_false, true_or, or_true, false_or, or_false, not_true_eq_false, not_false_eq_true, Bool.not_true, Bool.not_false, Bool.true_and, Bool.and_true, Bool.false_and, Bool.and_false, Bool.true_or, Bool.or_true, Bool.or_false, Bool.false_or, decide_true, decide_false, decide_eq_true_eq, decide_eq_false_iff_not, if_true, if_false, ite_true, ite_false, ↓reduceIte, Int.natCast_nonneg, Nat.reduceLT, Nat.reduceLeDiff, Nat.reduceEqDiff, Nat.reduceSub, Nat.reduceMul, Int.reduceLT, Int.reduceLE, Int.reduceEq, Int.reduceAdd, Int.reduceSub, Int.reduceMul, Int.reduceNeg, Int.reducePow, List.length_map, List.length_range, eq_self, ne_eq, Classical.not_not, Bool.not_eq_true, Bool.not_eq_false, Bool.false_eq_true, reduceCtorEq, Int.toNat_natCast, Nat.add_eq, Nat.reduceAdd, Int.cast_ofNat_Int, Int.reduceToNat, Int.zero_add, Int.add_zero, Nat.zero_add, Nat.add_zero, Nat.sub_zero, Int.sub_zero, Int.natCast_zero, Int.natCast_one, Int.natCast_add, Int.natCast_succ, beq_self_eq_true, Bool.decide_eq_true, Bool.decide_eq_false, ↓vf0, ↓vm0, rf0, rm0, ↓qf0, ↓qm0, ↓zf0, ↓zm0, ↓im0, ss0, ↓imd0, ↓vf1, ↓vm1, rf1, rm1, ↓qf1, ↓qm1, ↓zf1, ↓zm1, ↓im1, ss1, ↓imd1, ↓vf2, ↓vm2, rf2, rm2, ↓qf2, ↓qm2, ↓zf2, ↓zm2, ↓im2, ss2, ↓imd2, ↓vf3, ↓vm3, rf3, rm3, ↓qf3, ↓qm3, ↓zf3, ↓zm3, ↓im3, ss3, ↓imd3, ↓vf4, ↓vm4, rf4, rm4, ↓qf4, ↓qm4, ↓zf4, ↓zm4, ↓im4, ss4, ↓imd4, ↓vf5, ↓vm5, rf5, rm5, ↓qf5, ↓qm5, ↓zf5, ↓zm5, ↓im5, ss5, ↓imd5, ↓vf6, ↓vm6, rf6, rm6, ↓qf6, ↓qm6, ↓zf6, ↓zm6, ↓im6, ss6, ↓imd6, ↓vf7, ↓vm7, rf7, rm7, ↓qf7, ↓qm7, ↓zf7, ↓zm7, ↓im7, ss7, ↓imd7, ↓vf8, ↓vm8, rf8, rm8, ↓qf8, ↓qm8, ↓zf8, ↓zm8, ↓im8, ss8, ↓imd8, ↓vf9, ↓vm9, rf9, rm9, ↓qf9, ↓qm9, ↓zf9, ↓zm9, ↓im9, ss9, ↓imd9, ↓vf10, ↓vm10, rf10, rm10, ↓qf10, ↓qm10, ↓zf10, ↓zm10, ↓im10, ss10, ↓imd10]); (try simp only [T.bind_ret]); exact rfl) ?_); (try (with_reducible refine al_nx ?_)); refine al_retI.mpr ?_
  have bx := law_box_eq ns k 3 (by omega) (by decide)
  (simp only [U0f1f2t0_law, U0f1f5t0_law, U0f1f7t0_law, U0f1f7_law, U0f1f6_law, U0f1f5_law, U0f1f4_law, U0f1f3_law, U0f1f2_law, U0f1f1_law, U0f1f0_law, U0f1_law, U0f0_law, U1_law, U0_law, al_seq, nx_nx, lq_nx]; refine al_rd _ (by (simp -dsimp only [↓fBin_b, ↓fUn_b, ↓fBlT_b, ↓fOrT_b, ↓fAnd_b, ↓lCons_b, ↓fTup_b, ↓fSl_b, ↓fCall_b, ↓sSeq_b, ↓sRet_b, ↓sIf_b, ↓sSet_b, ↓iSeq_b, ↓iRange1_b, ↓sFor_b, ↓fNew_b, ↓nLst_b, ↓nLc_b, ↓fC_b, ↓lNil_b, ↓sNil_b, ↓fYes_b, ↓tgName_b, ↓tgNil_b, ↓tgCons_b, ↓tgTup_b, ↓lcRun_b, ↓fPart_n, ↓fPart_s, ↓frz_val, ↓lrs_val, ↓liftS_b, ↓liftN_b, ↓seqOf_t_b, ↓seqOf_l_b, ↓lstOf_l_b, ↓intOf_i_b, ↓blOf_b_b, ↓tru_n_b, ↓tru_b_b, ↓tru_i_b, ↓tru_t_b, ↓tru_l_b, ↓pLen_t_b, ↓pLen_l_b, ↓pLen_s_b, ↓pTuple_t_b, ↓pTuple_l_b, ↓pAdd_i_b, ↓pNeg_i_b, ↓pMax2_i_b, ↓pMin2_i_b, ↓pIs_nn_b, ↓pIs_in_b, ↓pIs_tn_b, ↓pIs_ln_b, ↓pIs_bn_b, ↓pIs_bb_b, ↓pNotIs_nn_b, ↓pNotIs_in_b, ↓pNotIs_tn_b, ↓pNotIs_ln_b, ↓pNotIs_bn_b, ↓pNotIs_bb_b, ↓pCut_t_b, ↓pCut_l_b, ↓atI_0_b, ↓atI_1_b, ↓atI_2_b, ↓atI_3_b, ↓lg0_b, ↓lg1_b, ↓lg2_b, ↓lg3_b, rs_val, outV_rt, outV_nx, backE_n, backE_u, wipeE_n, wipeE_u, froOf_f, froOf_u, seqOf_t, seqOf_l, lstOf_l, intOf_i, blOf_b, tru_n, tru_b, tru_i, tru_t, tru_l, pLen_t, pLen_l, pLen_s, pTuple_t, pTuple_l, pAdd_i, pNeg_i, pMax2_i, pMin2_i, pIs_nn, pIs_in, pIs_tn, pIs_ln, pIs_bn, pIs_bb, pNotIs_nn, pNotIs_in, pNotIs_tn, pNotIs_ln, pNotIs_bn, pNotIs_bb, pCut_t, pCut_l, atI_0, atI_1, atI_2, atI_3, lg0, lg1, lg2, lg3, pIx_t, pIx_l, pAdd_t, pAdd_l, ↓keyOf1_ib, keyOf1_i, ↓T.bind_assoc, bind_ret', bind_bad', bind_exc', bind_draw', lift_some, lift_none', big, below62', below24', below64', below29', mul_ok, div_ok, mod_ok, ↓mArgs_bb, envB_self, tryT_ret, tryT_exc, tryT_draw, List.length_cons, List.length_nil, List.map_cons, List.map_nil, List.append_nil, List.nil_append, List.cons_append, List.replicate_succ, List.replicate_zero, List.isEmpty_nil, List.isEmpty_cons, Option.map_some, Option.map_none, Option.bind_some, Option.bind_none, true_and, and_true, and_self, false_and, and_false, true_or, or_true, false_or, or_false, not_true_eq_false, not_false_eq_true, Bool.not_true, Bool.not_false, Bool.true_and, Bool.and_true, Bool.false_and, Bool.and_false, Bool.true_or, Bool.or_true, Bool.or_false, Bool.false_or, decide_true, decide_false, decide_eq_true_eq, decide_eq_false_iff_not, if_true, if_false, ite_true, ite_false, ↓reduceIte, Int.natCast_nonneg, Nat.reduceLT, Nat.reduceLeDiff, Nat.reduceEqDiff, Nat.reduceSub, Nat.reduceMul, Int.reduceLT, Int.reduceLE, Int.reduceEq, Int.reduceAdd, Int.reduceSub, Int.reduceMul, Int.reduceNeg, Int.reducePow, List.length_map, List.length_range, eq_self, ne_eq, Classical.not_not, Bool.not_eq_true, Bool.not_eq_false, Bool.false_eq_true, reduceCtorEq, Int.toNat_natCast, Nat.add_eq, Nat.reduceAdd, Int.cast_ofNat_Int, Int.reduceToNat, Int.zero_add, Int.add_zero, Nat.zero_add, Nat.add_zero, Nat.sub_zero, Int.sub_zero, Int.natCast_zero, Int.natCast_one, Int.natCast_add, Int.natCast_succ, beq_self_eq_true, Bool.decide_eq_true, Bool.decide_eq_false, ↓vf0, ↓vm0, rf0, rm0, ↓qf0, ↓qm0, ↓zf0, ↓zm0, ↓im0, ss0, ↓vf1, ↓vm1, rf1, rm1, ↓qf1, ↓qm1, ↓zf1, ↓zm1, ↓im1, ss1, ↓vf2, ↓vm2, rf2, rm2, ↓qf2, ↓qm2, ↓zf2, ↓zm2, ↓im2, ss2, ↓vf3, ↓vm3, rf3, rm3, ↓qf3, ↓qm3, ↓zf3, ↓zm3, ↓im3, ss3, ↓vf4, ↓vm4, rf4, rm4, ↓qf4, ↓qm4, ↓zf4, ↓zm4, ↓im4, ss4, ↓vf5, ↓vm5, rf5, rm5, ↓qf5, ↓qm5, ↓zf5, ↓zm5, ↓im5, ss5, ↓vf6, ↓vm6, rf6, rm6, ↓qf6, ↓qm6, ↓zf6, ↓zm6, ↓im6, ss6, ↓vf7, ↓vm7, rf7, rm7, ↓qf7, ↓qm7, ↓zf7, ↓zm7, ↓im7, ss7, ↓vf8, ↓vm8, rf8, rm8, ↓qf8, ↓qm8, ↓zf8, ↓zm8, ↓im8, ss8, ↓vf9, ↓vm9, rf9, rm9, ↓qf9, ↓qm9, ↓zf9, ↓zm9, ↓im9, ss9, ↓vf10, ↓vm10, rf10, rm10, ↓qf10, ↓qm10, ↓zf10, ↓zm10, ↓im10, ss10, S0f1f2t0_law, S0f1f5t0_law, S0f1f7t0_law, S0f1f0_law, S0f1f1_law, S0f1f2_law, S0f1f3_law, S0f1f4_law, S0f1f5_law, S0f1f6_law, S0f1f7_law, S0f0_law, S0f1_law, S0_law, S1_law, U0f1f2t0_law, U0f1f5t0_law, U0f1f7t0_law, U0f1f7_law, U0f1f6_law, U0f1f5_law, U0f1f4_law, U0f1f3_law, U0f1f2_law, U0f1f1_law, U0f1f0_law, U0f1_law, U0f0_law, U1_law, U0_law, bx]); (try simp only [T.bind_ret]); exact rfl) ?_); (try (with_reducible refine al_nx ?_))
  (simp only [U0f1f2t0_law, U0f1f5t0_law, U0f1f7t0_law, U0f1f7_law, U0f1f6_law, U0f1f5_law, U0f1f4_law, U0f1f3_law, U0f1f2_law, U0f1f1_law, U0f1f0_law, U0f1_law, U0f0_law, U1_law, U0_law, al_seq, nx_nx, lq_nx]; refine al_rd _ (by (simp -dsimp only [↓fBin_b, ↓fUn_b, ↓fBlT_b, ↓fOrT_b, ↓fAnd_b, ↓lCons_b, ↓fTup_b, ↓fSl_b, ↓fCall_b, ↓sSeq_b, ↓sRet_b, ↓sIf_b, ↓sSet_b, ↓iSeq_b, ↓iRange1_b, ↓sFor_b, ↓fNew_b, ↓nLst_b, ↓nLc_b, ↓fC_b, ↓lNil_b, ↓sNil_b, ↓fYes_b, ↓tgName_b, ↓tgNil_b, ↓tgCons_b, ↓tgTup_b, ↓lcRun_b, ↓fPart_n, ↓fPart_s, ↓frz_val, ↓lrs_val, ↓liftS_b, ↓liftN_b, ↓seqOf_t_b, ↓seqOf_l_b, ↓lstOf_l_b, ↓intOf_i_b, ↓blOf_b_b, ↓tru_n_b, ↓tru_b_b, ↓tru_i_b, ↓tru_t_b, ↓tru_l_b, ↓pLen_t_b, ↓pLen_l_b, ↓pLen_s_b, ↓pTuple_t_b, ↓pTuple_l_b, ↓pAdd_i_b, ↓pNeg_i_b, ↓pMax2_i_b, ↓pMin2_i_b, ↓pIs_nn_b, ↓pIs_in_b, ↓pIs_tn_b, ↓pIs_ln_b, ↓pIs_bn_b, ↓pIs_bb_b, ↓pNotIs_nn_b, ↓pNotIs_in_b, ↓pNotIs_tn_b, ↓pNotIs_ln_b, ↓pNotIs_bn_b, ↓pNotIs_bb_b, ↓pCut_t_b, ↓pCut_l_b, ↓atI_0_b, ↓atI_1_b, ↓atI_2_b, ↓atI_3_b, ↓lg0_b, ↓lg1_b, ↓lg2_b, ↓lg3_b, rs_val, outV_rt, outV_nx, backE_n, backE_u, wipeE_n, wipeE_u, froOf_f, froOf_u, seqOf_t, seqOf_l, lstOf_l, intOf_i, blOf_b, tru_n, tru_b, tru_i, tru_t, tru_l, pLen_t, pLen_l, pLen_s, pTuple_t, pTuple_l, pAdd_i, pNeg_i, pMax2_i, pMin2_i, pIs_nn, pIs_in, pIs_tn, pIs_ln, pIs_bn, pIs_bb, pNotIs_nn, pNotIs_in, pNotIs_tn, pNotIs_ln, pNotIs_bn, pNotIs_bb, pCut_t, pCut_l, atI_0, atI_1, atI_2, atI_3, lg0, lg1, lg2, lg3, pIx_t, pIx_l, pAdd_t, pAdd_l, ↓keyOf1_ib, keyOf1_i, ↓T.bind_assoc, bind_ret', bind_bad', bind_exc', bind_draw', lift_some, lift_none', big, below62', below24', below64', below29', mul_ok, div_ok, mod_ok, ↓mArgs_bb, envB_self, tryT_ret, tryT_exc, tryT_draw, List.length_cons, List.length_nil, List.map_cons, List.map_nil, List.append_nil, List.nil_append, List.cons_append, List.replicate_succ, List.replicate_zero, List.isEmpty_nil, List.isEmpty_cons, Option.map_some, Option.map_none, Option.bind_some, Option.bind_none, true_and, and_true, and_self, false_and, and_false, true_or, or_true, false_or, or_false, not_true_eq_false, not_false_eq_true, Bool.not_true, Bool.not_false, Bool.true_and, Bool.and_true, Bool.false_and, Bool.and_false, Bool.true_or, Bool.or_true, Bool.or_false, Bool.false_or, decide_true, decide_false, decide_eq_true_eq, decide_eq_false_iff_not, if_true, if_false, ite_true, ite_false, ↓reduceIte, Int.natCast_nonneg, Nat.reduceLT, Nat.reduceLeDiff, Nat.reduceEqDiff, Nat.reduceSub, Nat.reduceMul, Int.reduceLT, Int.reduceLE, Int.reduceEq, Int.reduceAdd, Int.reduceSub, Int.reduceMul, Int.reduceNeg, Int.reducePow, List.length_map, List.length_range, eq_self, ne_eq, Classical.not_not, Bool.not_eq_true, Bool.not_eq_false, Bool.false_eq_true, reduceCtorEq, Int.toNat_natCast, Nat.add_eq, Nat.reduceAdd, Int.cast_ofNat_Int, Int.reduceToNat, Int.zero_add, Int.add_zero, Nat.zero_add, Nat.add_zero, Nat.sub_zero, Int.sub_zero, Int.natCast_zero, Int.natCast_one, Int.natCast_add, Int.natCast_succ, beq_self_eq_true, Bool.decide_eq_true, Bool.decide_eq_false, ↓vf0, ↓vm0, rf0, rm0, ↓qf0, ↓qm0, ↓zf0, ↓zm0, ↓im0, ss0, ↓vf1, ↓vm1, rf1, rm1, ↓qf1, ↓qm1, ↓zf1, ↓zm1, ↓im1, ss1, ↓vf2, ↓vm2, rf2, rm2, ↓qf2, ↓qm2, ↓zf2, ↓zm2, ↓im2, ss2, ↓vf3, ↓vm3, rf3, rm3, ↓qf3, ↓qm3, ↓zf3, ↓zm3, ↓im3, ss3, ↓vf4, ↓vm4, rf4, rm4, ↓qf4, ↓qm4, ↓zf4, ↓zm4, ↓im4, ss4, ↓vf5, ↓vm5, rf5, rm5, ↓qf5, ↓qm5, ↓zf5, ↓zm5, ↓im5, ss5, ↓vf6, ↓vm6, rf6, rm6, ↓qf6, ↓qm6, ↓zf6, ↓zm6, ↓im6, ss6, ↓vf7, ↓vm7, rf7, rm7, ↓qf7, ↓qm7, ↓zf7, ↓zm7, ↓im7, ss7, ↓vf8, ↓vm8, rf8, rm8, ↓qf8, ↓qm8, ↓zf8, ↓zm8, ↓im8, ss8, ↓vf9, ↓vm9, rf9, rm9, ↓qf9, ↓qm9, ↓zf9, ↓zm9, ↓im9, ss9, ↓vf10, ↓vm10, rf10, rm10, ↓qf10, ↓qm10, ↓zf10, ↓zm10, ↓im10, ss10, S0f1f2t0_law, S0f1f5t0_law, S0f1f7t0_law, S0f1f0_law, S0f1f1_law, S0f1f2_law, S0f1f3_law, S0f1f4_law, S0f1f5_law, S0f1f6_law, S0f1f7_law, S0f0_law, S0f1_law, S0_law, S1_law, U0f1f2t0_law, U0f1f5t0_law, U0f1f7t0_law, U0f1f7_law, U0f1f6_law, U0f1f5_law, U0f1f4_law, U0f1f3_law, U0f1f2_law, U0f1f1_law, U0f1f0_law, U0f1_law, U0f0_law, U1_law, U0_law]); (try simp only [T.bind_ret]); exact rfl) ?_); (try (with_reducible refine al_nx ?_))
  refine al_forL (fun i ρ => ∃ s1 s3 s4 s5 s6 s7 s8 : Dn.Slot, ρ = [.fro (.scr ns), s1, .fro .box, s3, s4, s5, s6, s7, s8, .un, .un]) ⟨_, _, _, _, _, _, _, rfl⟩ (fun i x ρ hx hI => ?_) fun ρ hI => ?_
  rotate_left
  · obtain ⟨s1, s3, s4, s5, s6, s7, s8, rfl⟩ := hI
    exact al_endL ⟨_, _, _, _, _, _, _, _, rfl⟩
  obtain ⟨s1, s3, s4, s5, s6, s7, s8, rfl⟩ := hI
  obtain ⟨hi, rfl⟩ := range_get hx
  (try refine al_rd _ (by (simp -dsimp only [↓fBin_b, ↓fUn_b, ↓fTru_b, ↓fBlT_b, ↓fNotT_b, ↓fOrT_b, ↓fAnd_b, ↓fNot_b, ↓fIf_b, ↓lCons_b, ↓fTup_b, ↓fSl_b, ↓fCall_b, ↓sSeq_b, ↓sExpr_b, ↓sRet_b, ↓sIf_b, ↓sSet_b, ↓sAsg_b, ↓iSeq_b, ↓iRange1_b, ↓sFor_b, ↓fNew_b, ↓nLst_b, ↓nList_b, ↓fAppend_b, ↓fPopAt_b, ↓nLc_b, ↓nListRange_b, ↓sPar_b, ↓sParE_b, ↓sParN_b, ↓sFldSet_b, ↓fC_b, ↓lNil_b, ↓sNil_b, ↓fYes_b, ↓tgName_b, ↓tgNil_b, ↓tgCons_b, ↓tgTup_b, ↓lcRun_b, ↓fPart_n, ↓fPart_s, ↓frz_val, ↓lrs_val, ↓liftS_b, ↓liftN_b, ↓seqOf_t_b, ↓seqOf_l_b, ↓lstOf_l_b, ↓intOf_i_b, ↓blOf_b_b, ↓tru_n_b, ↓tru_b_b, ↓tru_i_b, ↓tru_t_b, ↓tru_l_b, ↓pLen_t_b, ↓pLen_l_b, ↓pLen_s_b, ↓pTuple_t_b, ↓pTuple_l_b, ↓pAdd_i_b, ↓pNeg_i_b, ↓pLt_i_b, ↓pGt_i_b, ↓pGe_i_b, ↓pMax2_i_b, ↓pMin2_i_b, ↓pIs_nn_b, ↓pIs_in_b, ↓pIs_tn_b, ↓pIs_ln_b, ↓pIs_bn_b, ↓pIs_bb_b, ↓pNotIs_nn_b, ↓pNotIs_in_b, ↓pNotIs_tn_b, ↓pNotIs_ln_b, ↓pNotIs_bn_b, ↓pNotIs_bb_b, ↓pCut_t_b, ↓pCut_l_b, ↓atI_0_b, ↓atI_1_b, ↓atI_2_b, ↓atI_3_b, ↓lg0_b, ↓lg1_b, ↓lg2_b, ↓lg3_b, ↓isi_bl_int_b, ↓isi_bl_bool_b, ↓isi_bl_tuple_b, ↓isi2_bl_b, ↓isi_int_int_b, ↓isi_int_bool_b, ↓isi_int_tuple_b, ↓isi2_int_b, ↓isi_str_int_b, ↓isi_str_bool_b, ↓isi_str_tuple_b, ↓isi2_str_b, ↓isi_tup_int_b, ↓isi_tup_bool_b, ↓isi_tup_tuple_b, ↓isi2_tup_b, ↓isi_lst_int_b, ↓isi_lst_bool_b, ↓isi_lst_tuple_b, ↓isi2_lst_b, rs_val, outV_rt, outV_nx, backE_n, backE_u, wipeE_n, wipeE_u, froOf_f, froOf_u, seqOf_t, seqOf_l, lstOf_l, intOf_i, blOf_b, tru_n, tru_b, tru_i, tru_t, tru_l, pLen_t, pLen_l, pLen_s, pTuple_t, pTuple_l, pAdd_i, pNeg_i, pLt_i, pGt_i, pGe_i, pMax2_i, pMin2_i, pIs_nn, pIs_in, pIs_tn, pIs_ln, pIs_bn, pIs_bb, pNotIs_nn, pNotIs_in, pNotIs_tn, pNotIs_ln, pNotIs_bn, pNotIs_bb, pCut_t, pCut_l, atI_0, atI_1, atI_2, atI_3, lg0, lg1, lg2, lg3, isi_bl_int, isi_bl_bool, isi_bl_tuple, isi2_bl, isi_int_int, isi_int_bool, isi_int_tuple, isi2_int, isi_str_int, isi_str_bool, isi_str_tuple, isi2_str, isi_tup_int, isi_tup_bool, isi_tup_tuple, isi2_tup, isi_lst_int, isi_lst_bool, isi_lst_tuple, isi2_lst, pIx_t, pIx_l, pAdd_t, pAdd_l, ↓keyOf1_ib, keyOf1_i, ↓T.bind_assoc, bind_ret', bind_bad', bind_exc', bind_draw', lift_some, lift_none', big, below62', below24', below64', below29', mul_ok, div_ok, mod_ok, ↓sRaise_b, ↓sTryB_b, mDrop_b, ↓mArgs_bb, mArgs_b, mIfX_b, mIfS_b, envB_self, tryT_ret, tryT_exc, tryT_draw, List.length_cons, List.length_nil, List.map_cons, List.map_nil, List.append_nil, List.nil_append, List.cons_append, List.replicate_succ, List.replicate_zero, List.isEmpty_nil, List.isEmpty_cons, Option.map_some, Option.map_none, Option.bind_some, Option.bind_none, true_and, and_true, and_self, false_and, and_false, true_or, or_true, false_or, or_false, not_true_eq_false, not_false_eq_true, Bool.not_true, Bool.not_false, Bool.true_and, Bool.and_true, Bool.false_and, Bool.and_false, Bool.true_or, Bool.or_true, Bool.or_false, Bool.false_or, decide_true, decide_false, decide_eq_true_eq, decide_eq_false_iff_not, if_true, if_false, ite_true, ite_false, ↓reduceIte, Int.natCast_nonneg, Nat.reduceLT, Nat.reduceLeDiff, Nat.reduceEqDiff, Nat.reduceSub, Nat.reduceMul, Int.reduceLT, Int.reduceLE, Int.reduceEq, Int.reduceAdd, Int.reduceSub, Int.reduceMul, Int.reduceNeg, Int.reducePow, List.length_map, List.length_range, eq_self, ne_eq, Classical.not_not, Bool.not_eq_true, Bool.not_eq_false, Bool.false_eq_true, reduceCtorEq, Int.toNat_natCast, Nat.add_eq, Nat.reduceAdd, Int.cast_ofNat_Int, Int.reduceToNat, Int.zero_add, Int.add_zero, Nat.zero_add, Nat.add_zero, Nat.sub_zero, Int.sub_zero, Int.natCast_zero, Int.natCast_one, Int.natCast_add, Int.natCast_succ, beq_self_eq_true, Bool.decide_eq_true, Bool.decide_eq_false, ↓vf0, ↓vm0, rf0, rm0, ↓qf0, ↓qm0, ↓zf0, ↓zm0, ↓im0, ss0, ↓imd0, ↓vf1, ↓vm1, rf1, rm1, ↓qf1, ↓qm1, ↓zf1, ↓zm1, ↓im1, ss1, ↓imd1, ↓vf2, ↓vm2, rf2, rm2, ↓qf2, ↓qm2, ↓zf2, ↓zm2, ↓im2, ss2, ↓imd2, ↓vf3, ↓vm3, rf3, rm3, ↓qf3, ↓qm3, ↓zf3, ↓zm3, ↓im3, ss3, ↓imd3, ↓vf4, ↓vm4, rf4, rm4, ↓qf4, ↓qm4, ↓zf4, ↓zm4, ↓im4, ss4, ↓imd4, ↓vf5, ↓vm5, rf5, rm5, ↓qf5, ↓qm5, ↓zf5, ↓zm5, ↓im5, ss5, ↓imd5, ↓vf6, ↓vm6, rf6, rm6, ↓qf6, ↓qm6, ↓zf6, ↓zm6, ↓im6, ss6, ↓imd6, ↓vf7, ↓vm7, rf7, rm7, ↓qf7, ↓qm7, ↓zf7, ↓zm7, ↓im7, ss7, ↓imd7, ↓vf8, ↓vm8, rf8, rm8, ↓qf8, ↓qm8, ↓zf8, ↓zm8, ↓im8, ss8, ↓imd8, ↓vf9, ↓vm9, rf9, rm9, ↓qf9, ↓qm9, ↓zf9, ↓zm9, ↓im9, ss9, ↓imd9, ↓vf10, ↓vm10, rf10, rm10, ↓qf10, ↓qm10, ↓zf10, ↓zm10, ↓im10, ss10, ↓imd10]); (try simp only [T.bind_ret]); exact rfl) ?_); (try (with_reducible refine al_nx ?_)); refine al_retI.mpr ?_
  (simp only [U0f1f2t0_law, U0f1f5t0_law, U0f1f7t0_law, U0f1f7_law, U0f1f6_law, U0f1f5_law, U0f1f4_law, U0f1f3_law, U0f1f2_law, U0f1f1_law, U0f1f0_law, U0f1_law, U0f0_law, U1_law, U0_law, al_seq, nx_nx, lq_nx]; refine al_rd _ (by (simp -dsimp only [↓fBin_b, ↓fUn_b, ↓fBlT_b, ↓fOrT_b, ↓fAnd_b, ↓lCons_b, ↓fTup_b, ↓fSl_b, ↓fCall_b, ↓sSeq_b, ↓sRet_b, ↓sIf_b, ↓sSet_b, ↓iSeq_b, ↓iRange1_b, ↓sFor_b, ↓fNew_b, ↓nLst_b, ↓nLc_b, ↓fC_b, ↓lNil_b, ↓sNil_b, ↓fYes_b, ↓tgName_b, ↓tgNil_b, ↓tgCons_b, ↓tgTup_b, ↓lcRun_b, ↓fPart_n, ↓fPart_s, ↓frz_val, ↓lrs_val, ↓liftS_b, ↓liftN_b, ↓seqOf_t_b, ↓seqOf_l_b, ↓lstOf_l_b, ↓intOf_i_b, ↓blOf_b_b, ↓tru_n_b, ↓tru_b_b, ↓tru_i_b, ↓tru_t_b, ↓tru_l_b, ↓pLen_t_b, ↓pLen_l_b, ↓pLen_s_b, ↓pTuple_t_b, ↓pTuple_l_b, ↓pAdd_i_b, ↓pNeg_i_b, ↓pMax2_i_b, ↓pMin2_i_b, ↓pIs_nn_b, ↓pIs_in_b, ↓pIs_tn_b, ↓pIs_ln_b, ↓pIs_bn_b, ↓pIs_bb_b, ↓pNotIs_nn_b, ↓pNotIs_in_b, ↓pNotIs_tn_b, ↓pNotIs_ln_b, ↓pNotIs_bn_b, ↓pNotIs_bb_b, ↓pCut_t_b, ↓pCut_l_b, ↓atI_0_b, ↓atI_1_b, ↓atI_2_b, ↓atI_3_b, ↓lg0_b, ↓lg1_b, ↓lg2_b, ↓lg3_b, rs_val, outV_rt, outV_nx, backE_n, backE_u, wipeE_n, wipeE_u, froOf_f, froOf_u, seqOf_t, seqOf_l, lstOf_l, intOf_i, blOf_b, tru_n, tru_b, tru_i, tru_t, tru_l, pLen_t, pLen_l, pLen_s, pTuple_t, pTuple_l, pAdd_i, pNeg_i, pMax2_i, pMin2_i, pIs_nn, pIs_in, pIs_tn, pIs_ln, pIs_bn, pIs_bb, pNotIs_nn, pNotIs_in, pNotIs_tn, pNotIs_ln, pNotIs_bn, pNotIs_bb, pCut_t, pCut_l, atI_0, atI_1, atI_2, atI_3, lg0, lg1, lg2, lg3, pIx_t, pIx_l, pAdd_t, pAdd_l, ↓keyOf1_ib, keyOf1_i, ↓T.bind_assoc, bind_ret', bind_bad', bind_exc', bind_draw', lift_some, lift_none', big, below62', below24', below64', below29', mul_ok, div_ok, mod_ok, ↓mArgs_bb, envB_self, tryT_ret, tryT_exc, tryT_draw, List.length_cons, List.length_nil, List.map_cons, List.map_nil, List.append_nil, List.nil_append, List.cons_append, List.replicate_succ, List.replicate_zero, List.isEmpty_nil, List.isEmpty_cons, Option.map_some, Option.map_none, Option.bind_some, Option.bind_none, true_and, and_true, and_self, false_and, and_false, true_or, or_true, false_or, or_false, not_true_eq_false, not_false_eq_true, Bool.not_true, Bool.not_false, Bool.true_and, Bool.and_true, Bool.false_and, Bool.and_false, Bool.true_or, Bool.or_true, Bool.or_false, Bool.false_or, decide_true, decide_false, decide_eq_true_eq, decide_eq_false_iff_not, if_true, if_false, ite_true, ite_false, ↓reduceIte, Int.natCast_nonneg, Nat.reduceLT, Nat.reduceLeDiff, Nat.reduceEqDiff, Nat.reduceSub, Nat.reduceMul, Int.reduceLT, Int.reduceLE, Int.reduceEq, Int.reduceAdd, Int.reduceSub, Int.reduceMul, Int.reduceNeg, Int.reducePow, List.length_map, List.length_range, eq_self, ne_eq, Classical.not_not, Bool.not_eq_true, Bool.not_eq_false, Bool.false_eq_true, reduceCtorEq, Int.toNat_natCast, Nat.add_eq, Nat.reduceAdd, Int.cast_ofNat_Int, Int.reduceToNat, Int.zero_add, Int.add_zero, Nat.zero_add, Nat.add_zero, Nat.sub_zero, Int.sub_zero, Int.natCast_zero, Int.natCast_one, Int.natCast_add, Int.natCast_succ, beq_self_eq_true, Bool.decide_eq_true, Bool.decide_eq_false, ↓vf0, ↓vm0, rf0, rm0, ↓qf0, ↓qm0, ↓zf0, ↓zm0, ↓im0, ss0, ↓vf1, ↓vm1, rf1, rm1, ↓qf1, ↓qm1, ↓zf1, ↓zm1, ↓im1, ss1, ↓vf2, ↓vm2, rf2, rm2, ↓qf2, ↓qm2, ↓zf2, ↓zm2, ↓im2, ss2, ↓vf3, ↓vm3, rf3, rm3, ↓qf3, ↓qm3, ↓zf3, ↓zm3, ↓im3, ss3, ↓vf4, ↓vm4, rf4, rm4, ↓qf4, ↓qm4, ↓zf4, ↓zm4, ↓im4, ss4, ↓vf5, ↓vm5, rf5, rm5, ↓qf5, ↓qm5, ↓zf5, ↓zm5, ↓im5, ss5, ↓vf6, ↓vm6, rf6, rm6, ↓qf6, ↓qm6, ↓zf6, ↓zm6, ↓im6, ss6, ↓vf7, ↓vm7, rf7, rm7, ↓qf7, ↓qm7, ↓zf7, ↓zm7, ↓im7, ss7, ↓vf8, ↓vm8, rf8, rm8, ↓qf8, ↓qm8, ↓zf8, ↓zm8, ↓im8, ss8, ↓vf9, ↓vm9, rf9, rm9, ↓qf9, ↓qm9, ↓zf9, ↓zm9, ↓im9, ss9, ↓vf10, ↓vm10, rf10, rm10, ↓qf10, ↓qm10, ↓zf10, ↓zm10, ↓im10, ss10, S0f1f2t0_law, S0f1f5t0_law, S0f1f7t0_law, S0f1f0_law, S0f1f1_law, S0f1f2_law, S0f1f3_law, S0f1f4_law, S0f1f5_law, S0f1f6_law, S0f1f7_law, S0f0_law, S0f1_law, S0_law, S1_law, U0f1f2t0_law, U0f1f5t0_law, U0f1f7t0_law, U0f1f7_law, U0f1f6_law, U0f1f5_law, U0f1f4_law, U0f1f3_law, U0f1f2_law, U0f1f1_law, U0f1f0_law, U0f1_law, U0f0_law, U1_law, U0_law]); (try simp only [T.bind_ret]); exact rfl) ?_); (try (with_reducible refine al_nx ?_))
  refine al_by (law_rota_all 6 5 (by decide) (by decide) (by decide) (by decide)) fun t ht => ?_
  obtain ⟨n, rows, rfl, ok, n6, r5⟩ := ht
  (try refine al_rd _ (by (simp -dsimp only [↓fBin_b, ↓fUn_b, ↓fTru_b, ↓fBlT_b, ↓fNotT_b, ↓fOrT_b, ↓fAnd_b, ↓fNot_b, ↓fIf_b, ↓lCons_b, ↓fTup_b, ↓fSl_b, ↓fCall_b, ↓sSeq_b, ↓sExpr_b, ↓sRet_b, ↓sIf_b, ↓sSet_b, ↓sAsg_b, ↓iSeq_b, ↓iRange1_b, ↓sFor_b, ↓fNew_b, ↓nLst_b, ↓nList_b, ↓fAppend_b, ↓fPopAt_b, ↓nLc_b, ↓nListRange_b, ↓sPar_b, ↓sParE_b, ↓sParN_b, ↓sFldSet_b, ↓fC_b, ↓lNil_b, ↓sNil_b, ↓fYes_b, ↓tgName_b, ↓tgNil_b, ↓tgCons_b, ↓tgTup_b, ↓lcRun_b, ↓fPart_n, ↓fPart_s, ↓frz_val, ↓lrs_val, ↓liftS_b, ↓liftN_b, ↓seqOf_t_b, ↓seqOf_l_b, ↓lstOf_l_b, ↓intOf_i_b, ↓blOf_b_b, ↓tru_n_b, ↓tru_b_b, ↓tru_i_b, ↓tru_t_b, ↓tru_l_b, ↓pLen_t_b, ↓pLen_l_b, ↓pLen_s_b, ↓pTuple_t_b, ↓pTuple_l_b, ↓pAdd_i_b, ↓pNeg_i_b, ↓pLt_i_b, ↓pGt_i_b, ↓pGe_i_b, ↓pMax2_i_b, ↓pMin2_i_b, ↓pIs_nn_b, ↓pIs_in_b, ↓pIs_tn_b, ↓pIs_ln_b, ↓pIs_bn_b, ↓pIs_bb_b, ↓pNotIs_nn_b, ↓pNotIs_in_b, ↓pNotIs_tn_b, ↓pNotIs_ln_b, ↓pNotIs_bn_b, ↓pNotIs_bb_b, ↓pCut_t_b, ↓pCut_l_b, ↓atI_0_b, ↓atI_1_b, ↓atI_2_b, ↓atI_3_b, ↓lg0_b, ↓lg1_b, ↓lg2_b, ↓lg3_b, ↓isi_bl_int_b, ↓isi_bl_bool_b, ↓isi_bl_tuple_b, ↓isi2_bl_b, ↓isi_int_int_b, ↓isi_int_bool_b, ↓isi_int_tuple_b, ↓isi2_int_b, ↓isi_str_int_b, ↓isi_str_bool_b, ↓isi_str_tuple_b, ↓isi2_str_b, ↓isi_tup_int_b, ↓isi_tup_bool_b, ↓isi_tup_tuple_b, ↓isi2_tup_b, ↓isi_lst_int_b, ↓isi_lst_bool_b, ↓isi_lst_tuple_b, ↓isi2_lst_b, rs_val, outV_rt, outV_nx, backE_n, backE_u, wipeE_n, wipeE_u, froOf_f, froOf_u, seqOf_t, seqOf_l, lstOf_l, intOf_i, blOf_b, tru_n, tru_b, tru_i, tru_t, tru_l, pLen_t, pLen_l, pLen_s, pTuple_t, pTuple_l, pAdd_i, pNeg_i, pLt_i, pGt_i, pGe_i, pMax2_i, pMin2_i, pIs_nn, pIs_in, pIs_tn, pIs_ln, pIs_bn, pIs_bb, pNotIs_nn, pNotIs_in, pNotIs_tn, pNotIs_ln, pNotIs_bn, pNotIs_bb, pCut_t, pCut_l, atI_0, atI_1, atI_2, atI_3, lg0, lg1, lg2, lg3, isi_bl_int, isi_bl_bool, isi_bl_tuple, isi2_bl, isi_int_int, isi_int_bool, isi_int_tuple, isi2_int, isi_str_int, isi_str_bool, isi_str_tuple, isi2_str, isi_tup_int, isi_tup_bool, isi_tup_tuple, isi2_tup, isi_lst_int, isi_lst_bool, isi_lst_tuple, isi2_lst, pIx_t, pIx_l, pAdd_t, pAdd_l, ↓keyOf1_ib, keyOf1_i, ↓T.bind_assoc, bind_ret', bind_bad', bind_exc', bind_draw', lift_some, lift_none', big, below62', below24', below64', below29', mul_ok, div_ok, mod_ok, ↓sRaise_b, ↓sTryB_b, mDrop_b, ↓mArgs_bb, mArgs_b, mIfX_b, mIfS_b, envB_self, tryT_ret, tryT_exc, tryT_draw, List.length_cons, List.length_nil, List.map_cons, List.map_nil, List.append_nil, List.nil_append, List.cons_append, List.replicate_succ, List.replicate_zero, List.isEmpty_nil, List.isEmpty_cons, Option.map_some, Option.map_none, Option.bind_some, Option.bind_none, true_and, and_true, and_self, false_and, and_false, true_or, or_true, false_or, or_false, not_true_eq_false, not_false_eq_true, Bool.not_true, Bool.not_false, Bool.true_and, Bool.and_true, Bool.false_and, Bool.and_false, Bool.true_or, Bool.or_true, Bool.or_false, Bool.false_or, decide_true, decide_false, decide_eq_true_eq, decide_eq_false_iff_not, if_true, if_false, ite_true, ite_false, ↓reduceIte, Int.natCast_nonneg, Nat.reduceLT, Nat.reduceLeDiff, Nat.reduceEqDiff, Nat.reduceSub, Nat.reduceMul, Int.reduceLT, Int.reduceLE, Int.reduceEq, Int.reduceAdd, Int.reduceSub, Int.reduceMul, Int.reduceNeg, Int.reducePow, List.length_map, List.length_range, eq_self, ne_eq, Classical.not_not, Bool.not_eq_true, Bool.not_eq_false, Bool.false_eq_true, reduceCtorEq, Int.toNat_natCast, Nat.add_eq, Nat.reduceAdd, Int.cast_ofNat_Int, Int.reduceToNat, Int.zero_add, Int.add_zero, Nat.zero_add, Nat.add_zero, Nat.sub_zero, Int.sub_zero, Int.natCast_zero, Int.natCast_one, Int.natCast_add, Int.natCast_succ, beq_self_eq_true, Bool.decide_eq_true, Bool.decide_eq_false, ↓vf0, ↓vm0, rf0, rm0, ↓qf0, ↓qm0, ↓zf0, ↓zm0, ↓im0, ss0, ↓imd0, ↓vf1, ↓vm1, rf1, rm1, ↓qf1, ↓qm1, ↓zf1, ↓zm1, ↓im1, ss1, ↓imd1, ↓vf2, ↓vm2, rf2, rm2, ↓qf2, ↓qm2, ↓zf2, ↓zm2, ↓im2, ss2, ↓imd2, ↓vf3, ↓vm3, rf3, rm3, ↓qf3, ↓qm3, ↓zf3, ↓zm3, ↓im3, ss3, ↓imd3, ↓vf4, ↓vm4, rf4, rm4, ↓qf4, ↓qm4, ↓zf4, ↓zm4, ↓im4, ss4, ↓imd4, ↓vf5, ↓vm5, rf5, rm5, ↓qf5, ↓qm5, ↓zf5, ↓zm5, ↓im5, ss5, ↓imd5, ↓vf6, ↓vm6, rf6, rm6, ↓qf6, ↓qm6, ↓zf6, ↓zm6, ↓im6, ss6, ↓imd6, ↓vf7, ↓vm7, rf7, rm7, ↓qf7, ↓qm7, ↓zf7, ↓zm7, ↓im7, ss7, ↓imd7, ↓vf8, ↓vm8, rf8, rm8, ↓qf8, ↓qm8, ↓zf8, ↓zm8, ↓im8, ss8, ↓imd8, ↓vf9, ↓vm9, rf9, rm9, ↓qf9, ↓qm9, ↓zf9, ↓zm9, ↓im9, ss9, ↓imd9, ↓vf10, ↓vm10, rf10, rm10, ↓qf10, ↓qm10, ↓zf10, ↓zm10, ↓im10, ss10, ↓imd10]); (try simp only [T.bind_ret]); exact rfl) ?_); (try (with_reducible refine al_nx ?_))
  have wn : f_is_whole [.int n, .int 1] = .ret (.bl true) := by rw [is_whole_i, decide_eq_true (by have := ok.n0; omega)]
  have c : C0_law [.fro (.scr ns), s1, .fro .box, .fro (.int (i : Int)), .fro (.tup [.int n, .lst (rows.map rawV)]), s5, s6, s7, s8, .un, .un] = .ret (rows.map rawV, [.fro (.scr ns), s1, .fro .box, .fro (.int (i : Int)), .fro (.tup [.int n, .lst (rows.map rawV)]), s5, s6, s7, s8, .un, .un]) := by
    refine nLc_M (l := rows) rawV rawV (by refine t_eq ?_; simp -dsimp only [↓fBin_b, ↓fUn_b, ↓fBlT_b, ↓fOrT_b, ↓fAnd_b, ↓lCons_b, ↓fTup_b, ↓fSl_b, ↓fCall_b, ↓sSeq_b, ↓sRet_b, ↓sIf_b, ↓sSet_b, ↓iSeq_b, ↓iRange1_b, ↓sFor_b, ↓fNew_b, ↓nLst_b, ↓nLc_b, ↓fC_b, ↓lNil_b, ↓sNil_b, ↓fYes_b, ↓tgName_b, ↓tgNil_b, ↓tgCons_b, ↓tgTup_b, ↓lcRun_b, ↓fPart_n, ↓fPart_s, ↓frz_val, ↓lrs_val, ↓liftS_b, ↓liftN_b, ↓seqOf_t_b, ↓seqOf_l_b, ↓lstOf_l_b, ↓intOf_i_b, ↓blOf_b_b, ↓tru_n_b, ↓tru_b_b, ↓tru_i_b, ↓tru_t_b, ↓tru_l_b, ↓pLen_t_b, ↓pLen_l_b, ↓pLen_s_b, ↓pTuple_t_b, ↓pTuple_l_b, ↓pAdd_i_b, ↓pNeg_i_b, ↓pMax2_i_b, ↓pMin2_i_b, ↓pIs_nn_b, ↓pIs_in_b, ↓pIs_tn_b, ↓pIs_ln_b, ↓pIs_bn_b, ↓pIs_bb_b, ↓pNotIs_nn_b, ↓pNotIs_in_b, ↓pNotIs_tn_b, ↓pNotIs_ln_b, ↓pNotIs_bn_b, ↓pNotIs_bb_b, ↓pCut_t_b, ↓pCut_l_b, ↓atI_0_b, ↓atI_1_b, ↓atI_2_b, ↓atI_3_b, ↓lg0_b, ↓lg1_b, ↓lg2_b, ↓lg3_b, rs_val, outV_rt, outV_nx, backE_n, backE_u, wipeE_n, wipeE_u, froOf_f, froOf_u, seqOf_t, seqOf_l, lstOf_l, intOf_i, blOf_b, tru_n, tru_b, tru_i, tru_t, tru_l, pLen_t, pLen_l, pLen_s, pTuple_t, pTuple_l, pAdd_i, pNeg_i, pMax2_i, pMin2_i, pIs_nn, pIs_in, pIs_tn, pIs_ln, pIs_bn, pIs_bb, pNotIs_nn, pNotIs_in, pNotIs_tn, pNotIs_ln, pNotIs_bn, pNotIs_bb, pCut_t, pCut_l, atI_0, atI_1, atI_2, atI_3, lg0, lg1, lg2, lg3, pIx_t, pIx_l, pAdd_t, pAdd_l, ↓keyOf1_ib, keyOf1_i, ↓T.bind_assoc, bind_ret', bind_bad', bind_exc', bind_draw', lift_some, lift_none', big, below62', below24', below64', below29', mul_ok, div_ok, mod_ok, ↓mArgs_bb, envB_self, tryT_ret, tryT_exc, tryT_draw, List.length_cons, List.length_nil, List.map_cons, List.map_nil, List.append_nil, List.nil_append, List.cons_append, List.replicate_succ, List.replicate_zero, List.isEmpty_nil, List.isEmpty_cons, Option.map_some, Option.map_none, Option.bind_some, Option.bind_none, true_and, and_true, and_self, false_and, and_false, true_or, or_true, false_or, or_false, not_true_eq_false, not_false_eq_true, Bool.not_true, Bool.not_false, Bool.true_and, Bool.and_true, Bool.false_and, Bool.and_false, Bool.true_or, Bool.or_true, Bool.or_false, Bool.false_or, decide_true, decide_false, decide_eq_true_eq, decide_eq_false_iff_not, if_true, if_false, ite_true, ite_false, ↓reduceIte, Int.natCast_nonneg, Nat.reduceLT, Nat.reduceLeDiff, Nat.reduceEqDiff, Nat.reduceSub, Nat.reduceMul, Int.reduceLT, Int.reduceLE, Int.reduceEq, Int.reduceAdd, Int.reduceSub, Int.reduceMul, Int.reduceNeg, Int.reducePow, List.length_map, List.length_range, eq_self, ne_eq, Classical.not_not, Bool.not_eq_true, Bool.not_eq_false, Bool.false_eq_true, reduceCtorEq, Int.toNat_natCast, Nat.add_eq, Nat.reduceAdd, Int.cast_ofNat_Int, Int.reduceToNat, Int.zero_add, Int.add_zero, Nat.zero_add, Nat.add_zero, Nat.sub_zero, Int.sub_zero, Int.natCast_zero, Int.natCast_one, Int.natCast_add, Int.natCast_succ, beq_self_eq_true, Bool.decide_eq_true, Bool.decide_eq_false, ↓vf0, ↓vm0, rf0, rm0, ↓qf0, ↓qm0, ↓zf0, ↓zm0, ↓im0, ss0, ↓vf1, ↓vm1, rf1, rm1, ↓qf1, ↓qm1, ↓zf1, ↓zm1, ↓im1, ss1, ↓vf2, ↓vm2, rf2, rm2, ↓qf2, ↓qm2, ↓zf2, ↓zm2, ↓im2, ss2, ↓vf3, ↓vm3, rf3, rm3, ↓qf3, ↓qm3, ↓zf3, ↓zm3, ↓im3, ss3, ↓vf4, ↓vm4, rf4, rm4, ↓qf4, ↓qm4, ↓zf4, ↓zm4, ↓im4, ss4, ↓vf5, ↓vm5, rf5, rm5, ↓qf5, ↓qm5, ↓zf5, ↓zm5, ↓im5, ss5, ↓vf6, ↓vm6, rf6, rm6, ↓qf6, ↓qm6, ↓zf6, ↓zm6, ↓im6, ss6, ↓vf7, ↓vm7, rf7, rm7, ↓qf7, ↓qm7, ↓zf7, ↓zm7, ↓im7, ss7, ↓vf8, ↓vm8, rf8, rm8, ↓qf8, ↓qm8, ↓zf8, ↓zm8, ↓im8, ss8, ↓vf9, ↓vm9, rf9, rm9, ↓qf9, ↓qm9, ↓zf9, ↓zm9, ↓im9, ss9, ↓vf10, ↓vm10, rf10, rm10, ↓qf10, ↓qm10, ↓zf10, ↓zm10, ↓im10, ss10]; (try simp only [T.bind_ret])) (Nat.lt_of_le_of_lt ok.r1 (by decide)) rfl fun b hb => ⟨[.fro (.scr ns), s1, .fro .box, .fro (.int (i : Int)), .fro (.tup [.int n, .lst (rows.map rawV)]), s5, s6, s7, s8, .fro (.lst (il b.1)), .fro (.lst (nl b.2))], ?_, rfl⟩
    refine t_eq ?_; simp -dsimp only [↓fBin_b, ↓fUn_b, ↓fBlT_b, ↓fOrT_b, ↓fAnd_b, ↓lCons_b, ↓fTup_b, ↓fSl_b, ↓fCall_b, ↓sSeq_b, ↓sRet_b, ↓sIf_b, ↓sSet_b, ↓iSeq_b, ↓iRange1_b, ↓sFor_b, ↓fNew_b, ↓nLst_b, ↓nLc_b, ↓fC_b, ↓lNil_b, ↓sNil_b, ↓fYes_b, ↓tgName_b, ↓tgNil_b, ↓tgCons_b, ↓tgTup_b, ↓lcRun_b, ↓fPart_n, ↓fPart_s, ↓frz_val, ↓lrs_val, ↓liftS_b, ↓liftN_b, ↓seqOf_t_b, ↓seqOf_l_b, ↓lstOf_l_b, ↓intOf_i_b, ↓blOf_b_b, ↓tru_n_b, ↓tru_b_b, ↓tru_i_b, ↓tru_t_b, ↓tru_l_b, ↓pLen_t_b, ↓pLen_l_b, ↓pLen_s_b, ↓pTuple_t_b, ↓pTuple_l_b, ↓pAdd_i_b, ↓pNeg_i_b, ↓pMax2_i_b, ↓pMin2_i_b, ↓pIs_nn_b, ↓pIs_in_b, ↓pIs_tn_b, ↓pIs_ln_b, ↓pIs_bn_b, ↓pIs_bb_b, ↓pNotIs_nn_b, ↓pNotIs_in_b, ↓pNotIs_tn_b, ↓pNotIs_ln_b, ↓pNotIs_bn_b, ↓pNotIs_bb_b, ↓pCut_t_b, ↓pCut_l_b, ↓atI_0_b, ↓atI_1_b, ↓atI_2_b, ↓atI_3_b, ↓lg0_b, ↓lg1_b, ↓lg2_b, ↓lg3_b, rs_val, outV_rt, outV_nx, backE_n, backE_u, wipeE_n, wipeE_u, froOf_f, froOf_u, seqOf_t, seqOf_l, lstOf_l, intOf_i, blOf_b, tru_n, tru_b, tru_i, tru_t, tru_l, pLen_t, pLen_l, pLen_s, pTuple_t, pTuple_l, pAdd_i, pNeg_i, pMax2_i, pMin2_i, pIs_nn, pIs_in, pIs_tn, pIs_ln, pIs_bn, pIs_bb, pNotIs_nn, pNotIs_in, pNotIs_tn, pNotIs_ln, pNotIs_bn, pNotIs_bb, pCut_t, pCut_l, atI_0, atI_1, atI_2, atI_3, lg0, lg1, lg2, lg3, pIx_t, pIx_l, pAdd_t, pAdd_l, ↓keyOf1_ib, keyOf1_i, ↓T.bind_assoc, bind_ret', bind_bad', bind_exc', bind_draw', lift_some, lift_none', big, below62', below24', below64', below29', mul_ok, div_ok, mod_ok, ↓mArgs_bb, envB_self, tryT_ret, tryT_exc, tryT_draw, List.length_cons, List.length_nil, List.map_cons, List.map_nil, List.append_nil, List.nil_append, List.cons_append, List.replicate_succ, List.replicate_zero, List.isEmpty_nil, List.isEmpty_cons, Option.map_some, Option.map_none, Option.bind_some, Option.bind_none, true_and, and_true, and_self, false_and, and_false, true_or, or_true, false_or, or_false, not_true_eq_false, not_false_eq_true, Bool.not_true, Bool.not_false, Bool.true_and, Bool.and_true, Bool.false_and, Bool.and_false, Bool.true_or, Bool.or_true, Bool.or_false, Bool.false_or, decide_true, decide_false, decide_eq_true_eq, decide_eq_false_iff_not, if_true, if_false, ite_true, ite_false, ↓reduceIte, Int.natCast_nonneg, Nat.reduceLT, Nat.reduceLeDiff, Nat.reduceEqDiff, Nat.reduceSub, Nat.reduceMul, Int.reduceLT, Int.reduceLE, Int.reduceEq, Int.reduceAdd, Int.reduceSub, Int.reduceMul, Int.reduceNeg, Int.reducePow, List.length_map, List.length_range, eq_self, ne_eq, Classical.not_not, Bool.not_eq_true, Bool.not_eq_false, Bool.false_eq_true, reduceCtorEq, Int.toNat_natCast, Nat.add_eq, Nat.reduceAdd, Int.cast_ofNat_Int, Int.reduceToNat, Int.zero_add, Int.add_zero, Nat.zero_add, Nat.add_zero, Nat.sub_zero, Int.sub_zero, Int.natCast_zero, Int.natCast_one, Int.natCast_add, Int.natCast_succ, beq_self_eq_true, Bool.decide_eq_true, Bool.decide_eq_false, ↓vf0, ↓vm0, rf0, rm0, ↓qf0, ↓qm0, ↓zf0, ↓zm0, ↓im0, ss0, ↓vf1, ↓vm1, rf1, rm1, ↓qf1, ↓qm1, ↓zf1, ↓zm1, ↓im1, ss1, ↓vf2, ↓vm2, rf2, rm2, ↓qf2, ↓qm2, ↓zf2, ↓zm2, ↓im2, ss2, ↓vf3, ↓vm3, rf3, rm3, ↓qf3, ↓qm3, ↓zf3, ↓zm3, ↓im3, ss3, ↓vf4, ↓vm4, rf4, rm4, ↓qf4, ↓qm4, ↓zf4, ↓zm4, ↓im4, ss4, ↓vf5, ↓vm5, rf5, rm5, ↓qf5, ↓qm5, ↓zf5, ↓zm5, ↓im5, ss5, ↓vf6, ↓vm6, rf6, rm6, ↓qf6, ↓qm6, ↓zf6, ↓zm6, ↓im6, ss6, ↓vf7, ↓vm7, rf7, rm7, ↓qf7, ↓qm7, ↓zf7, ↓zm7, ↓im7, ss7, ↓vf8, ↓vm8, rf8, rm8, ↓qf8, ↓qm8, ↓zf8, ↓zm8, ↓im8, ss8, ↓vf9, ↓vm9, rf9, rm9, ↓qf9, ↓qm9, ↓zf9, ↓zm9, ↓im9, ss9, ↓vf10, ↓vm10, rf10, rm10, ↓qf10, ↓qm10, ↓zf10, ↓zm10, ↓im10, ss10, rawV]; (try simp only [T.bind_ret])
  (simp only [U0f1f2t0_law, U0f1f5t0_law, U0f1f7t0_law, U0f1f7_law, U0f1f6_law, U0f1f5_law, U0f1f4_law, U0f1f3_law, U0f1f2_law, U0f1f1_law, U0f1f0_law, U0f1_law, U0f0_law, U1_law, U0_law, al_seq, nx_nx, lq_nx]; refine al_rd _ (by (simp -dsimp only [↓fBin_b, ↓fUn_b, ↓fBlT_b, ↓fOrT_b, ↓fAnd_b, ↓lCons_b, ↓fTup_b, ↓fSl_b, ↓fCall_b, ↓sSeq_b, ↓sRet_b, ↓sIf_b, ↓sSet_b, ↓iSeq_b, ↓iRange1_b, ↓sFor_b, ↓fNew_b, ↓nLst_b, ↓nLc_b, ↓fC_b, ↓lNil_b, ↓sNil_b, ↓fYes_b, ↓tgName_b, ↓tgNil_b, ↓tgCons_b, ↓tgTup_b, ↓lcRun_b, ↓fPart_n, ↓fPart_s, ↓frz_val, ↓lrs_val, ↓liftS_b, ↓liftN_b, ↓seqOf_t_b, ↓seqOf_l_b, ↓lstOf_l_b, ↓intOf_i_b, ↓blOf_b_b, ↓tru_n_b, ↓tru_b_b, ↓tru_i_b, ↓tru_t_b, ↓tru_l_b, ↓pLen_t_b, ↓pLen_l_b, ↓pLen_s_b, ↓pTuple_t_b, ↓pTuple_l_b, ↓pAdd_i_b, ↓pNeg_i_b, ↓pMax2_i_b, ↓pMin2_i_b, ↓pIs_nn_b, ↓pIs_in_b, ↓pIs_tn_b, ↓pIs_ln_b, ↓pIs_bn_b, ↓pIs_bb_b, ↓pNotIs_nn_b, ↓pNotIs_in_b, ↓pNotIs_tn_b, ↓pNotIs_ln_b, ↓pNotIs_bn_b, ↓pNotIs_bb_b, ↓pCut_t_b, ↓pCut_l_b, ↓atI_0_b, ↓atI_1_b, ↓atI_2_b, ↓atI_3_b, ↓lg0_b, ↓lg1_b, ↓lg2_b, ↓lg3_b, rs_val, outV_rt, outV_nx, backE_n, backE_u, wipeE_n, wipeE_u, froOf_f, froOf_u, seqOf_t, seqOf_l, lstOf_l, intOf_i, blOf_b, tru_n, tru_b, tru_i, tru_t, tru_l, pLen_t, pLen_l, pLen_s, pTuple_t, pTuple_l, pAdd_i, pNeg_i, pMax2_i, pMin2_i, pIs_nn, pIs_in, pIs_tn, pIs_ln, pIs_bn, pIs_bb, pNotIs_nn, pNotIs_in, pNotIs_tn, pNotIs_ln, pNotIs_bn, pNotIs_bb, pCut_t, pCut_l, atI_0, atI_1, atI_2, atI_3, lg0, lg1, lg2, lg3, pIx_t, pIx_l, pAdd_t, pAdd_l, ↓keyOf1_ib, keyOf1_i, ↓T.bind_assoc, bind_ret', bind_bad', bind_exc', bind_draw', lift_some, lift_none', big, below62', below24', below64', below29', mul_ok, div_ok, mod_ok, ↓mArgs_bb, envB_self, tryT_ret, tryT_exc, tryT_draw, List.length_cons, List.length_nil, List.map_cons, List.map_nil, List.append_nil, List.nil_append, List.cons_append, List.replicate_succ, List.replicate_zero, List.isEmpty_nil, List.isEmpty_cons, Option.map_some, Option.map_none, Option.bind_some, Option.bind_none, true_and, and_true, and_self, false_and, and_false, true_or, or_true, false_or, or_false, not_true_eq_false, not_false_eq_true, Bool.not_true, Bool.not_false, Bool.true_and, Bool.and_true, Bool.false_and, Bool.and_false, Bool.true_or, Bool.or_true, Bool.or_false, Bool.false_or, decide_true, decide_false, decide_eq_true_eq, decide_eq_false_iff_not, if_true, if_false, ite_true, ite_false, ↓reduceIte, Int.natCast_nonneg, Nat.reduceLT, Nat.reduceLeDiff, Nat.reduceEqDiff, Nat.reduceSub, Nat.reduceMul, Int.reduceLT, Int.reduceLE, Int.reduceEq, Int.reduceAdd, Int.reduceSub, Int.reduceMul, Int.reduceNeg, Int.reducePow, List.length_map, List.length_range, eq_self, ne_eq, Classical.not_not, Bool.not_eq_true, Bool.not_eq_false, Bool.false_eq_true, reduceCtorEq, Int.toNat_natCast, Nat.add_eq, Nat.reduceAdd, Int.cast_ofNat_Int, Int.reduceToNat, Int.zero_add, Int.add_zero, Nat.zero_add, Nat.add_zero, Nat.sub_zero, Int.sub_zero, Int.natCast_zero, Int.natCast_one, Int.natCast_add, Int.natCast_succ, beq_self_eq_true, Bool.decide_eq_true, Bool.decide_eq_false, ↓vf0, ↓vm0, rf0, rm0, ↓qf0, ↓qm0, ↓zf0, ↓zm0, ↓im0, ss0, ↓vf1, ↓vm1, rf1, rm1, ↓qf1, ↓qm1, ↓zf1, ↓zm1, ↓im1, ss1, ↓vf2, ↓vm2, rf2, rm2, ↓qf2, ↓qm2, ↓zf2, ↓zm2, ↓im2, ss2, ↓vf3, ↓vm3, rf3, rm3, ↓qf3, ↓qm3, ↓zf3, ↓zm3, ↓im3, ss3, ↓vf4, ↓vm4, rf4, rm4, ↓qf4, ↓qm4, ↓zf4, ↓zm4, ↓im4, ss4, ↓vf5, ↓vm5, rf5, rm5, ↓qf5, ↓qm5, ↓zf5, ↓zm5, ↓im5, ss5, ↓vf6, ↓vm6, rf6, rm6, ↓qf6, ↓qm6, ↓zf6, ↓zm6, ↓im6, ss6, ↓vf7, ↓vm7, rf7, rm7, ↓qf7, ↓qm7, ↓zf7, ↓zm7, ↓im7, ss7, ↓vf8, ↓vm8, rf8, rm8, ↓qf8, ↓qm8, ↓zf8, ↓zm8, ↓im8, ss8, ↓vf9, ↓vm9, rf9, rm9, ↓qf9, ↓qm9, ↓zf9, ↓zm9, ↓im9, ss9, ↓vf10, ↓vm10, rf10, rm10, ↓qf10, ↓qm10, ↓zf10, ↓zm10, ↓im10, ss10, S0f1f2t0_law, S0f1f5t0_law, S0f1f7t0_law, S0f1f0_law, S0f1f1_law, S0f1f2_law, S0f1f3_law, S0f1f4_law, S0f1f5_law, S0f1f6_law, S0f1f7_law, S0f0_law, S0f1_law, S0_law, S1_law, U0f1f2t0_law, U0f1f5t0_law, U0f1f7t0_law, U0f1f7_law, U0f1f6_law, U0f1f5_law, U0f1f4_law, U0f1f3_law, U0f1f2_law, U0f1f1_law, U0f1f0_law, U0f1_law, U0f0_law, U1_law, U0_law, c]); (try simp only [T.bind_ret]); exact rfl) ?_); (try (with_reducible refine al_nx ?_))
  have okn : f_law_heard [.int n, .lst (rows.map rawV)] = .ret .non := heard_ok (rota_ok (.inl rfl) ok)
  have okt : f_law_heard [.int n, .tup (rows.map rawV)] = .ret .non := heard_ok (rota_ok (.inr rfl) ok)
  (simp only [U0f1f2t0_law, U0f1f5t0_law, U0f1f7t0_law, U0f1f7_law, U0f1f6_law, U0f1f5_law, U0f1f4_law, U0f1f3_law, U0f1f2_law, U0f1f1_law, U0f1f0_law, U0f1_law, U0f0_law, U1_law, U0_law, al_seq, nx_nx, lq_nx]; refine al_rd _ (by (simp -dsimp only [↓fBin_b, ↓fUn_b, ↓fBlT_b, ↓fOrT_b, ↓fAnd_b, ↓lCons_b, ↓fTup_b, ↓fSl_b, ↓fCall_b, ↓sSeq_b, ↓sRet_b, ↓sIf_b, ↓sSet_b, ↓iSeq_b, ↓iRange1_b, ↓sFor_b, ↓fNew_b, ↓nLst_b, ↓nLc_b, ↓fC_b, ↓lNil_b, ↓sNil_b, ↓fYes_b, ↓tgName_b, ↓tgNil_b, ↓tgCons_b, ↓tgTup_b, ↓lcRun_b, ↓fPart_n, ↓fPart_s, ↓frz_val, ↓lrs_val, ↓liftS_b, ↓liftN_b, ↓seqOf_t_b, ↓seqOf_l_b, ↓lstOf_l_b, ↓intOf_i_b, ↓blOf_b_b, ↓tru_n_b, ↓tru_b_b, ↓tru_i_b, ↓tru_t_b, ↓tru_l_b, ↓pLen_t_b, ↓pLen_l_b, ↓pLen_s_b, ↓pTuple_t_b, ↓pTuple_l_b, ↓pAdd_i_b, ↓pNeg_i_b, ↓pMax2_i_b, ↓pMin2_i_b, ↓pIs_nn_b, ↓pIs_in_b, ↓pIs_tn_b, ↓pIs_ln_b, ↓pIs_bn_b, ↓pIs_bb_b, ↓pNotIs_nn_b, ↓pNotIs_in_b, ↓pNotIs_tn_b, ↓pNotIs_ln_b, ↓pNotIs_bn_b, ↓pNotIs_bb_b, ↓pCut_t_b, ↓pCut_l_b, ↓atI_0_b, ↓atI_1_b, ↓atI_2_b, ↓atI_3_b, ↓lg0_b, ↓lg1_b, ↓lg2_b, ↓lg3_b, rs_val, outV_rt, outV_nx, backE_n, backE_u, wipeE_n, wipeE_u, froOf_f, froOf_u, seqOf_t, seqOf_l, lstOf_l, intOf_i, blOf_b, tru_n, tru_b, tru_i, tru_t, tru_l, pLen_t, pLen_l, pLen_s, pTuple_t, pTuple_l, pAdd_i, pNeg_i, pMax2_i, pMin2_i, pIs_nn, pIs_in, pIs_tn, pIs_ln, pIs_bn, pIs_bb, pNotIs_nn, pNotIs_in, pNotIs_tn, pNotIs_ln, pNotIs_bn, pNotIs_bb, pCut_t, pCut_l, atI_0, atI_1, atI_2, atI_3, lg0, lg1, lg2, lg3, pIx_t, pIx_l, pAdd_t, pAdd_l, ↓keyOf1_ib, keyOf1_i, ↓T.bind_assoc, bind_ret', bind_bad', bind_exc', bind_draw', lift_some, lift_none', big, below62', below24', below64', below29', mul_ok, div_ok, mod_ok, ↓mArgs_bb, envB_self, tryT_ret, tryT_exc, tryT_draw, List.length_cons, List.length_nil, List.map_cons, List.map_nil, List.append_nil, List.nil_append, List.cons_append, List.replicate_succ, List.replicate_zero, List.isEmpty_nil, List.isEmpty_cons, Option.map_some, Option.map_none, Option.bind_some, Option.bind_none, true_and, and_true, and_self, false_and, and_false, true_or, or_true, false_or, or_false, not_true_eq_false, not_false_eq_true, Bool.not_true, Bool.not_false, Bool.true_and, Bool.and_true, Bool.false_and, Bool.and_false, Bool.true_or, Bool.or_true, Bool.or_false, Bool.false_or, decide_true, decide_false, decide_eq_true_eq, decide_eq_false_iff_not, if_true, if_false, ite_true, ite_false, ↓reduceIte, Int.natCast_nonneg, Nat.reduceLT, Nat.reduceLeDiff, Nat.reduceEqDiff, Nat.reduceSub, Nat.reduceMul, Int.reduceLT, Int.reduceLE, Int.reduceEq, Int.reduceAdd, Int.reduceSub, Int.reduceMul, Int.reduceNeg, Int.reducePow, List.length_map, List.length_range, eq_self, ne_eq, Classical.not_not, Bool.not_eq_true, Bool.not_eq_false, Bool.false_eq_true, reduceCtorEq, Int.toNat_natCast, Nat.add_eq, Nat.reduceAdd, Int.cast_ofNat_Int, Int.reduceToNat, Int.zero_add, Int.add_zero, Nat.zero_add, Nat.add_zero, Nat.sub_zero, Int.sub_zero, Int.natCast_zero, Int.natCast_one, Int.natCast_add, Int.natCast_succ, beq_self_eq_true, Bool.decide_eq_true, Bool.decide_eq_false, ↓vf0, ↓vm0, rf0, rm0, ↓qf0, ↓qm0, ↓zf0, ↓zm0, ↓im0, ss0, ↓vf1, ↓vm1, rf1, rm1, ↓qf1, ↓qm1, ↓zf1, ↓zm1, ↓im1, ss1, ↓vf2, ↓vm2, rf2, rm2, ↓qf2, ↓qm2, ↓zf2, ↓zm2, ↓im2, ss2, ↓vf3, ↓vm3, rf3, rm3, ↓qf3, ↓qm3, ↓zf3, ↓zm3, ↓im3, ss3, ↓vf4, ↓vm4, rf4, rm4, ↓qf4, ↓qm4, ↓zf4, ↓zm4, ↓im4, ss4, ↓vf5, ↓vm5, rf5, rm5, ↓qf5, ↓qm5, ↓zf5, ↓zm5, ↓im5, ss5, ↓vf6, ↓vm6, rf6, rm6, ↓qf6, ↓qm6, ↓zf6, ↓zm6, ↓im6, ss6, ↓vf7, ↓vm7, rf7, rm7, ↓qf7, ↓qm7, ↓zf7, ↓zm7, ↓im7, ss7, ↓vf8, ↓vm8, rf8, rm8, ↓qf8, ↓qm8, ↓zf8, ↓zm8, ↓im8, ss8, ↓vf9, ↓vm9, rf9, rm9, ↓qf9, ↓qm9, ↓zf9, ↓zm9, ↓im9, ss9, ↓vf10, ↓vm10, rf10, rm10, ↓qf10, ↓qm10, ↓zf10, ↓zm10, ↓im10, ss10, S0f1f2t0_law, S0f1f5t0_law, S0f1f7t0_law, S0f1f0_law, S0f1f1_law, S0f1f2_law, S0f1f3_law, S0f1f4_law, S0f1f5_law, S0f1f6_law, S0f1f7_law, S0f0_law, S0f1_law, S0_law, S1_law, U0f1f2t0_law, U0f1f5t0_law, U0f1f7t0_law, U0f1f7_law, U0f1f6_law, U0f1f5_law, U0f1f4_law, U0f1f3_law, U0f1f2_law, U0f1f1_law, U0f1f0_law, U0f1_law, U0f0_law, U1_law, U0_law, okn, okt, nn]); (try simp only [T.bind_ret]); exact rfl) ?_); (try (with_reducible refine al_nx ?_))
  have tk := take_eq (b := (rows.length : Int) + 1) (by omega) (by have := ok.r1; omega)
  (simp only [U0f1f2t0_law, U0f1f5t0_law, U0f1f7t0_law, U0f1f7_law, U0f1f6_law, U0f1f5_law, U0f1f4_law, U0f1f3_law, U0f1f2_law, U0f1f1_law, U0f1f0_law, U0f1_law, U0f0_law, U1_law, U0_law, al_seq, nx_nx, lq_nx]; refine al_rd _ (by (simp -dsimp only [↓fBin_b, ↓fUn_b, ↓fBlT_b, ↓fOrT_b, ↓fAnd_b, ↓lCons_b, ↓fTup_b, ↓fSl_b, ↓fCall_b, ↓sSeq_b, ↓sRet_b, ↓sIf_b, ↓sSet_b, ↓iSeq_b, ↓iRange1_b, ↓sFor_b, ↓fNew_b, ↓nLst_b, ↓nLc_b, ↓fC_b, ↓lNil_b, ↓sNil_b, ↓fYes_b, ↓tgName_b, ↓tgNil_b, ↓tgCons_b, ↓tgTup_b, ↓lcRun_b, ↓fPart_n, ↓fPart_s, ↓frz_val, ↓lrs_val, ↓liftS_b, ↓liftN_b, ↓seqOf_t_b, ↓seqOf_l_b, ↓lstOf_l_b, ↓intOf_i_b, ↓blOf_b_b, ↓tru_n_b, ↓tru_b_b, ↓tru_i_b, ↓tru_t_b, ↓tru_l_b, ↓pLen_t_b, ↓pLen_l_b, ↓pLen_s_b, ↓pTuple_t_b, ↓pTuple_l_b, ↓pAdd_i_b, ↓pNeg_i_b, ↓pMax2_i_b, ↓pMin2_i_b, ↓pIs_nn_b, ↓pIs_in_b, ↓pIs_tn_b, ↓pIs_ln_b, ↓pIs_bn_b, ↓pIs_bb_b, ↓pNotIs_nn_b, ↓pNotIs_in_b, ↓pNotIs_tn_b, ↓pNotIs_ln_b, ↓pNotIs_bn_b, ↓pNotIs_bb_b, ↓pCut_t_b, ↓pCut_l_b, ↓atI_0_b, ↓atI_1_b, ↓atI_2_b, ↓atI_3_b, ↓lg0_b, ↓lg1_b, ↓lg2_b, ↓lg3_b, rs_val, outV_rt, outV_nx, backE_n, backE_u, wipeE_n, wipeE_u, froOf_f, froOf_u, seqOf_t, seqOf_l, lstOf_l, intOf_i, blOf_b, tru_n, tru_b, tru_i, tru_t, tru_l, pLen_t, pLen_l, pLen_s, pTuple_t, pTuple_l, pAdd_i, pNeg_i, pMax2_i, pMin2_i, pIs_nn, pIs_in, pIs_tn, pIs_ln, pIs_bn, pIs_bb, pNotIs_nn, pNotIs_in, pNotIs_tn, pNotIs_ln, pNotIs_bn, pNotIs_bb, pCut_t, pCut_l, atI_0, atI_1, atI_2, atI_3, lg0, lg1, lg2, lg3, pIx_t, pIx_l, pAdd_t, pAdd_l, ↓keyOf1_ib, keyOf1_i, ↓T.bind_assoc, bind_ret', bind_bad', bind_exc', bind_draw', lift_some, lift_none', big, below62', below24', below64', below29', mul_ok, div_ok, mod_ok, ↓mArgs_bb, envB_self, tryT_ret, tryT_exc, tryT_draw, List.length_cons, List.length_nil, List.map_cons, List.map_nil, List.append_nil, List.nil_append, List.cons_append, List.replicate_succ, List.replicate_zero, List.isEmpty_nil, List.isEmpty_cons, Option.map_some, Option.map_none, Option.bind_some, Option.bind_none, true_and, and_true, and_self, false_and, and_false, true_or, or_true, false_or, or_false, not_true_eq_false, not_false_eq_true, Bool.not_true, Bool.not_false, Bool.true_and, Bool.and_true, Bool.false_and, Bool.and_false, Bool.true_or, Bool.or_true, Bool.or_false, Bool.false_or, decide_true, decide_false, decide_eq_true_eq, decide_eq_false_iff_not, if_true, if_false, ite_true, ite_false, ↓reduceIte, Int.natCast_nonneg, Nat.reduceLT, Nat.reduceLeDiff, Nat.reduceEqDiff, Nat.reduceSub, Nat.reduceMul, Int.reduceLT, Int.reduceLE, Int.reduceEq, Int.reduceAdd, Int.reduceSub, Int.reduceMul, Int.reduceNeg, Int.reducePow, List.length_map, List.length_range, eq_self, ne_eq, Classical.not_not, Bool.not_eq_true, Bool.not_eq_false, Bool.false_eq_true, reduceCtorEq, Int.toNat_natCast, Nat.add_eq, Nat.reduceAdd, Int.cast_ofNat_Int, Int.reduceToNat, Int.zero_add, Int.add_zero, Nat.zero_add, Nat.add_zero, Nat.sub_zero, Int.sub_zero, Int.natCast_zero, Int.natCast_one, Int.natCast_add, Int.natCast_succ, beq_self_eq_true, Bool.decide_eq_true, Bool.decide_eq_false, ↓vf0, ↓vm0, rf0, rm0, ↓qf0, ↓qm0, ↓zf0, ↓zm0, ↓im0, ss0, ↓vf1, ↓vm1, rf1, rm1, ↓qf1, ↓qm1, ↓zf1, ↓zm1, ↓im1, ss1, ↓vf2, ↓vm2, rf2, rm2, ↓qf2, ↓qm2, ↓zf2, ↓zm2, ↓im2, ss2, ↓vf3, ↓vm3, rf3, rm3, ↓qf3, ↓qm3, ↓zf3, ↓zm3, ↓im3, ss3, ↓vf4, ↓vm4, rf4, rm4, ↓qf4, ↓qm4, ↓zf4, ↓zm4, ↓im4, ss4, ↓vf5, ↓vm5, rf5, rm5, ↓qf5, ↓qm5, ↓zf5, ↓zm5, ↓im5, ss5, ↓vf6, ↓vm6, rf6, rm6, ↓qf6, ↓qm6, ↓zf6, ↓zm6, ↓im6, ss6, ↓vf7, ↓vm7, rf7, rm7, ↓qf7, ↓qm7, ↓zf7, ↓zm7, ↓im7, ss7, ↓vf8, ↓vm8, rf8, rm8, ↓qf8, ↓qm8, ↓zf8, ↓zm8, ↓im8, ss8, ↓vf9, ↓vm9, rf9, rm9, ↓qf9, ↓qm9, ↓zf9, ↓zm9, ↓im9, ss9, ↓vf10, ↓vm10, rf10, rm10, ↓qf10, ↓qm10, ↓zf10, ↓zm10, ↓im10, ss10, S0f1f2t0_law, S0f1f5t0_law, S0f1f7t0_law, S0f1f0_law, S0f1f1_law, S0f1f2_law, S0f1f3_law, S0f1f4_law, S0f1f5_law, S0f1f6_law, S0f1f7_law, S0f0_law, S0f1_law, S0_law, S1_law, U0f1f2t0_law, U0f1f5t0_law, U0f1f7t0_law, U0f1f7_law, U0f1f6_law, U0f1f5_law, U0f1f4_law, U0f1f3_law, U0f1f2_law, U0f1f1_law, U0f1f0_law, U0f1_law, U0f0_law, U1_law, U0_law, tk]); (try simp only [T.bind_ret]); exact rfl) ?_); (try (with_reducible refine al_nx ?_))
  refine al_dr fun at_ hat => ?_
  (try refine al_rd _ (by (simp -dsimp only [↓fBin_b, ↓fUn_b, ↓fTru_b, ↓fBlT_b, ↓fNotT_b, ↓fOrT_b, ↓fAnd_b, ↓fNot_b, ↓fIf_b, ↓lCons_b, ↓fTup_b, ↓fSl_b, ↓fCall_b, ↓sSeq_b, ↓sExpr_b, ↓sRet_b, ↓sIf_b, ↓sSet_b, ↓sAsg_b, ↓iSeq_b, ↓iRange1_b, ↓sFor_b, ↓fNew_b, ↓nLst_b, ↓nList_b, ↓fAppend_b, ↓fPopAt_b, ↓nLc_b, ↓nListRange_b, ↓sPar_b, ↓sParE_b, ↓sParN_b, ↓sFldSet_b, ↓fC_b, ↓lNil_b, ↓sNil_b, ↓fYes_b, ↓tgName_b, ↓tgNil_b, ↓tgCons_b, ↓tgTup_b, ↓lcRun_b, ↓fPart_n, ↓fPart_s, ↓frz_val, ↓lrs_val, ↓liftS_b, ↓liftN_b, ↓seqOf_t_b, ↓seqOf_l_b, ↓lstOf_l_b, ↓intOf_i_b, ↓blOf_b_b, ↓tru_n_b, ↓tru_b_b, ↓tru_i_b, ↓tru_t_b, ↓tru_l_b, ↓pLen_t_b, ↓pLen_l_b, ↓pLen_s_b, ↓pTuple_t_b, ↓pTuple_l_b, ↓pAdd_i_b, ↓pNeg_i_b, ↓pLt_i_b, ↓pGt_i_b, ↓pGe_i_b, ↓pMax2_i_b, ↓pMin2_i_b, ↓pIs_nn_b, ↓pIs_in_b, ↓pIs_tn_b, ↓pIs_ln_b, ↓pIs_bn_b, ↓pIs_bb_b, ↓pNotIs_nn_b, ↓pNotIs_in_b, ↓pNotIs_tn_b, ↓pNotIs_ln_b, ↓pNotIs_bn_b, ↓pNotIs_bb_b, ↓pCut_t_b, ↓pCut_l_b, ↓atI_0_b, ↓atI_1_b, ↓atI_2_b, ↓atI_3_b, ↓lg0_b, ↓lg1_b, ↓lg2_b, ↓lg3_b, ↓isi_bl_int_b, ↓isi_bl_bool_b, ↓isi_bl_tuple_b, ↓isi2_bl_b, ↓isi_int_int_b, ↓isi_int_bool_b, ↓isi_int_tuple_b, ↓isi2_int_b, ↓isi_str_int_b, ↓isi_str_bool_b, ↓isi_str_tuple_b, ↓isi2_str_b, ↓isi_tup_int_b, ↓isi_tup_bool_b, ↓isi_tup_tuple_b, ↓isi2_tup_b, ↓isi_lst_int_b, ↓isi_lst_bool_b, ↓isi_lst_tuple_b, ↓isi2_lst_b, rs_val, outV_rt, outV_nx, backE_n, backE_u, wipeE_n, wipeE_u, froOf_f, froOf_u, seqOf_t, seqOf_l, lstOf_l, intOf_i, blOf_b, tru_n, tru_b, tru_i, tru_t, tru_l, pLen_t, pLen_l, pLen_s, pTuple_t, pTuple_l, pAdd_i, pNeg_i, pLt_i, pGt_i, pGe_i, pMax2_i, pMin2_i, pIs_nn, pIs_in, pIs_tn, pIs_ln, pIs_bn, pIs_bb, pNotIs_nn, pNotIs_in, pNotIs_tn, pNotIs_ln, pNotIs_bn, pNotIs_bb, pCut_t, pCut_l, atI_0, atI_1, atI_2, atI_3, lg0, lg1, lg2, lg3, isi_bl_int, isi_bl_bool, isi_bl_tuple, isi2_bl, isi_int_int, isi_int_bool, isi_int_tuple, isi2_int, isi_str_int, isi_str_bool, isi_str_tuple, isi2_str, isi_tup_int, isi_tup_bool, isi_tup_tuple, isi2_tup, isi_lst_int, isi_lst_bool, isi_lst_tuple, isi2_lst, pIx_t, pIx_l, pAdd_t, pAdd_l, ↓keyOf1_ib, keyOf1_i, ↓T.bind_assoc, bind_ret', bind_bad', bind_exc', bind_draw', lift_some, lift_none', big, below62', below24', below64', below29', mul_ok, div_ok, mod_ok, ↓sRaise_b, ↓sTryB_b, mDrop_b, ↓mArgs_bb, mArgs_b, mIfX_b, mIfS_b, envB_self, tryT_ret, tryT_exc, tryT_draw, List.length_cons, List.length_nil, List.map_cons, List.map_nil, List.append_nil, List.nil_append, List.cons_append, List.replicate_succ, List.replicate_zero, List.isEmpty_nil, List.isEmpty_cons, Option.map_some, Option.map_none, Option.bind_some, Option.bind_none, true_and, and_true, and_self, false_and, and_false, true_or, or_true, false_or, or_false, not_true_eq_false, not_false_eq_true, Bool.not_true, Bool.not_false, Bool.true_and, Bool.and_true, Bool.false_and, Bool.and_false, Bool.true_or, Bool.or_true, Bool.or_false, Bool.false_or, decide_true, decide_false, decide_eq_true_eq, decide_eq_false_iff_not, if_true, if_false, ite_true, ite_false, ↓reduceIte, Int.natCast_nonneg, Nat.reduceLT, Nat.reduceLeDiff, Nat.reduceEqDiff, Nat.reduceSub, Nat.reduceMul, Int.reduceLT, Int.reduceLE, Int.reduceEq, Int.reduceAdd, Int.reduceSub, Int.reduceMul, Int.reduceNeg, Int.reducePow, List.length_map, List.length_range, eq_self, ne_eq, Classical.not_not, Bool.not_eq_true, Bool.not_eq_false, Bool.false_eq_true, reduceCtorEq, Int.toNat_natCast, Nat.add_eq, Nat.reduceAdd, Int.cast_ofNat_Int, Int.reduceToNat, Int.zero_add, Int.add_zero, Nat.zero_add, Nat.add_zero, Nat.sub_zero, Int.sub_zero, Int.natCast_zero, Int.natCast_one, Int.natCast_add, Int.natCast_succ, beq_self_eq_true, Bool.decide_eq_true, Bool.decide_eq_false, ↓vf0, ↓vm0, rf0, rm0, ↓qf0, ↓qm0, ↓zf0, ↓zm0, ↓im0, ss0, ↓imd0, ↓vf1, ↓vm1, rf1, rm1, ↓qf1, ↓qm1, ↓zf1, ↓zm1, ↓im1, ss1, ↓imd1, ↓vf2, ↓vm2, rf2, rm2, ↓qf2, ↓qm2, ↓zf2, ↓zm2, ↓im2, ss2, ↓imd2, ↓vf3, ↓vm3, rf3, rm3, ↓qf3, ↓qm3, ↓zf3, ↓zm3, ↓im3, ss3, ↓imd3, ↓vf4, ↓vm4, rf4, rm4, ↓qf4, ↓qm4, ↓zf4, ↓zm4, ↓im4, ss4, ↓imd4, ↓vf5, ↓vm5, rf5, rm5, ↓qf5, ↓qm5, ↓zf5, ↓zm5, ↓im5, ss5, ↓imd5, ↓vf6, ↓vm6, rf6, rm6, ↓qf6, ↓qm6, ↓zf6, ↓zm6, ↓im6, ss6, ↓imd6, ↓vf7, ↓vm7, rf7, rm7, ↓qf7, ↓qm7, ↓zf7, ↓zm7, ↓im7, ss7, ↓imd7, ↓vf8, ↓vm8, rf8, rm8, ↓qf8, ↓qm8, ↓zf8, ↓zm8, ↓im8, ss8, ↓imd8, ↓vf9, ↓vm9, rf9, rm9, ↓qf9, ↓qm9, ↓zf9, ↓zm9, ↓im9, ss9, ↓imd9, ↓vf10, ↓vm10, rf10, rm10, ↓qf10, ↓qm10, ↓zf10, ↓zm10, ↓im10, ss10, ↓imd10]); (try simp only [T.bind_ret]); exact rfl) ?_); (try (with_reducible refine al_nx ?_))
  have hal : at_ ≤ (rows.map rawV).length := by rw [List.length_map]; omega
  have ct := cut_to (xs := rows.map rawV) hal
  have cf := cut_from (xs := rows.map rawV) hal
  have hA : ((rows.map rawV).take at_).length ≤ 100 := by rw [List.length_take, List.length_map]; have := ok.r1; omega
  have hB : ((rows.map rawV).drop at_).length ≤ 100 := by rw [List.length_drop, List.length_map]; have := ok.r1; omega
  have mA : ∀ x ∈ (rows.map rawV).take at_, ∃ r ∈ rows, rawV r = x := fun x hx => List.mem_map.mp (List.mem_of_mem_take hx)
  have mB : ∀ x ∈ (rows.map rawV).drop at_, ∃ r ∈ rows, rawV r = x := fun x hx => List.mem_map.mp (List.mem_of_mem_drop hx)
  generalize (rows.map rawV).take at_ = A at ct hA mA
  generalize (rows.map rawV).drop at_ = B at cf hB mB
  (simp only [U0f1f2t0_law, U0f1f5t0_law, U0f1f7t0_law, U0f1f7_law, U0f1f6_law, U0f1f5_law, U0f1f4_law, U0f1f3_law, U0f1f2_law, U0f1f1_law, U0f1f0_law, U0f1_law, U0f0_law, U1_law, U0_law, al_seq, nx_nx, lq_nx]; refine al_rd _ (by (simp -dsimp only [↓fBin_b, ↓fUn_b, ↓fBlT_b, ↓fOrT_b, ↓fAnd_b, ↓lCons_b, ↓fTup_b, ↓fSl_b, ↓fCall_b, ↓sSeq_b, ↓sRet_b, ↓sIf_b, ↓sSet_b, ↓iSeq_b, ↓iRange1_b, ↓sFor_b, ↓fNew_b, ↓nLst_b, ↓nLc_b, ↓fC_b, ↓lNil_b, ↓sNil_b, ↓fYes_b, ↓tgName_b, ↓tgNil_b, ↓tgCons_b, ↓tgTup_b, ↓lcRun_b, ↓fPart_n, ↓fPart_s, ↓frz_val, ↓lrs_val, ↓liftS_b, ↓liftN_b, ↓seqOf_t_b, ↓seqOf_l_b, ↓lstOf_l_b, ↓intOf_i_b, ↓blOf_b_b, ↓tru_n_b, ↓tru_b_b, ↓tru_i_b, ↓tru_t_b, ↓tru_l_b, ↓pLen_t_b, ↓pLen_l_b, ↓pLen_s_b, ↓pTuple_t_b, ↓pTuple_l_b, ↓pAdd_i_b, ↓pNeg_i_b, ↓pMax2_i_b, ↓pMin2_i_b, ↓pIs_nn_b, ↓pIs_in_b, ↓pIs_tn_b, ↓pIs_ln_b, ↓pIs_bn_b, ↓pIs_bb_b, ↓pNotIs_nn_b, ↓pNotIs_in_b, ↓pNotIs_tn_b, ↓pNotIs_ln_b, ↓pNotIs_bn_b, ↓pNotIs_bb_b, ↓pCut_t_b, ↓pCut_l_b, ↓atI_0_b, ↓atI_1_b, ↓atI_2_b, ↓atI_3_b, ↓lg0_b, ↓lg1_b, ↓lg2_b, ↓lg3_b, rs_val, outV_rt, outV_nx, backE_n, backE_u, wipeE_n, wipeE_u, froOf_f, froOf_u, seqOf_t, seqOf_l, lstOf_l, intOf_i, blOf_b, tru_n, tru_b, tru_i, tru_t, tru_l, pLen_t, pLen_l, pLen_s, pTuple_t, pTuple_l, pAdd_i, pNeg_i, pMax2_i, pMin2_i, pIs_nn, pIs_in, pIs_tn, pIs_ln, pIs_bn, pIs_bb, pNotIs_nn, pNotIs_in, pNotIs_tn, pNotIs_ln, pNotIs_bn, pNotIs_bb, pCut_t, pCut_l, atI_0, atI_1, atI_2, atI_3, lg0, lg1, lg2, lg3, pIx_t, pIx_l, pAdd_t, pAdd_l, ↓keyOf1_ib, keyOf1_i, ↓T.bind_assoc, bind_ret', bind_bad', bind_exc', bind_draw', lift_some, lift_none', big, below62', below24', below64', below29', mul_ok, div_ok, mod_ok, ↓mArgs_bb, envB_self, tryT_ret, tryT_exc, tryT_draw, List.length_cons, List.length_nil, List.map_cons, List.map_nil, List.append_nil, List.nil_append, List.cons_append, List.replicate_succ, List.replicate_zero, List.isEmpty_nil, List.isEmpty_cons, Option.map_some, Option.map_none, Option.bind_some, Option.bind_none, true_and, and_true, and_self, false_and, and_false, true_or, or_true, false_or, or_false, not_true_eq_false, not_false_eq_true, Bool.not_true, Bool.not_false, Bool.true_and, Bool.and_true, Bool.false_and, Bool.and_false, Bool.true_or, Bool.or_true, Bool.or_false, Bool.false_or, decide_true, decide_false, decide_eq_true_eq, decide_eq_false_iff_not, if_true, if_false, ite_true, ite_false, ↓reduceIte, Int.natCast_nonneg, Nat.reduceLT, Nat.reduceLeDiff, Nat.reduceEqDiff, Nat.reduceSub, Nat.reduceMul, Int.reduceLT, Int.reduceLE, Int.reduceEq, Int.reduceAdd, Int.reduceSub, Int.reduceMul, Int.reduceNeg, Int.reducePow, List.length_map, List.length_range, eq_self, ne_eq, Classical.not_not, Bool.not_eq_true, Bool.not_eq_false, Bool.false_eq_true, reduceCtorEq, Int.toNat_natCast, Nat.add_eq, Nat.reduceAdd, Int.cast_ofNat_Int, Int.reduceToNat, Int.zero_add, Int.add_zero, Nat.zero_add, Nat.add_zero, Nat.sub_zero, Int.sub_zero, Int.natCast_zero, Int.natCast_one, Int.natCast_add, Int.natCast_succ, beq_self_eq_true, Bool.decide_eq_true, Bool.decide_eq_false, ↓vf0, ↓vm0, rf0, rm0, ↓qf0, ↓qm0, ↓zf0, ↓zm0, ↓im0, ss0, ↓vf1, ↓vm1, rf1, rm1, ↓qf1, ↓qm1, ↓zf1, ↓zm1, ↓im1, ss1, ↓vf2, ↓vm2, rf2, rm2, ↓qf2, ↓qm2, ↓zf2, ↓zm2, ↓im2, ss2, ↓vf3, ↓vm3, rf3, rm3, ↓qf3, ↓qm3, ↓zf3, ↓zm3, ↓im3, ss3, ↓vf4, ↓vm4, rf4, rm4, ↓qf4, ↓qm4, ↓zf4, ↓zm4, ↓im4, ss4, ↓vf5, ↓vm5, rf5, rm5, ↓qf5, ↓qm5, ↓zf5, ↓zm5, ↓im5, ss5, ↓vf6, ↓vm6, rf6, rm6, ↓qf6, ↓qm6, ↓zf6, ↓zm6, ↓im6, ss6, ↓vf7, ↓vm7, rf7, rm7, ↓qf7, ↓qm7, ↓zf7, ↓zm7, ↓im7, ss7, ↓vf8, ↓vm8, rf8, rm8, ↓qf8, ↓qm8, ↓zf8, ↓zm8, ↓im8, ss8, ↓vf9, ↓vm9, rf9, rm9, ↓qf9, ↓qm9, ↓zf9, ↓zm9, ↓im9, ss9, ↓vf10, ↓vm10, rf10, rm10, ↓qf10, ↓qm10, ↓zf10, ↓zm10, ↓im10, ss10, S0f1f2t0_law, S0f1f5t0_law, S0f1f7t0_law, S0f1f0_law, S0f1f1_law, S0f1f2_law, S0f1f3_law, S0f1f4_law, S0f1f5_law, S0f1f6_law, S0f1f7_law, S0f0_law, S0f1_law, S0_law, S1_law, U0f1f2t0_law, U0f1f5t0_law, U0f1f7t0_law, U0f1f7_law, U0f1f6_law, U0f1f5_law, U0f1f4_law, U0f1f3_law, U0f1f2_law, U0f1f1_law, U0f1f0_law, U0f1_law, U0f0_law, U1_law, U0_law, ct]); (try simp only [T.bind_ret]); exact rfl) ?_); (try (with_reducible refine al_nx ?_))
  refine al_by (law_wrong_all ok.n0 (by omega) (.lst (rows.map rawV))) fun w hw => ?_
  have l1 : A.length ≤ 999999 := by omega
  have l2 : A.length + 1 + B.length ≤ 1000000 := by omega
  have l3 : (A ++ [w]).length + B.length ≤ 1000000 := by rw [List.length_append]; exact l2
  (try refine al_rd _ (by (simp -dsimp only [↓fBin_b, ↓fUn_b, ↓fTru_b, ↓fBlT_b, ↓fNotT_b, ↓fOrT_b, ↓fAnd_b, ↓fNot_b, ↓fIf_b, ↓lCons_b, ↓fTup_b, ↓fSl_b, ↓fCall_b, ↓sSeq_b, ↓sExpr_b, ↓sRet_b, ↓sIf_b, ↓sSet_b, ↓sAsg_b, ↓iSeq_b, ↓iRange1_b, ↓sFor_b, ↓fNew_b, ↓nLst_b, ↓nList_b, ↓fAppend_b, ↓fPopAt_b, ↓nLc_b, ↓nListRange_b, ↓sPar_b, ↓sParE_b, ↓sParN_b, ↓sFldSet_b, ↓fC_b, ↓lNil_b, ↓sNil_b, ↓fYes_b, ↓tgName_b, ↓tgNil_b, ↓tgCons_b, ↓tgTup_b, ↓lcRun_b, ↓fPart_n, ↓fPart_s, ↓frz_val, ↓lrs_val, ↓liftS_b, ↓liftN_b, ↓seqOf_t_b, ↓seqOf_l_b, ↓lstOf_l_b, ↓intOf_i_b, ↓blOf_b_b, ↓tru_n_b, ↓tru_b_b, ↓tru_i_b, ↓tru_t_b, ↓tru_l_b, ↓pLen_t_b, ↓pLen_l_b, ↓pLen_s_b, ↓pTuple_t_b, ↓pTuple_l_b, ↓pAdd_i_b, ↓pNeg_i_b, ↓pLt_i_b, ↓pGt_i_b, ↓pGe_i_b, ↓pMax2_i_b, ↓pMin2_i_b, ↓pIs_nn_b, ↓pIs_in_b, ↓pIs_tn_b, ↓pIs_ln_b, ↓pIs_bn_b, ↓pIs_bb_b, ↓pNotIs_nn_b, ↓pNotIs_in_b, ↓pNotIs_tn_b, ↓pNotIs_ln_b, ↓pNotIs_bn_b, ↓pNotIs_bb_b, ↓pCut_t_b, ↓pCut_l_b, ↓atI_0_b, ↓atI_1_b, ↓atI_2_b, ↓atI_3_b, ↓lg0_b, ↓lg1_b, ↓lg2_b, ↓lg3_b, ↓isi_bl_int_b, ↓isi_bl_bool_b, ↓isi_bl_tuple_b, ↓isi2_bl_b, ↓isi_int_int_b, ↓isi_int_bool_b, ↓isi_int_tuple_b, ↓isi2_int_b, ↓isi_str_int_b, ↓isi_str_bool_b, ↓isi_str_tuple_b, ↓isi2_str_b, ↓isi_tup_int_b, ↓isi_tup_bool_b, ↓isi_tup_tuple_b, ↓isi2_tup_b, ↓isi_lst_int_b, ↓isi_lst_bool_b, ↓isi_lst_tuple_b, ↓isi2_lst_b, rs_val, outV_rt, outV_nx, backE_n, backE_u, wipeE_n, wipeE_u, froOf_f, froOf_u, seqOf_t, seqOf_l, lstOf_l, intOf_i, blOf_b, tru_n, tru_b, tru_i, tru_t, tru_l, pLen_t, pLen_l, pLen_s, pTuple_t, pTuple_l, pAdd_i, pNeg_i, pLt_i, pGt_i, pGe_i, pMax2_i, pMin2_i, pIs_nn, pIs_in, pIs_tn, pIs_ln, pIs_bn, pIs_bb, pNotIs_nn, pNotIs_in, pNotIs_tn, pNotIs_ln, pNotIs_bn, pNotIs_bb, pCut_t, pCut_l, atI_0, atI_1, atI_2, atI_3, lg0, lg1, lg2, lg3, isi_bl_int, isi_bl_bool, isi_bl_tuple, isi2_bl, isi_int_int, isi_int_bool, isi_int_tuple, isi2_int, isi_str_int, isi_str_bool, isi_str_tuple, isi2_str, isi_tup_int, isi_tup_bool, isi_tup_tuple, isi2_tup, isi_lst_int, isi_lst_bool, isi_lst_tuple, isi2_lst, pIx_t, pIx_l, pAdd_t, pAdd_l, ↓keyOf1_ib, keyOf1_i, ↓T.bind_assoc, bind_ret', bind_bad', bind_exc', bind_draw', lift_some, lift_none', big, below62', below24', below64', below29', mul_ok, div_ok, mod_ok, ↓sRaise_b, ↓sTryB_b, mDrop_b, ↓mArgs_bb, mArgs_b, mIfX_b, mIfS_b, envB_self, tryT_ret, tryT_exc, tryT_draw, List.length_cons, List.length_nil, List.map_cons, List.map_nil, List.append_nil, List.nil_append, List.cons_append, List.replicate_succ, List.replicate_zero, List.isEmpty_nil, List.isEmpty_cons, Option.map_some, Option.map_none, Option.bind_some, Option.bind_none, true_and, and_true, and_self, false_and, and_false, true_or, or_true, false_or, or_false, not_true_eq_false, not_false_eq_true, Bool.not_true, Bool.not_false, Bool.true_and, Bool.and_true, Bool.false_and, Bool.and_false, Bool.true_or, Bool.or_true, Bool.or_false, Bool.false_or, decide_true, decide_false, decide_eq_true_eq, decide_eq_false_iff_not, if_true, if_false, ite_true, ite_false, ↓reduceIte, Int.natCast_nonneg, Nat.reduceLT, Nat.reduceLeDiff, Nat.reduceEqDiff, Nat.reduceSub, Nat.reduceMul, Int.reduceLT, Int.reduceLE, Int.reduceEq, Int.reduceAdd, Int.reduceSub, Int.reduceMul, Int.reduceNeg, Int.reducePow, List.length_map, List.length_range, eq_self, ne_eq, Classical.not_not, Bool.not_eq_true, Bool.not_eq_false, Bool.false_eq_true, reduceCtorEq, Int.toNat_natCast, Nat.add_eq, Nat.reduceAdd, Int.cast_ofNat_Int, Int.reduceToNat, Int.zero_add, Int.add_zero, Nat.zero_add, Nat.add_zero, Nat.sub_zero, Int.sub_zero, Int.natCast_zero, Int.natCast_one, Int.natCast_add, Int.natCast_succ, beq_self_eq_true, Bool.decide_eq_true, Bool.decide_eq_false, ↓vf0, ↓vm0, rf0, rm0, ↓qf0, ↓qm0, ↓zf0, ↓zm0, ↓im0, ss0, ↓imd0, ↓vf1, ↓vm1, rf1, rm1, ↓qf1, ↓qm1, ↓zf1, ↓zm1, ↓im1, ss1, ↓imd1, ↓vf2, ↓vm2, rf2, rm2, ↓qf2, ↓qm2, ↓zf2, ↓zm2, ↓im2, ss2, ↓imd2, ↓vf3, ↓vm3, rf3, rm3, ↓qf3, ↓qm3, ↓zf3, ↓zm3, ↓im3, ss3, ↓imd3, ↓vf4, ↓vm4, rf4, rm4, ↓qf4, ↓qm4, ↓zf4, ↓zm4, ↓im4, ss4, ↓imd4, ↓vf5, ↓vm5, rf5, rm5, ↓qf5, ↓qm5, ↓zf5, ↓zm5, ↓im5, ss5, ↓imd5, ↓vf6, ↓vm6, rf6, rm6, ↓qf6, ↓qm6, ↓zf6, ↓zm6, ↓im6, ss6, ↓imd6, ↓vf7, ↓vm7, rf7, rm7, ↓qf7, ↓qm7, ↓zf7, ↓zm7, ↓im7, ss7, ↓imd7, ↓vf8, ↓vm8, rf8, rm8, ↓qf8, ↓qm8, ↓zf8, ↓zm8, ↓im8, ss8, ↓imd8, ↓vf9, ↓vm9, rf9, rm9, ↓qf9, ↓qm9, ↓zf9, ↓zm9, ↓im9, ss9, ↓imd9, ↓vf10, ↓vm10, rf10, rm10, ↓qf10, ↓qm10, ↓zf10, ↓zm10, ↓im10, ss10, ↓imd10, cf, l1, l3]); (try simp only [T.bind_ret]); exact rfl) ?_); (try (with_reducible refine al_nx ?_))
  have bad : ∀ {t : AV}, SeqIs t (A ++ [w] ++ B) → f_are_rows [t, .int n] = .ret (.bl false) := fun {t} ht => by
    have hs : seqOf t = some (A ++ [w] ++ B) := by rcases ht with rfl | rfl <;> rfl
    have hty : (tyName t).isSome = true := by rcases ht with rfl | rfl <;> rfl
    have e := are_rows_o (n := (n : Int)) (q := fun x => !(@decide (x = w) (Classical.propDecidable _))) hty hs (by rw [List.length_append, List.length_append]; simp only [List.length_cons, List.length_nil]; omega) fun x hx => by
      by_cases hxw : x = w
      · rw [@decide_eq_true _ (Classical.propDecidable _) hxw, hxw]
        exact hw
      · rw [@decide_eq_false _ (Classical.propDecidable _) hxw]
        have hx2 : x ∈ A ∨ x ∈ B := by
          rcases List.mem_append.mp hx with h | h
          · rcases List.mem_append.mp h with h | h
            · exact .inl h
            · cases h with
              | head => exact (hxw rfl).elim
              | tail _ h => cases h
          · exact .inr h
        have : ∃ r ∈ rows, rawV r = x := hx2.elim (mA x) (mB x)
        obtain ⟨r, hr, rfl⟩ := this
        exact is_row_raw (ok.row hr) ok.n1
    rw [e]
    have : (A ++ [w] ++ B).all (fun x => !(@decide (x = w) (Classical.propDecidable _))) = false := by
      rw [List.all_append, List.all_append, List.all_cons, @decide_eq_true _ (Classical.propDecidable _) rfl]
      simp
    rw [this, Bool.and_false]
  have b1 : f_law_heard [.int n, .lst (A ++ [w] ++ B)] = .ret (.str "rows") := heard_exc (rota_r wn (bad (.inl rfl)))
  have b2 : f_law_heard [.int n, .tup (A ++ [w] ++ B)] = .ret (.str "rows") := heard_exc (rota_r wn (bad (.inr rfl)))
  generalize A ++ [w] ++ B = bent at b1 b2
  (simp only [U0f1f2t0_law, U0f1f5t0_law, U0f1f7t0_law, U0f1f7_law, U0f1f6_law, U0f1f5_law, U0f1f4_law, U0f1f3_law, U0f1f2_law, U0f1f1_law, U0f1f0_law, U0f1_law, U0f0_law, U1_law, U0_law, al_seq, nx_nx, lq_nx]; refine al_rd _ (by (simp -dsimp only [↓fBin_b, ↓fUn_b, ↓fBlT_b, ↓fOrT_b, ↓fAnd_b, ↓lCons_b, ↓fTup_b, ↓fSl_b, ↓fCall_b, ↓sSeq_b, ↓sRet_b, ↓sIf_b, ↓sSet_b, ↓iSeq_b, ↓iRange1_b, ↓sFor_b, ↓fNew_b, ↓nLst_b, ↓nLc_b, ↓fC_b, ↓lNil_b, ↓sNil_b, ↓fYes_b, ↓tgName_b, ↓tgNil_b, ↓tgCons_b, ↓tgTup_b, ↓lcRun_b, ↓fPart_n, ↓fPart_s, ↓frz_val, ↓lrs_val, ↓liftS_b, ↓liftN_b, ↓seqOf_t_b, ↓seqOf_l_b, ↓lstOf_l_b, ↓intOf_i_b, ↓blOf_b_b, ↓tru_n_b, ↓tru_b_b, ↓tru_i_b, ↓tru_t_b, ↓tru_l_b, ↓pLen_t_b, ↓pLen_l_b, ↓pLen_s_b, ↓pTuple_t_b, ↓pTuple_l_b, ↓pAdd_i_b, ↓pNeg_i_b, ↓pMax2_i_b, ↓pMin2_i_b, ↓pIs_nn_b, ↓pIs_in_b, ↓pIs_tn_b, ↓pIs_ln_b, ↓pIs_bn_b, ↓pIs_bb_b, ↓pNotIs_nn_b, ↓pNotIs_in_b, ↓pNotIs_tn_b, ↓pNotIs_ln_b, ↓pNotIs_bn_b, ↓pNotIs_bb_b, ↓pCut_t_b, ↓pCut_l_b, ↓atI_0_b, ↓atI_1_b, ↓atI_2_b, ↓atI_3_b, ↓lg0_b, ↓lg1_b, ↓lg2_b, ↓lg3_b, rs_val, outV_rt, outV_nx, backE_n, backE_u, wipeE_n, wipeE_u, froOf_f, froOf_u, seqOf_t, seqOf_l, lstOf_l, intOf_i, blOf_b, tru_n, tru_b, tru_i, tru_t, tru_l, pLen_t, pLen_l, pLen_s, pTuple_t, pTuple_l, pAdd_i, pNeg_i, pMax2_i, pMin2_i, pIs_nn, pIs_in, pIs_tn, pIs_ln, pIs_bn, pIs_bb, pNotIs_nn, pNotIs_in, pNotIs_tn, pNotIs_ln, pNotIs_bn, pNotIs_bb, pCut_t, pCut_l, atI_0, atI_1, atI_2, atI_3, lg0, lg1, lg2, lg3, pIx_t, pIx_l, pAdd_t, pAdd_l, ↓keyOf1_ib, keyOf1_i, ↓T.bind_assoc, bind_ret', bind_bad', bind_exc', bind_draw', lift_some, lift_none', big, below62', below24', below64', below29', mul_ok, div_ok, mod_ok, ↓mArgs_bb, envB_self, tryT_ret, tryT_exc, tryT_draw, List.length_cons, List.length_nil, List.map_cons, List.map_nil, List.append_nil, List.nil_append, List.cons_append, List.replicate_succ, List.replicate_zero, List.isEmpty_nil, List.isEmpty_cons, Option.map_some, Option.map_none, Option.bind_some, Option.bind_none, true_and, and_true, and_self, false_and, and_false, true_or, or_true, false_or, or_false, not_true_eq_false, not_false_eq_true, Bool.not_true, Bool.not_false, Bool.true_and, Bool.and_true, Bool.false_and, Bool.and_false, Bool.true_or, Bool.or_true, Bool.or_false, Bool.false_or, decide_true, decide_false, decide_eq_true_eq, decide_eq_false_iff_not, if_true, if_false, ite_true, ite_false, ↓reduceIte, Int.natCast_nonneg, Nat.reduceLT, Nat.reduceLeDiff, Nat.reduceEqDiff, Nat.reduceSub, Nat.reduceMul, Int.reduceLT, Int.reduceLE, Int.reduceEq, Int.reduceAdd, Int.reduceSub, Int.reduceMul, Int.reduceNeg, Int.reducePow, List.length_map, List.length_range, eq_self, ne_eq, Classical.not_not, Bool.not_eq_true, Bool.not_eq_false, Bool.false_eq_true, reduceCtorEq, Int.toNat_natCast, Nat.add_eq, Nat.reduceAdd, Int.cast_ofNat_Int, Int.reduceToNat, Int.zero_add, Int.add_zero, Nat.zero_add, Nat.add_zero, Nat.sub_zero, Int.sub_zero, Int.natCast_zero, Int.natCast_one, Int.natCast_add, Int.natCast_succ, beq_self_eq_true, Bool.decide_eq_true, Bool.decide_eq_false, ↓vf0, ↓vm0, rf0, rm0, ↓qf0, ↓qm0, ↓zf0, ↓zm0, ↓im0, ss0, ↓vf1, ↓vm1, rf1, rm1, ↓qf1, ↓qm1, ↓zf1, ↓zm1, ↓im1, ss1, ↓vf2, ↓vm2, rf2, rm2, ↓qf2, ↓qm2, ↓zf2, ↓zm2, ↓im2, ss2, ↓vf3, ↓vm3, rf3, rm3, ↓qf3, ↓qm3, ↓zf3, ↓zm3, ↓im3, ss3, ↓vf4, ↓vm4, rf4, rm4, ↓qf4, ↓qm4, ↓zf4, ↓zm4, ↓im4, ss4, ↓vf5, ↓vm5, rf5, rm5, ↓qf5, ↓qm5, ↓zf5, ↓zm5, ↓im5, ss5, ↓vf6, ↓vm6, rf6, rm6, ↓qf6, ↓qm6, ↓zf6, ↓zm6, ↓im6, ss6, ↓vf7, ↓vm7, rf7, rm7, ↓qf7, ↓qm7, ↓zf7, ↓zm7, ↓im7, ss7, ↓vf8, ↓vm8, rf8, rm8, ↓qf8, ↓qm8, ↓zf8, ↓zm8, ↓im8, ss8, ↓vf9, ↓vm9, rf9, rm9, ↓qf9, ↓qm9, ↓zf9, ↓zm9, ↓im9, ss9, ↓vf10, ↓vm10, rf10, rm10, ↓qf10, ↓qm10, ↓zf10, ↓zm10, ↓im10, ss10, S0f1f2t0_law, S0f1f5t0_law, S0f1f7t0_law, S0f1f0_law, S0f1f1_law, S0f1f2_law, S0f1f3_law, S0f1f4_law, S0f1f5_law, S0f1f6_law, S0f1f7_law, S0f0_law, S0f1_law, S0_law, S1_law, U0f1f2t0_law, U0f1f5t0_law, U0f1f7t0_law, U0f1f7_law, U0f1f6_law, U0f1f5_law, U0f1f4_law, U0f1f3_law, U0f1f2_law, U0f1f1_law, U0f1f0_law, U0f1_law, U0f0_law, U1_law, U0_law, b1, b2, nr]); (try simp only [T.bind_ret]); exact rfl) ?_); (try (with_reducible refine al_nx ?_))
  (simp only [U0f1f2t0_law, U0f1f5t0_law, U0f1f7t0_law, U0f1f7_law, U0f1f6_law, U0f1f5_law, U0f1f4_law, U0f1f3_law, U0f1f2_law, U0f1f1_law, U0f1f0_law, U0f1_law, U0f0_law, U1_law, U0_law, al_seq, nx_nx, lq_nx]; refine al_rd _ (by (simp -dsimp only [↓fBin_b, ↓fUn_b, ↓fBlT_b, ↓fOrT_b, ↓fAnd_b, ↓lCons_b, ↓fTup_b, ↓fSl_b, ↓fCall_b, ↓sSeq_b, ↓sRet_b, ↓sIf_b, ↓sSet_b, ↓iSeq_b, ↓iRange1_b, ↓sFor_b, ↓fNew_b, ↓nLst_b, ↓nLc_b, ↓fC_b, ↓lNil_b, ↓sNil_b, ↓fYes_b, ↓tgName_b, ↓tgNil_b, ↓tgCons_b, ↓tgTup_b, ↓lcRun_b, ↓fPart_n, ↓fPart_s, ↓frz_val, ↓lrs_val, ↓liftS_b, ↓liftN_b, ↓seqOf_t_b, ↓seqOf_l_b, ↓lstOf_l_b, ↓intOf_i_b, ↓blOf_b_b, ↓tru_n_b, ↓tru_b_b, ↓tru_i_b, ↓tru_t_b, ↓tru_l_b, ↓pLen_t_b, ↓pLen_l_b, ↓pLen_s_b, ↓pTuple_t_b, ↓pTuple_l_b, ↓pAdd_i_b, ↓pNeg_i_b, ↓pMax2_i_b, ↓pMin2_i_b, ↓pIs_nn_b, ↓pIs_in_b, ↓pIs_tn_b, ↓pIs_ln_b, ↓pIs_bn_b, ↓pIs_bb_b, ↓pNotIs_nn_b, ↓pNotIs_in_b, ↓pNotIs_tn_b, ↓pNotIs_ln_b, ↓pNotIs_bn_b, ↓pNotIs_bb_b, ↓pCut_t_b, ↓pCut_l_b, ↓atI_0_b, ↓atI_1_b, ↓atI_2_b, ↓atI_3_b, ↓lg0_b, ↓lg1_b, ↓lg2_b, ↓lg3_b, rs_val, outV_rt, outV_nx, backE_n, backE_u, wipeE_n, wipeE_u, froOf_f, froOf_u, seqOf_t, seqOf_l, lstOf_l, intOf_i, blOf_b, tru_n, tru_b, tru_i, tru_t, tru_l, pLen_t, pLen_l, pLen_s, pTuple_t, pTuple_l, pAdd_i, pNeg_i, pMax2_i, pMin2_i, pIs_nn, pIs_in, pIs_tn, pIs_ln, pIs_bn, pIs_bb, pNotIs_nn, pNotIs_in, pNotIs_tn, pNotIs_ln, pNotIs_bn, pNotIs_bb, pCut_t, pCut_l, atI_0, atI_1, atI_2, atI_3, lg0, lg1, lg2, lg3, pIx_t, pIx_l, pAdd_t, pAdd_l, ↓keyOf1_ib, keyOf1_i, ↓T.bind_assoc, bind_ret', bind_bad', bind_exc', bind_draw', lift_some, lift_none', big, below62', below24', below64', below29', mul_ok, div_ok, mod_ok, ↓mArgs_bb, envB_self, tryT_ret, tryT_exc, tryT_draw, List.length_cons, List.length_nil, List.map_cons, List.map_nil, List.append_nil, List.nil_append, List.cons_append, List.replicate_succ, List.replicate_zero, List.isEmpty_nil, List.isEmpty_cons, Option.map_some, Option.map_none, Option.bind_some, Option.bind_none, true_and, and_true, and_self, false_and, and_false, true_or, or_true, false_or, or_false, not_true_eq_false, not_false_eq_true, Bool.not_true, Bool.not_false, Bool.true_and, Bool.and_true, Bool.false_and, Bool.and_false, Bool.true_or, Bool.or_true, Bool.or_false, Bool.false_or, decide_true, decide_false, decide_eq_true_eq, decide_eq_false_iff_not, if_true, if_false, ite_true, ite_false, ↓reduceIte, Int.natCast_nonneg, Nat.reduceLT, Nat.reduceLeDiff, Nat.reduceEqDiff, Nat.reduceSub, Nat.reduceMul, Int.reduceLT, Int.reduceLE, Int.reduceEq, Int.reduceAdd, Int.reduceSub, Int.reduceMul, Int.reduceNeg, Int.reducePow, List.length_map, List.length_range, eq_self, ne_eq, Classical.not_not, Bool.not_eq_true, Bool.not_eq_false, Bool.false_eq_true, reduceCtorEq, Int.toNat_natCast, Nat.add_eq, Nat.reduceAdd, Int.cast_ofNat_Int, Int.reduceToNat, Int.zero_add, Int.add_zero, Nat.zero_add, Nat.add_zero, Nat.sub_zero, Int.sub_zero, Int.natCast_zero, Int.natCast_one, Int.natCast_add, Int.natCast_succ, beq_self_eq_true, Bool.decide_eq_true, Bool.decide_eq_false, ↓vf0, ↓vm0, rf0, rm0, ↓qf0, ↓qm0, ↓zf0, ↓zm0, ↓im0, ss0, ↓vf1, ↓vm1, rf1, rm1, ↓qf1, ↓qm1, ↓zf1, ↓zm1, ↓im1, ss1, ↓vf2, ↓vm2, rf2, rm2, ↓qf2, ↓qm2, ↓zf2, ↓zm2, ↓im2, ss2, ↓vf3, ↓vm3, rf3, rm3, ↓qf3, ↓qm3, ↓zf3, ↓zm3, ↓im3, ss3, ↓vf4, ↓vm4, rf4, rm4, ↓qf4, ↓qm4, ↓zf4, ↓zm4, ↓im4, ss4, ↓vf5, ↓vm5, rf5, rm5, ↓qf5, ↓qm5, ↓zf5, ↓zm5, ↓im5, ss5, ↓vf6, ↓vm6, rf6, rm6, ↓qf6, ↓qm6, ↓zf6, ↓zm6, ↓im6, ss6, ↓vf7, ↓vm7, rf7, rm7, ↓qf7, ↓qm7, ↓zf7, ↓zm7, ↓im7, ss7, ↓vf8, ↓vm8, rf8, rm8, ↓qf8, ↓qm8, ↓zf8, ↓zm8, ↓im8, ss8, ↓vf9, ↓vm9, rf9, rm9, ↓qf9, ↓qm9, ↓zf9, ↓zm9, ↓im9, ss9, ↓vf10, ↓vm10, rf10, rm10, ↓qf10, ↓qm10, ↓zf10, ↓zm10, ↓im10, ss10, S0f1f2t0_law, S0f1f5t0_law, S0f1f7t0_law, S0f1f0_law, S0f1f1_law, S0f1f2_law, S0f1f3_law, S0f1f4_law, S0f1f5_law, S0f1f6_law, S0f1f7_law, S0f0_law, S0f1_law, S0_law, S1_law, U0f1f2t0_law, U0f1f5t0_law, U0f1f7t0_law, U0f1f7_law, U0f1f6_law, U0f1f5_law, U0f1f4_law, U0f1f3_law, U0f1f2_law, U0f1f1_law, U0f1f0_law, U0f1_law, U0f0_law, U1_law, U0_law]); (try simp only [T.bind_ret]); exact rfl) ?_); (try (with_reducible refine al_nx ?_))
  refine al_by (law_pick_all _ (by decide) (by decide)) fun odd ho => ?_
  (try refine al_rd _ (by (simp -dsimp only [↓fBin_b, ↓fUn_b, ↓fTru_b, ↓fBlT_b, ↓fNotT_b, ↓fOrT_b, ↓fAnd_b, ↓fNot_b, ↓fIf_b, ↓lCons_b, ↓fTup_b, ↓fSl_b, ↓fCall_b, ↓sSeq_b, ↓sExpr_b, ↓sRet_b, ↓sIf_b, ↓sSet_b, ↓sAsg_b, ↓iSeq_b, ↓iRange1_b, ↓sFor_b, ↓fNew_b, ↓nLst_b, ↓nList_b, ↓fAppend_b, ↓fPopAt_b, ↓nLc_b, ↓nListRange_b, ↓sPar_b, ↓sParE_b, ↓sParN_b, ↓sFldSet_b, ↓fC_b, ↓lNil_b, ↓sNil_b, ↓fYes_b, ↓tgName_b, ↓tgNil_b, ↓tgCons_b, ↓tgTup_b, ↓lcRun_b, ↓fPart_n, ↓fPart_s, ↓frz_val, ↓lrs_val, ↓liftS_b, ↓liftN_b, ↓seqOf_t_b, ↓seqOf_l_b, ↓lstOf_l_b, ↓intOf_i_b, ↓blOf_b_b, ↓tru_n_b, ↓tru_b_b, ↓tru_i_b, ↓tru_t_b, ↓tru_l_b, ↓pLen_t_b, ↓pLen_l_b, ↓pLen_s_b, ↓pTuple_t_b, ↓pTuple_l_b, ↓pAdd_i_b, ↓pNeg_i_b, ↓pLt_i_b, ↓pGt_i_b, ↓pGe_i_b, ↓pMax2_i_b, ↓pMin2_i_b, ↓pIs_nn_b, ↓pIs_in_b, ↓pIs_tn_b, ↓pIs_ln_b, ↓pIs_bn_b, ↓pIs_bb_b, ↓pNotIs_nn_b, ↓pNotIs_in_b, ↓pNotIs_tn_b, ↓pNotIs_ln_b, ↓pNotIs_bn_b, ↓pNotIs_bb_b, ↓pCut_t_b, ↓pCut_l_b, ↓atI_0_b, ↓atI_1_b, ↓atI_2_b, ↓atI_3_b, ↓lg0_b, ↓lg1_b, ↓lg2_b, ↓lg3_b, ↓isi_bl_int_b, ↓isi_bl_bool_b, ↓isi_bl_tuple_b, ↓isi2_bl_b, ↓isi_int_int_b, ↓isi_int_bool_b, ↓isi_int_tuple_b, ↓isi2_int_b, ↓isi_str_int_b, ↓isi_str_bool_b, ↓isi_str_tuple_b, ↓isi2_str_b, ↓isi_tup_int_b, ↓isi_tup_bool_b, ↓isi_tup_tuple_b, ↓isi2_tup_b, ↓isi_lst_int_b, ↓isi_lst_bool_b, ↓isi_lst_tuple_b, ↓isi2_lst_b, rs_val, outV_rt, outV_nx, backE_n, backE_u, wipeE_n, wipeE_u, froOf_f, froOf_u, seqOf_t, seqOf_l, lstOf_l, intOf_i, blOf_b, tru_n, tru_b, tru_i, tru_t, tru_l, pLen_t, pLen_l, pLen_s, pTuple_t, pTuple_l, pAdd_i, pNeg_i, pLt_i, pGt_i, pGe_i, pMax2_i, pMin2_i, pIs_nn, pIs_in, pIs_tn, pIs_ln, pIs_bn, pIs_bb, pNotIs_nn, pNotIs_in, pNotIs_tn, pNotIs_ln, pNotIs_bn, pNotIs_bb, pCut_t, pCut_l, atI_0, atI_1, atI_2, atI_3, lg0, lg1, lg2, lg3, isi_bl_int, isi_bl_bool, isi_bl_tuple, isi2_bl, isi_int_int, isi_int_bool, isi_int_tuple, isi2_int, isi_str_int, isi_str_bool, isi_str_tuple, isi2_str, isi_tup_int, isi_tup_bool, isi_tup_tuple, isi2_tup, isi_lst_int, isi_lst_bool, isi_lst_tuple, isi2_lst, pIx_t, pIx_l, pAdd_t, pAdd_l, ↓keyOf1_ib, keyOf1_i, ↓T.bind_assoc, bind_ret', bind_bad', bind_exc', bind_draw', lift_some, lift_none', big, below62', below24', below64', below29', mul_ok, div_ok, mod_ok, ↓sRaise_b, ↓sTryB_b, mDrop_b, ↓mArgs_bb, mArgs_b, mIfX_b, mIfS_b, envB_self, tryT_ret, tryT_exc, tryT_draw, List.length_cons, List.length_nil, List.map_cons, List.map_nil, List.append_nil, List.nil_append, List.cons_append, List.replicate_succ, List.replicate_zero, List.isEmpty_nil, List.isEmpty_cons, Option.map_some, Option.map_none, Option.bind_some, Option.bind_none, true_and, and_true, and_self, false_and, and_false, true_or, or_true, false_or, or_false, not_true_eq_false, not_false_eq_true, Bool.not_true, Bool.not_false, Bool.true_and, Bool.and_true, Bool.false_and, Bool.and_false, Bool.true_or, Bool.or_true, Bool.or_false, Bool.false_or, decide_true, decide_false, decide_eq_true_eq, decide_eq_false_iff_not, if_true, if_false, ite_true, ite_false, ↓reduceIte, Int.natCast_nonneg, Nat.reduceLT, Nat.reduceLeDiff, Nat.reduceEqDiff, Nat.reduceSub, Nat.reduceMul, Int.reduceLT, Int.reduceLE, Int.reduceEq, Int.reduceAdd, Int.reduceSub, Int.reduceMul, Int.reduceNeg, Int.reducePow, List.length_map, List.length_range, eq_self, ne_eq, Classical.not_not, Bool.not_eq_true, Bool.not_eq_false, Bool.false_eq_true, reduceCtorEq, Int.toNat_natCast, Nat.add_eq, Nat.reduceAdd, Int.cast_ofNat_Int, Int.reduceToNat, Int.zero_add, Int.add_zero, Nat.zero_add, Nat.add_zero, Nat.sub_zero, Int.sub_zero, Int.natCast_zero, Int.natCast_one, Int.natCast_add, Int.natCast_succ, beq_self_eq_true, Bool.decide_eq_true, Bool.decide_eq_false, ↓vf0, ↓vm0, rf0, rm0, ↓qf0, ↓qm0, ↓zf0, ↓zm0, ↓im0, ss0, ↓imd0, ↓vf1, ↓vm1, rf1, rm1, ↓qf1, ↓qm1, ↓zf1, ↓zm1, ↓im1, ss1, ↓imd1, ↓vf2, ↓vm2, rf2, rm2, ↓qf2, ↓qm2, ↓zf2, ↓zm2, ↓im2, ss2, ↓imd2, ↓vf3, ↓vm3, rf3, rm3, ↓qf3, ↓qm3, ↓zf3, ↓zm3, ↓im3, ss3, ↓imd3, ↓vf4, ↓vm4, rf4, rm4, ↓qf4, ↓qm4, ↓zf4, ↓zm4, ↓im4, ss4, ↓imd4, ↓vf5, ↓vm5, rf5, rm5, ↓qf5, ↓qm5, ↓zf5, ↓zm5, ↓im5, ss5, ↓imd5, ↓vf6, ↓vm6, rf6, rm6, ↓qf6, ↓qm6, ↓zf6, ↓zm6, ↓im6, ss6, ↓imd6, ↓vf7, ↓vm7, rf7, rm7, ↓qf7, ↓qm7, ↓zf7, ↓zm7, ↓im7, ss7, ↓imd7, ↓vf8, ↓vm8, rf8, rm8, ↓qf8, ↓qm8, ↓zf8, ↓zm8, ↓im8, ss8, ↓imd8, ↓vf9, ↓vm9, rf9, rm9, ↓qf9, ↓qm9, ↓zf9, ↓zm9, ↓im9, ss9, ↓imd9, ↓vf10, ↓vm10, rf10, rm10, ↓qf10, ↓qm10, ↓zf10, ↓zm10, ↓im10, ss10, ↓imd10]); (try simp only [T.bind_ret]); exact rfl) ?_); (try (with_reducible refine al_nx ?_))
  have po : f_law_heard [odd, .lst bent] = .ret (.str "places") := by
    refine heard_exc (rota_p ?_)
    simp only [List.mem_cons, List.not_mem_nil, or_false] at ho
    rcases ho with rfl | rfl | rfl | rfl | rfl | rfl
    all_goals exact (is_whole_o rfl).trans rfl
  (simp only [U0f1f2t0_law, U0f1f5t0_law, U0f1f7t0_law, U0f1f7_law, U0f1f6_law, U0f1f5_law, U0f1f4_law, U0f1f3_law, U0f1f2_law, U0f1f1_law, U0f1f0_law, U0f1_law, U0f0_law, U1_law, U0_law, al_seq, nx_nx, lq_nx]; refine al_rd _ (by (simp -dsimp only [↓fBin_b, ↓fUn_b, ↓fBlT_b, ↓fOrT_b, ↓fAnd_b, ↓lCons_b, ↓fTup_b, ↓fSl_b, ↓fCall_b, ↓sSeq_b, ↓sRet_b, ↓sIf_b, ↓sSet_b, ↓iSeq_b, ↓iRange1_b, ↓sFor_b, ↓fNew_b, ↓nLst_b, ↓nLc_b, ↓fC_b, ↓lNil_b, ↓sNil_b, ↓fYes_b, ↓tgName_b, ↓tgNil_b, ↓tgCons_b, ↓tgTup_b, ↓lcRun_b, ↓fPart_n, ↓fPart_s, ↓frz_val, ↓lrs_val, ↓liftS_b, ↓liftN_b, ↓seqOf_t_b, ↓seqOf_l_b, ↓lstOf_l_b, ↓intOf_i_b, ↓blOf_b_b, ↓tru_n_b, ↓tru_b_b, ↓tru_i_b, ↓tru_t_b, ↓tru_l_b, ↓pLen_t_b, ↓pLen_l_b, ↓pLen_s_b, ↓pTuple_t_b, ↓pTuple_l_b, ↓pAdd_i_b, ↓pNeg_i_b, ↓pMax2_i_b, ↓pMin2_i_b, ↓pIs_nn_b, ↓pIs_in_b, ↓pIs_tn_b, ↓pIs_ln_b, ↓pIs_bn_b, ↓pIs_bb_b, ↓pNotIs_nn_b, ↓pNotIs_in_b, ↓pNotIs_tn_b, ↓pNotIs_ln_b, ↓pNotIs_bn_b, ↓pNotIs_bb_b, ↓pCut_t_b, ↓pCut_l_b, ↓atI_0_b, ↓atI_1_b, ↓atI_2_b, ↓atI_3_b, ↓lg0_b, ↓lg1_b, ↓lg2_b, ↓lg3_b, rs_val, outV_rt, outV_nx, backE_n, backE_u, wipeE_n, wipeE_u, froOf_f, froOf_u, seqOf_t, seqOf_l, lstOf_l, intOf_i, blOf_b, tru_n, tru_b, tru_i, tru_t, tru_l, pLen_t, pLen_l, pLen_s, pTuple_t, pTuple_l, pAdd_i, pNeg_i, pMax2_i, pMin2_i, pIs_nn, pIs_in, pIs_tn, pIs_ln, pIs_bn, pIs_bb, pNotIs_nn, pNotIs_in, pNotIs_tn, pNotIs_ln, pNotIs_bn, pNotIs_bb, pCut_t, pCut_l, atI_0, atI_1, atI_2, atI_3, lg0, lg1, lg2, lg3, pIx_t, pIx_l, pAdd_t, pAdd_l, ↓keyOf1_ib, keyOf1_i, ↓T.bind_assoc, bind_ret', bind_bad', bind_exc', bind_draw', lift_some, lift_none', big, below62', below24', below64', below29', mul_ok, div_ok, mod_ok, ↓mArgs_bb, envB_self, tryT_ret, tryT_exc, tryT_draw, List.length_cons, List.length_nil, List.map_cons, List.map_nil, List.append_nil, List.nil_append, List.cons_append, List.replicate_succ, List.replicate_zero, List.isEmpty_nil, List.isEmpty_cons, Option.map_some, Option.map_none, Option.bind_some, Option.bind_none, true_and, and_true, and_self, false_and, and_false, true_or, or_true, false_or, or_false, not_true_eq_false, not_false_eq_true, Bool.not_true, Bool.not_false, Bool.true_and, Bool.and_true, Bool.false_and, Bool.and_false, Bool.true_or, Bool.or_true, Bool.or_false, Bool.false_or, decide_true, decide_false, decide_eq_true_eq, decide_eq_false_iff_not, if_true, if_false, ite_true, ite_false, ↓reduceIte, Int.natCast_nonneg, Nat.reduceLT, Nat.reduceLeDiff, Nat.reduceEqDiff, Nat.reduceSub, Nat.reduceMul, Int.reduceLT, Int.reduceLE, Int.reduceEq, Int.reduceAdd, Int.reduceSub, Int.reduceMul, Int.reduceNeg, Int.reducePow, List.length_map, List.length_range, eq_self, ne_eq, Classical.not_not, Bool.not_eq_true, Bool.not_eq_false, Bool.false_eq_true, reduceCtorEq, Int.toNat_natCast, Nat.add_eq, Nat.reduceAdd, Int.cast_ofNat_Int, Int.reduceToNat, Int.zero_add, Int.add_zero, Nat.zero_add, Nat.add_zero, Nat.sub_zero, Int.sub_zero, Int.natCast_zero, Int.natCast_one, Int.natCast_add, Int.natCast_succ, beq_self_eq_true, Bool.decide_eq_true, Bool.decide_eq_false, ↓vf0, ↓vm0, rf0, rm0, ↓qf0, ↓qm0, ↓zf0, ↓zm0, ↓im0, ss0, ↓vf1, ↓vm1, rf1, rm1, ↓qf1, ↓qm1, ↓zf1, ↓zm1, ↓im1, ss1, ↓vf2, ↓vm2, rf2, rm2, ↓qf2, ↓qm2, ↓zf2, ↓zm2, ↓im2, ss2, ↓vf3, ↓vm3, rf3, rm3, ↓qf3, ↓qm3, ↓zf3, ↓zm3, ↓im3, ss3, ↓vf4, ↓vm4, rf4, rm4, ↓qf4, ↓qm4, ↓zf4, ↓zm4, ↓im4, ss4, ↓vf5, ↓vm5, rf5, rm5, ↓qf5, ↓qm5, ↓zf5, ↓zm5, ↓im5, ss5, ↓vf6, ↓vm6, rf6, rm6, ↓qf6, ↓qm6, ↓zf6, ↓zm6, ↓im6, ss6, ↓vf7, ↓vm7, rf7, rm7, ↓qf7, ↓qm7, ↓zf7, ↓zm7, ↓im7, ss7, ↓vf8, ↓vm8, rf8, rm8, ↓qf8, ↓qm8, ↓zf8, ↓zm8, ↓im8, ss8, ↓vf9, ↓vm9, rf9, rm9, ↓qf9, ↓qm9, ↓zf9, ↓zm9, ↓im9, ss9, ↓vf10, ↓vm10, rf10, rm10, ↓qf10, ↓qm10, ↓zf10, ↓zm10, ↓im10, ss10, S0f1f2t0_law, S0f1f5t0_law, S0f1f7t0_law, S0f1f0_law, S0f1f1_law, S0f1f2_law, S0f1f3_law, S0f1f4_law, S0f1f5_law, S0f1f6_law, S0f1f7_law, S0f0_law, S0f1_law, S0_law, S1_law, U0f1f2t0_law, U0f1f5t0_law, U0f1f7t0_law, U0f1f7_law, U0f1f6_law, U0f1f5_law, U0f1f4_law, U0f1f3_law, U0f1f2_law, U0f1f1_law, U0f1f0_law, U0f1_law, U0f0_law, U1_law, U0_law, po, np]); (try simp only [T.bind_ret]); exact rfl) ?_); (try (with_reducible refine al_nx ?_))
  refine al_by law_value_all fun v hv => ?_
  have pv : f_law_heard [.int n, v] = .ret (.str "rows") := heard_exc (rota_r wn (val_rows hv))
  (try refine al_rd _ (by (simp -dsimp only [↓fBin_b, ↓fUn_b, ↓fTru_b, ↓fBlT_b, ↓fNotT_b, ↓fOrT_b, ↓fAnd_b, ↓fNot_b, ↓fIf_b, ↓lCons_b, ↓fTup_b, ↓fSl_b, ↓fCall_b, ↓sSeq_b, ↓sExpr_b, ↓sRet_b, ↓sIf_b, ↓sSet_b, ↓sAsg_b, ↓iSeq_b, ↓iRange1_b, ↓sFor_b, ↓fNew_b, ↓nLst_b, ↓nList_b, ↓fAppend_b, ↓fPopAt_b, ↓nLc_b, ↓nListRange_b, ↓sPar_b, ↓sParE_b, ↓sParN_b, ↓sFldSet_b, ↓fC_b, ↓lNil_b, ↓sNil_b, ↓fYes_b, ↓tgName_b, ↓tgNil_b, ↓tgCons_b, ↓tgTup_b, ↓lcRun_b, ↓fPart_n, ↓fPart_s, ↓frz_val, ↓lrs_val, ↓liftS_b, ↓liftN_b, ↓seqOf_t_b, ↓seqOf_l_b, ↓lstOf_l_b, ↓intOf_i_b, ↓blOf_b_b, ↓tru_n_b, ↓tru_b_b, ↓tru_i_b, ↓tru_t_b, ↓tru_l_b, ↓pLen_t_b, ↓pLen_l_b, ↓pLen_s_b, ↓pTuple_t_b, ↓pTuple_l_b, ↓pAdd_i_b, ↓pNeg_i_b, ↓pLt_i_b, ↓pGt_i_b, ↓pGe_i_b, ↓pMax2_i_b, ↓pMin2_i_b, ↓pIs_nn_b, ↓pIs_in_b, ↓pIs_tn_b, ↓pIs_ln_b, ↓pIs_bn_b, ↓pIs_bb_b, ↓pNotIs_nn_b, ↓pNotIs_in_b, ↓pNotIs_tn_b, ↓pNotIs_ln_b, ↓pNotIs_bn_b, ↓pNotIs_bb_b, ↓pCut_t_b, ↓pCut_l_b, ↓atI_0_b, ↓atI_1_b, ↓atI_2_b, ↓atI_3_b, ↓lg0_b, ↓lg1_b, ↓lg2_b, ↓lg3_b, ↓isi_bl_int_b, ↓isi_bl_bool_b, ↓isi_bl_tuple_b, ↓isi2_bl_b, ↓isi_int_int_b, ↓isi_int_bool_b, ↓isi_int_tuple_b, ↓isi2_int_b, ↓isi_str_int_b, ↓isi_str_bool_b, ↓isi_str_tuple_b, ↓isi2_str_b, ↓isi_tup_int_b, ↓isi_tup_bool_b, ↓isi_tup_tuple_b, ↓isi2_tup_b, ↓isi_lst_int_b, ↓isi_lst_bool_b, ↓isi_lst_tuple_b, ↓isi2_lst_b, rs_val, outV_rt, outV_nx, backE_n, backE_u, wipeE_n, wipeE_u, froOf_f, froOf_u, seqOf_t, seqOf_l, lstOf_l, intOf_i, blOf_b, tru_n, tru_b, tru_i, tru_t, tru_l, pLen_t, pLen_l, pLen_s, pTuple_t, pTuple_l, pAdd_i, pNeg_i, pLt_i, pGt_i, pGe_i, pMax2_i, pMin2_i, pIs_nn, pIs_in, pIs_tn, pIs_ln, pIs_bn, pIs_bb, pNotIs_nn, pNotIs_in, pNotIs_tn, pNotIs_ln, pNotIs_bn, pNotIs_bb, pCut_t, pCut_l, atI_0, atI_1, atI_2, atI_3, lg0, lg1, lg2, lg3, isi_bl_int, isi_bl_bool, isi_bl_tuple, isi2_bl, isi_int_int, isi_int_bool, isi_int_tuple, isi2_int, isi_str_int, isi_str_bool, isi_str_tuple, isi2_str, isi_tup_int, isi_tup_bool, isi_tup_tuple, isi2_tup, isi_lst_int, isi_lst_bool, isi_lst_tuple, isi2_lst, pIx_t, pIx_l, pAdd_t, pAdd_l, ↓keyOf1_ib, keyOf1_i, ↓T.bind_assoc, bind_ret', bind_bad', bind_exc', bind_draw', lift_some, lift_none', big, below62', below24', below64', below29', mul_ok, div_ok, mod_ok, ↓sRaise_b, ↓sTryB_b, mDrop_b, ↓mArgs_bb, mArgs_b, mIfX_b, mIfS_b, envB_self, tryT_ret, tryT_exc, tryT_draw, List.length_cons, List.length_nil, List.map_cons, List.map_nil, List.append_nil, List.nil_append, List.cons_append, List.replicate_succ, List.replicate_zero, List.isEmpty_nil, List.isEmpty_cons, Option.map_some, Option.map_none, Option.bind_some, Option.bind_none, true_and, and_true, and_self, false_and, and_false, true_or, or_true, false_or, or_false, not_true_eq_false, not_false_eq_true, Bool.not_true, Bool.not_false, Bool.true_and, Bool.and_true, Bool.false_and, Bool.and_false, Bool.true_or, Bool.or_true, Bool.or_false, Bool.false_or, decide_true, decide_false, decide_eq_true_eq, decide_eq_false_iff_not, if_true, if_false, ite_true, ite_false, ↓reduceIte, Int.natCast_nonneg, Nat.reduceLT, Nat.reduceLeDiff, Nat.reduceEqDiff, Nat.reduceSub, Nat.reduceMul, Int.reduceLT, Int.reduceLE, Int.reduceEq, Int.reduceAdd, Int.reduceSub, Int.reduceMul, Int.reduceNeg, Int.reducePow, List.length_map, List.length_range, eq_self, ne_eq, Classical.not_not, Bool.not_eq_true, Bool.not_eq_false, Bool.false_eq_true, reduceCtorEq, Int.toNat_natCast, Nat.add_eq, Nat.reduceAdd, Int.cast_ofNat_Int, Int.reduceToNat, Int.zero_add, Int.add_zero, Nat.zero_add, Nat.add_zero, Nat.sub_zero, Int.sub_zero, Int.natCast_zero, Int.natCast_one, Int.natCast_add, Int.natCast_succ, beq_self_eq_true, Bool.decide_eq_true, Bool.decide_eq_false, ↓vf0, ↓vm0, rf0, rm0, ↓qf0, ↓qm0, ↓zf0, ↓zm0, ↓im0, ss0, ↓imd0, ↓vf1, ↓vm1, rf1, rm1, ↓qf1, ↓qm1, ↓zf1, ↓zm1, ↓im1, ss1, ↓imd1, ↓vf2, ↓vm2, rf2, rm2, ↓qf2, ↓qm2, ↓zf2, ↓zm2, ↓im2, ss2, ↓imd2, ↓vf3, ↓vm3, rf3, rm3, ↓qf3, ↓qm3, ↓zf3, ↓zm3, ↓im3, ss3, ↓imd3, ↓vf4, ↓vm4, rf4, rm4, ↓qf4, ↓qm4, ↓zf4, ↓zm4, ↓im4, ss4, ↓imd4, ↓vf5, ↓vm5, rf5, rm5, ↓qf5, ↓qm5, ↓zf5, ↓zm5, ↓im5, ss5, ↓imd5, ↓vf6, ↓vm6, rf6, rm6, ↓qf6, ↓qm6, ↓zf6, ↓zm6, ↓im6, ss6, ↓imd6, ↓vf7, ↓vm7, rf7, rm7, ↓qf7, ↓qm7, ↓zf7, ↓zm7, ↓im7, ss7, ↓imd7, ↓vf8, ↓vm8, rf8, rm8, ↓qf8, ↓qm8, ↓zf8, ↓zm8, ↓im8, ss8, ↓imd8, ↓vf9, ↓vm9, rf9, rm9, ↓qf9, ↓qm9, ↓zf9, ↓zm9, ↓im9, ss9, ↓imd9, ↓vf10, ↓vm10, rf10, rm10, ↓qf10, ↓qm10, ↓zf10, ↓zm10, ↓im10, ss10, ↓imd10, pv, nr]); (try simp only [T.bind_ret]); exact rfl) ?_); (try (with_reducible refine al_nx ?_))
  exact al_endL ⟨_, _, _, _, _, _, _, rfl⟩
end K03
set_option Elab.async false
set_option linter.all false
set_option maxRecDepth 100000
set_option maxHeartbeats 0
namespace K03
open PySem PySem.Spec PyProof.Rows L2 Dn
theorem all_mk {l : PySem.W.OpenLaw} {w : World} {K : PySem.W.Frag} {h : Heap} {mg : Str → Option Value} {fa f1 f2 f3 f4 f5 f6 f7 f8 f9 f10 f11 f12 f13 f14 f15 f16 f17 : Addr} {C_Rota : Addr} {C_TurnError : Addr} {C_InvalidRota : Addr} {C_InvalidSeason : Addr} (X : K.In h) (G : h.Ns mainGlobals mg) (hfa : mg "law" = some (.ref fa))
    {od1 an1 od2 an2 od3 an3 od4 an4 od5 an5 od6 an6 od7 an7 od8 an8 od9 an9 od10 an10 od11 an11 od12 an12 od13 an13 od14 an14 od15 an15 od16 an16 od17 an17 : Option Addr} {sl1 sl2 sl3 sl4 sl5 sl6 sl7 sl8 sl9 sl10 sl11 sl12 sl13 sl14 sl15 sl16 sl17 : Array (Option Value)} {oc1 kV1 dc1 pm1 cd1 ct1 oc2 kV2 dc2 pm2 cd2 ct2 oc3 kV3 dc3 pm3 cd3 ct3 oc4 kV4 dc4 pm4 cd4 ct4 oc5 kV5 dc5 pm5 cd5 ct5 oc6 kV6 dc6 pm6 cd6 ct6 oc7 kV7 dc7 pm7 cd7 ct7 oc8 kV8 dc8 pm8 cd8 ct8 oc9 kV9 dc9 pm9 cd9 ct9 oc10 kV10 dc10 pm10 cd10 ct10 oc11 kV11 dc11 pm11 cd11 ct11 oc12 kV12 dc12 pm12 cd12 ct12 oc13 kV13 dc13 pm13 cd13 ct13 oc14 kV14 dc14 pm14 cd14 ct14 oc15 kV15 dc15 pm15 cd15 ct15 oc16 kV16 dc16 pm16 cd16 ct16 oc17 kV17 dc17 pm17 cd17 ct17 : Value}
    (aC_Rota : PySem.W.nsIn K mainGlobals "Rota" = some (some (.ref C_Rota))) (pg_Rota : PySem.W.plainGet K C_Rota Str.empty = true) (hd_Rota : PySem.W.hasDictIn K C_Rota = true) (po_Rota : PySem.W.plainOver K C_Rota = true) (sa_Rota : PySem.W.findIn K (.ref C_Rota) "__setattr__" = some (some (.builtin "object.__setattr__"))) (mk_Rota : PySem.W.makesIn K C_Rota = true) (kc_Rota : PySem.W.keepIn K (.ref C_Rota) = true) (n_Rota_places : PySem.W.findIn K (.ref C_Rota) "places" = some none) (n_Rota_rows : PySem.W.findIn K (.ref C_Rota) "rows" = some none)
    (a1 : PySem.W.nsIn K mainGlobals "_law_box" = some (some (.ref f1))) (l1 : K.lookup f1 = some ⟨oc1, od1, .func (PySem.W.fnOf "_law_box" "_law_box" (defArgs s_law_box) (defBody s_law_box) (defScope s_law_box) .none kV1 dc1 pm1 an1 cd1 ct1), sl1⟩) (c1 : PySem.W.codeIn K cd1 "_law_box" = true) (k1 : PySem.W.keepIn K (.ref f1) = true)
    (a2 : PySem.W.nsIn K mainGlobals "_law_take" = some (some (.ref f2))) (l2 : K.lookup f2 = some ⟨oc2, od2, .func (PySem.W.fnOf "_law_take" "_law_take" (defArgs s_law_take) (defBody s_law_take) (defScope s_law_take) .none kV2 dc2 pm2 an2 cd2 ct2), sl2⟩) (c2 : PySem.W.codeIn K cd2 "_law_take" = true) (k2 : PySem.W.keepIn K (.ref f2) = true)
    (a3 : PySem.W.nsIn K mainGlobals "_law_mixed" = some (some (.ref f3))) (l3 : K.lookup f3 = some ⟨oc3, od3, .func (PySem.W.fnOf "_law_mixed" "_law_mixed" (defArgs s_law_mixed) (defBody s_law_mixed) (defScope s_law_mixed) .none kV3 dc3 pm3 an3 cd3 ct3), sl3⟩) (c3 : PySem.W.codeIn K cd3 "_law_mixed" = true) (k3 : PySem.W.keepIn K (.ref f3) = true)
    (a4 : PySem.W.nsIn K mainGlobals "_law_rota" = some (some (.ref f4))) (l4 : K.lookup f4 = some ⟨oc4, od4, .func (PySem.W.fnOf "_law_rota" "_law_rota" (defArgs s_law_rota) (defBody s_law_rota) (defScope s_law_rota) .none kV4 dc4 pm4 an4 cd4 ct4), sl4⟩) (c4 : PySem.W.codeIn K cd4 "_law_rota" = true) (k4 : PySem.W.keepIn K (.ref f4) = true)
    (a5 : PySem.W.nsIn K mainGlobals "_law_pick" = some (some (.ref f5))) (l5 : K.lookup f5 = some ⟨oc5, od5, .func (PySem.W.fnOf "_law_pick" "_law_pick" (defArgs s_law_pick) (defBody s_law_pick) (defScope s_law_pick) .none kV5 dc5 pm5 an5 cd5 ct5), sl5⟩) (c5 : PySem.W.codeIn K cd5 "_law_pick" = true) (k5 : PySem.W.keepIn K (.ref f5) = true)
    (a6 : PySem.W.nsIn K mainGlobals "is_integer" = some (some (.ref f6))) (l6 : K.lookup f6 = some ⟨oc6, od6, .func (PySem.W.fnOf "is_integer" "is_integer" (defArgs s_is_integer) (defBody s_is_integer) (defScope s_is_integer) .none kV6 dc6 pm6 an6 cd6 ct6), sl6⟩) (c6 : PySem.W.codeIn K cd6 "is_integer" = true) (k6 : PySem.W.keepIn K (.ref f6) = true)
    (a7 : PySem.W.nsIn K mainGlobals "is_whole" = some (some (.ref f7))) (l7 : K.lookup f7 = some ⟨oc7, od7, .func (PySem.W.fnOf "is_whole" "is_whole" (defArgs s_is_whole) (defBody s_is_whole) (defScope s_is_whole) .none kV7 dc7 pm7 an7 cd7 ct7), sl7⟩) (c7 : PySem.W.codeIn K cd7 "is_whole" = true) (k7 : PySem.W.keepIn K (.ref f7) = true)
    (a8 : PySem.W.nsIn K mainGlobals "is_sequence" = some (some (.ref f8))) (l8 : K.lookup f8 = some ⟨oc8, od8, .func (PySem.W.fnOf "is_sequence" "is_sequence" (defArgs s_is_sequence) (defBody s_is_sequence) (defScope s_is_sequence) .none kV8 dc8 pm8 an8 cd8 ct8), sl8⟩) (c8 : PySem.W.codeIn K cd8 "is_sequence" = true) (k8 : PySem.W.keepIn K (.ref f8) = true)
    (a9 : PySem.W.nsIn K mainGlobals "is_below" = some (some (.ref f9))) (l9 : K.lookup f9 = some ⟨oc9, od9, .func (PySem.W.fnOf "is_below" "is_below" (defArgs s_is_below) (defBody s_is_below) (defScope s_is_below) .none kV9 dc9 pm9 an9 cd9 ct9), sl9⟩) (c9 : PySem.W.codeIn K cd9 "is_below" = true) (k9 : PySem.W.keepIn K (.ref f9) = true)
    (a10 : PySem.W.nsIn K mainGlobals "are_spots" = some (some (.ref f10))) (l10 : K.lookup f10 = some ⟨oc10, od10, .func (PySem.W.fnOf "are_spots" "are_spots" (defArgs s_are_spots) (defBody s_are_spots) (defScope s_are_spots) .none kV10 dc10 pm10 an10 cd10 ct10), sl10⟩) (c10 : PySem.W.codeIn K cd10 "are_spots" = true) (k10 : PySem.W.keepIn K (.ref f10) = true)
    (a11 : PySem.W.nsIn K mainGlobals "is_row" = some (some (.ref f11))) (l11 : K.lookup f11 = some ⟨oc11, od11, .func (PySem.W.fnOf "is_row" "is_row" (defArgs s_is_row) (defBody s_is_row) (defScope s_is_row) .none kV11 dc11 pm11 an11 cd11 ct11), sl11⟩) (c11 : PySem.W.codeIn K cd11 "is_row" = true) (k11 : PySem.W.keepIn K (.ref f11) = true)
    (a12 : PySem.W.nsIn K mainGlobals "are_rows" = some (some (.ref f12))) (l12 : K.lookup f12 = some ⟨oc12, od12, .func (PySem.W.fnOf "are_rows" "are_rows" (defArgs s_are_rows) (defBody s_are_rows) (defScope s_are_rows) .none kV12 dc12 pm12 an12 cd12 ct12), sl12⟩) (c12 : PySem.W.codeIn K cd12 "are_rows" = true) (k12 : PySem.W.keepIn K (.ref f12) = true)
    (a13 : PySem.W.findIn K (.ref C_Rota) "__init__" = some (some (.ref f13))) (i13 : PySem.W.isFn K (.ref f13) = true) (l13 : K.lookup f13 = some ⟨oc13, od13, .func (PySem.W.fnOf "__init__" "Rota.__init__" (defArgs s_Rota_init) (defBody s_Rota_init) (defScope s_Rota_init) .none kV13 dc13 pm13 an13 cd13 ct13), sl13⟩) (c13 : PySem.W.codeIn K cd13 "Rota.__init__" = true) (k13 : PySem.W.keepIn K (.ref f13) = true)
    (a14 : PySem.W.nsIn K mainGlobals "_law_heard" = some (some (.ref f14))) (l14 : K.lookup f14 = some ⟨oc14, od14, .func (PySem.W.fnOf "_law_heard" "_law_heard" (defArgs s_law_heard) (defBody s_law_heard) (defScope s_law_heard) .none kV14 dc14 pm14 an14 cd14 ct14), sl14⟩) (c14 : PySem.W.codeIn K cd14 "_law_heard" = true) (k14 : PySem.W.keepIn K (.ref f14) = true)
    (a15 : PySem.W.nsIn K mainGlobals "_law_wrong" = some (some (.ref f15))) (l15 : K.lookup f15 = some ⟨oc15, od15, .func (PySem.W.fnOf "_law_wrong" "_law_wrong" (defArgs s_law_wrong) (defBody s_law_wrong) (defScope s_law_wrong) .none kV15 dc15 pm15 an15 cd15 ct15), sl15⟩) (c15 : PySem.W.codeIn K cd15 "_law_wrong" = true) (k15 : PySem.W.keepIn K (.ref f15) = true)
    (a16 : PySem.W.nsIn K mainGlobals "_law_value" = some (some (.ref f16))) (l16 : K.lookup f16 = some ⟨oc16, od16, .func (PySem.W.fnOf "_law_value" "_law_value" (defArgs s_law_value) (defBody s_law_value) (defScope s_law_value) .none kV16 dc16 pm16 an16 cd16 ct16), sl16⟩) (c16 : PySem.W.codeIn K cd16 "_law_value" = true) (k16 : PySem.W.keepIn K (.ref f16) = true)
    (a17 : PySem.W.nsIn K mainGlobals "law" = some (some (.ref f17))) (l17 : K.lookup f17 = some ⟨oc17, od17, .func (PySem.W.fnOf "law" "law" (defArgs s_law) (defBody s_law) (defScope s_law) .none kV17 dc17 pm17 an17 cd17 ct17), sl17⟩) (c17 : PySem.W.codeIn K cd17 "law" = true) (k17 : PySem.W.keepIn K (.ref f17) = true)
    (aC_TurnError : PySem.W.nsIn K mainGlobals "TurnError" = some (some (.ref C_TurnError)))
    {cd_TurnError : ClassData} (cl_TurnError : PySem.W.clsIn K C_TurnError = some cd_TurnError)
    (ty_TurnError : PySem.W.typeIn K (.ref C_TurnError) = some (.type "type")) (eB_TurnError : PySem.W.subIn K (.ref C_TurnError) (.type "BaseException") = some true)
    (aC_InvalidRota : PySem.W.nsIn K mainGlobals "InvalidRota" = some (some (.ref C_InvalidRota)))
    {cd_InvalidRota : ClassData} (cl_InvalidRota : PySem.W.clsIn K C_InvalidRota = some cd_InvalidRota)
    (ty_InvalidRota : PySem.W.typeIn K (.ref C_InvalidRota) = some (.type "type")) (eB_InvalidRota : PySem.W.subIn K (.ref C_InvalidRota) (.type "BaseException") = some true)
    (aC_InvalidSeason : PySem.W.nsIn K mainGlobals "InvalidSeason" = some (some (.ref C_InvalidSeason)))
    {cd_InvalidSeason : ClassData} (cl_InvalidSeason : PySem.W.clsIn K C_InvalidSeason = some cd_InvalidSeason)
    (ty_InvalidSeason : PySem.W.typeIn K (.ref C_InvalidSeason) = some (.type "type")) (eB_InvalidSeason : PySem.W.subIn K (.ref C_InvalidSeason) (.type "BaseException") = some true)
    {nm_InvalidRota q_InvalidRota : Str} {N_InvalidRota f_InvalidRota B_InvalidRota_TurnError : Addr} {bs_InvalidRota : List Value} {sn_InvalidRota : List Str} {sub_InvalidRota : List Value} {ab_InvalidRota : Bool} {col_InvalidRota : Option Bool} {dd_InvalidRota : Option Addr} {m0_InvalidRota m1_InvalidRota m2_InvalidRota m3_InvalidRota m5_InvalidRota : Option Value} {od_InvalidRota an_InvalidRota : Option Addr} {sl_InvalidRota : Array (Option Value)} {oc_InvalidRota kV_InvalidRota dc_InvalidRota pm_InvalidRota cdd_InvalidRota ct_InvalidRota : Value}
    (xL_InvalidRota : K.lookup C_InvalidRota = some (excClassObj nm_InvalidRota q_InvalidRota C_InvalidRota N_InvalidRota bs_InvalidRota [.ref B_InvalidRota_TurnError, .type "ValueError", .type "Exception", .type "BaseException", .type "object"] true sn_InvalidRota sub_InvalidRota ab_InvalidRota col_InvalidRota dd_InvalidRota m0_InvalidRota m1_InvalidRota m2_InvalidRota m3_InvalidRota m5_InvalidRota "ValueError.__new__"))
    (sa_InvalidRota : PySem.W.findIn K (.ref C_InvalidRota) "__setattr__" = some (some (.builtin "object.__setattr__"))) (ga_InvalidRota : PySem.W.findIn K (.ref C_InvalidRota) "__getattribute__" = some (some (.builtin "BaseException.__getattribute__"))) (gg_InvalidRota : PySem.W.findIn K (.ref C_InvalidRota) "__getattr__" = some none) (no_InvalidRota : PySem.W.findIn K (.ref C_InvalidRota) "word" = some none) (kc_InvalidRota : PySem.W.keepIn K (.ref C_InvalidRota) = true) (hd_InvalidRota : PySem.W.hasDictIn K C_InvalidRota = true)
    (oa_InvalidRota : PySem.W.findIn K (.ref C_InvalidRota) "__class__" = some (some (.builtin "object.__class__"))) (og_InvalidRota : PySem.W.specialIn K (.builtin "object.__class__") "__get__" = some (some (.builtin "getset_descriptor.__get__"))) (ot_InvalidRota : PySem.W.takesIn K (.builtin "object.__class__") = some true) (om_InvalidRota : PySem.W.mroIn K C_InvalidRota (.type "object") = some true)
    (iC_InvalidRota : PySem.W.findIn K (.ref C_InvalidRota) "__init__" = some (some (.ref f_InvalidRota))) (tI_InvalidRota : PySem.W.typeIn K (.ref f_InvalidRota) = some (.type "function")) (l_InvalidRota : K.lookup f_InvalidRota = some ⟨oc_InvalidRota, od_InvalidRota, .func (PySem.W.fnOf "__init__" "InvalidRota.__init__" (defArgs s_InvalidRota___init__) (defBody s_InvalidRota___init__) (defScope s_InvalidRota___init__) .none kV_InvalidRota dc_InvalidRota pm_InvalidRota an_InvalidRota cdd_InvalidRota ct_InvalidRota), sl_InvalidRota⟩) (c_InvalidRota : PySem.W.codeIn K cdd_InvalidRota "InvalidRota.__init__" = true) (k_InvalidRota : PySem.W.keepIn K (.ref f_InvalidRota) = true)
    (s_Rota_InvalidRota : PySem.W.subIn K (.ref C_Rota) (.ref C_InvalidRota) = some false)
    (s_InvalidRota_InvalidRota : PySem.W.subIn K (.ref C_InvalidRota) (.ref C_InvalidRota) = some true)
    (s_InvalidRota_TurnError : PySem.W.subIn K (.ref C_InvalidRota) (.ref C_TurnError) = some true)
    (s_InvalidRota_InvalidSeason : PySem.W.subIn K (.ref C_InvalidRota) (.ref C_InvalidSeason) = some false)
    (n_InvalidRota_InvalidSeason : (Value.ref C_InvalidRota == Value.ref C_InvalidSeason) = false)
    (z__ : PySem.W.nsIn K mainGlobals "" = some none)
    (z_abs : PySem.W.nsIn K mainGlobals "abs" = some none)
    (z_all : PySem.W.nsIn K mainGlobals "all" = some none)
    (z_bool : PySem.W.nsIn K mainGlobals "bool" = some none)
    (z_int : PySem.W.nsIn K mainGlobals "int" = some none)
    (z_isinstance : PySem.W.nsIn K mainGlobals "isinstance" = some none)
    (z_len : PySem.W.nsIn K mainGlobals "len" = some none)
    (z_list : PySem.W.nsIn K mainGlobals "list" = some none)
    (z_max : PySem.W.nsIn K mainGlobals "max" = some none)
    (z_min : PySem.W.nsIn K mainGlobals "min" = some none)
    (z_range : PySem.W.nsIn K mainGlobals "range" = some none)
    (z_set : PySem.W.nsIn K mainGlobals "set" = some none)
    (z_sorted : PySem.W.nsIn K mainGlobals "sorted" = some none)
    (z_tuple : PySem.W.nsIn K mainGlobals "tuple" = some none)
    : ∃ fd : FuncData, (∀ (s : Shared) (v : Value), BindsTo s fd ⟨[v], []⟩ [("_law_script", v)]) ∧ ∀ base : Heap, K.In base → base.Ns mainGlobals mg → FnOk l.prog w K mg base (L2.CX l.prog w) 10 fa fd ["_law_script"] (spLaw K) := by
  have e := hfa.symm.trans (PySem.W.mg_of X G a17)
  cases e
  have T : Bl mg := ⟨PySem.W.mg_none_of X G z__, PySem.W.mg_none_of X G z_abs, PySem.W.mg_none_of X G z_all, PySem.W.mg_none_of X G z_bool, PySem.W.mg_none_of X G z_int, PySem.W.mg_none_of X G z_isinstance, PySem.W.mg_none_of X G z_len, PySem.W.mg_none_of X G z_list, PySem.W.mg_none_of X G z_max, PySem.W.mg_none_of X G z_min, PySem.W.mg_none_of X G z_range, PySem.W.mg_none_of X G z_set, PySem.W.mg_none_of X G z_sorted, PySem.W.mg_none_of X G z_tuple⟩
  have Z_Rota : Tx_Rota K mg C_Rota := ⟨PySem.W.mg_of X G aC_Rota, ⟨pg_Rota, hd_Rota, po_Rota, sa_Rota⟩, n_Rota_places, n_Rota_rows⟩
  have F_InvalidRota := fun_mk (st := s_InvalidRota___init__) l_InvalidRota c_InvalidRota k_InvalidRota
  have b_InvalidRota := F_InvalidRota.binds (ps := ["self", "word"]) fun _ _ _ _ _ _ us hl => match us, hl with | [_, _], _ => rfl
  have ER : Ers K mg C_Rota C_TurnError C_InvalidRota C_InvalidSeason := ⟨⟨PySem.W.mg_of X G aC_TurnError, by rw [cl_TurnError]; rfl, ty_TurnError, eB_TurnError⟩, ⟨PySem.W.mg_of X G aC_InvalidRota, by rw [cl_InvalidRota]; rfl, ty_InvalidRota, eB_InvalidRota⟩, ⟨PySem.W.mg_of X G aC_InvalidSeason, by rw [cl_InvalidSeason]; rfl, ty_InvalidSeason, eB_InvalidSeason⟩, PySem.W.mg_of X G aC_InvalidRota, ⟨⟨ga_InvalidRota, gg_InvalidRota, eB_InvalidRota, hd_InvalidRota, oa_InvalidRota, og_InvalidRota, ot_InvalidRota, om_InvalidRota⟩, ⟨ga_InvalidRota, gg_InvalidRota, eB_InvalidRota, hd_InvalidRota⟩, no_InvalidRota⟩, s_Rota_InvalidRota, s_InvalidRota_InvalidRota, s_InvalidRota_TurnError, s_InvalidRota_InvalidSeason, n_InvalidRota_InvalidSeason⟩
  have F1 := fun_mk (st := s_law_box) l1 c1 k1
  have b1 := F1.binds (ps := ["_law_script", "_law_k", "_law_own"]) fun _ _ _ _ _ _ us hl => match us, hl with | [_, _, _], _ => rfl
  have g1 := PySem.W.mg_of X G a1
  have F2 := fun_mk (st := s_law_take) l2 c2 k2
  have b2 := F2.binds (ps := ["_law_box_here", "_law_bound"]) fun _ _ _ _ _ _ us hl => match us, hl with | [_, _], _ => rfl
  have g2 := PySem.W.mg_of X G a2
  have F3 := fun_mk (st := s_law_mixed) l3 c3 k3
  have b3 := F3.binds (ps := ["_law_box_here", "_law_items"]) fun _ _ _ _ _ _ us hl => match us, hl with | [_, _], _ => rfl
  have g3 := PySem.W.mg_of X G a3
  have F4 := fun_mk (st := s_law_rota) l4 c4 k4
  have b4 := F4.binds (ps := ["_law_box_here", "_law_most", "_law_rows"]) fun _ _ _ _ _ _ us hl => match us, hl with | [_, _, _], _ => rfl
  have g4 := PySem.W.mg_of X G a4
  have F5 := fun_mk (st := s_law_pick) l5 c5 k5
  have b5 := F5.binds (ps := ["_law_box_here", "_law_items"]) fun _ _ _ _ _ _ us hl => match us, hl with | [_, _], _ => rfl
  have g5 := PySem.W.mg_of X G a5
  have F6 := fun_mk (st := s_is_integer) l6 c6 k6
  have b6 := F6.binds (ps := ["value"]) fun _ _ _ _ _ _ us hl => match us, hl with | [_], _ => rfl
  have g6 := PySem.W.mg_of X G a6
  have F7 := fun_mk (st := s_is_whole) l7 c7 k7
  have b7 := F7.binds (ps := ["value", "least"]) fun _ _ _ _ _ _ us hl => match us, hl with | [_, _], _ => rfl
  have g7 := PySem.W.mg_of X G a7
  have F8 := fun_mk (st := s_is_sequence) l8 c8 k8
  have b8 := F8.binds (ps := ["value"]) fun _ _ _ _ _ _ us hl => match us, hl with | [_], _ => rfl
  have g8 := PySem.W.mg_of X G a8
  have F9 := fun_mk (st := s_is_below) l9 c9 k9
  have b9 := F9.binds (ps := ["value", "many"]) fun _ _ _ _ _ _ us hl => match us, hl with | [_, _], _ => rfl
  have g9 := PySem.W.mg_of X G a9
  have F10 := fun_mk (st := s_are_spots) l10 c10 k10
  have b10 := F10.binds (ps := ["spots", "places"]) fun _ _ _ _ _ _ us hl => match us, hl with | [_, _], _ => rfl
  have g10 := PySem.W.mg_of X G a10
  have F11 := fun_mk (st := s_is_row) l11 c11 k11
  have b11 := F11.binds (ps := ["row", "places"]) fun _ _ _ _ _ _ us hl => match us, hl with | [_, _], _ => rfl
  have g11 := PySem.W.mg_of X G a11
  have F12 := fun_mk (st := s_are_rows) l12 c12 k12
  have b12 := F12.binds (ps := ["rows", "places"]) fun _ _ _ _ _ _ us hl => match us, hl with | [_, _], _ => rfl
  have g12 := PySem.W.mg_of X G a12
  have F13 := fun_mk (st := s_Rota_init) l13 c13 k13
  have b13 := F13.binds (ps := ["self", "places", "rows"]) fun _ _ _ _ _ _ us hl => match us, hl with | [_, _, _], _ => rfl
  have F14 := fun_mk (st := s_law_heard) l14 c14 k14
  have b14 := F14.binds (ps := ["_law_places", "_law_rows"]) fun _ _ _ _ _ _ us hl => match us, hl with | [_, _], _ => rfl
  have g14 := PySem.W.mg_of X G a14
  have F15 := fun_mk (st := s_law_wrong) l15 c15 k15
  have b15 := F15.binds (ps := ["_law_box_here", "_law_told"]) fun _ _ _ _ _ _ us hl => match us, hl with | [_, _], _ => rfl
  have g15 := PySem.W.mg_of X G a15
  have F16 := fun_mk (st := s_law_value) l16 c16 k16
  have b16 := F16.binds (ps := ["_law_box_here"]) fun _ _ _ _ _ _ us hl => match us, hl with | [_], _ => rfl
  have g16 := PySem.W.mg_of X G a16
  have F17 := fun_mk (st := s_law) l17 c17 k17
  refine ⟨PySem.W.fnOf "law" "law" (defArgs s_law) (defBody s_law) (defScope s_law) .none kV17 dc17 pm17 an17 cd17 ct17, fun s v => .of_eq rfl, fun base _ _ => ?_⟩
  have D_InvalidRota : Er l.prog w K mg base "InvalidRota" "word" C_InvalidRota := ⟨PySem.W.mg_of X G aC_InvalidRota, ⟨⟨nm_InvalidRota, q_InvalidRota, N_InvalidRota, bs_InvalidRota, _, sn_InvalidRota, sub_InvalidRota, ab_InvalidRota, col_InvalidRota, dd_InvalidRota, m0_InvalidRota, m1_InvalidRota, m2_InvalidRota, m3_InvalidRota, m5_InvalidRota, xL_InvalidRota, by rfl⟩, sa_InvalidRota, eB_InvalidRota, ty_InvalidRota, kc_InvalidRota⟩, no_InvalidRota, f_InvalidRota, _, "word", iC_InvalidRota, tI_InvalidRota, fn_exi F_InvalidRota ⟨rfl, rfl, rfl, by decide +kernel, rfl, by decide +kernel, by decide +kernel⟩ rfl (fun X h => by rw [h]; exact ⟨by first | exact Or.inl rfl | exact Or.inr (Or.inl rfl) | exact Or.inr (Or.inr rfl), by first | exact Or.inl rfl | exact Or.inr (Or.inl rfl) | exact Or.inr (Or.inr rfl)⟩) (by decide +kernel) (by decide +kernel) (by intros; rfl), b_InvalidRota⟩
  have D_law_box : Df l.prog w K mg base CT0 BB 1 "_law_box" 3 ["_law_script", "_law_k", "_law_own"] f_law_box := ⟨⟨_, _, box_of (ok_box F1 T), g1, k1, b1⟩, fBox_len⟩
  have D_law_take : Df l.prog w K mg base CT0 BB 1 "_law_take" 2 ["_law_box_here", "_law_bound"] f_law_take := ⟨⟨_, _, draw_of (ok_take F2 T), g2, k2, b2⟩, fDraw_len⟩
  have D_law_mixed : Df l.prog w K mg base CT0 BB 2 "_law_mixed" 2 ["_law_box_here", "_law_items"] f_law_mixed := d_law_mixed F3 g3 k3 b3 T Z_Rota ER D_law_take
  have D_law_rota : Df l.prog w K mg base CT0 BB 3 "_law_rota" 3 ["_law_box_here", "_law_most", "_law_rows"] f_law_rota := d_law_rota F4 g4 k4 b4 T Z_Rota ER D_law_take D_law_mixed
  have D_law_pick : Df l.prog w K mg base CT0 BB 2 "_law_pick" 2 ["_law_box_here", "_law_items"] f_law_pick := d_law_pick F5 g5 k5 b5 T Z_Rota ER D_law_take
  have D_is_integer : Df l.prog w K mg base CT0 BB 1 "is_integer" 1 ["value"] f_is_integer := d_is_integer F6 g6 k6 b6 T Z_Rota ER 
  have D_is_whole : Df l.prog w K mg base CT0 BB 2 "is_whole" 2 ["value", "least"] f_is_whole := d_is_whole F7 g7 k7 b7 T Z_Rota ER D_is_integer
  have D_is_sequence : Df l.prog w K mg base CT0 BB 1 "is_sequence" 1 ["value"] f_is_sequence := d_is_sequence F8 g8 k8 b8 T Z_Rota ER 
  have D_is_below : Df l.prog w K mg base CT0 BB 3 "is_below" 2 ["value", "many"] f_is_below := d_is_below F9 g9 k9 b9 T Z_Rota ER D_is_whole
  have D_are_spots : Df l.prog w K mg base CT0 BB 4 "are_spots" 2 ["spots", "places"] f_are_spots := d_are_spots F10 g10 k10 b10 T Z_Rota ER D_is_sequence D_is_below
  have D_is_row : Df l.prog w K mg base CT0 BB 5 "is_row" 2 ["row", "places"] f_is_row := d_is_row F11 g11 k11 b11 T Z_Rota ER D_are_spots
  have D_are_rows : Df l.prog w K mg base CT0 BB 6 "are_rows" 2 ["rows", "places"] f_are_rows := d_are_rows F12 g12 k12 b12 T Z_Rota ER D_is_sequence D_is_row
  have D_Rota : Cf l.prog w K mg base CT0 BB 7 "Rota" 0 2 ["self", "places", "rows"] f_Rota := d_Rota F13 ⟨mk_Rota, a13, i13, kc_Rota⟩ b13 T Z_Rota ER D_is_whole D_InvalidRota D_are_rows
  have D_law_heard : Df l.prog w K mg base CT0 BB 9 "_law_heard" 2 ["_law_places", "_law_rows"] f_law_heard := d_law_heard F14 g14 k14 b14 T Z_Rota ER D_Rota
  have D_law_wrong : Df l.prog w K mg base CT0 BB 3 "_law_wrong" 2 ["_law_box_here", "_law_told"] f_law_wrong := d_law_wrong F15 g15 k15 b15 T Z_Rota ER D_law_pick
  have D_law_value : Df l.prog w K mg base CT0 BB 3 "_law_value" 1 ["_law_box_here"] f_law_value := d_law_value F16 g16 k16 b16 T Z_Rota ER D_law_pick
  have FL : FnOk l.prog w K mg base (L2.CX l.prog w) 10 _ _ ["_law_script"] (spM ⟨K, mg, CT0⟩ BB 1 f_law) := fn_def (N := N_law) (ps := ["_law_script"]) (k := 9) (body := b_law) F17 S_law (by decide) fun _ _ _ _ _ _ hr => l_law T Z_Rota ER D_law_box D_law_rota D_law_heard D_law_take D_law_wrong D_law_pick D_law_value hr
  exact law_endA FL (fun _ => ⟨fun _ z => False.elim z, fun _ z => False.elim z⟩) law_true
end K03
open PySem PySem.W PyProof.Rows
set_option maxHeartbeats 0 in
theorem PySem.Challenge.cw_turnrota_k03_rotas_refused_holds : PySem.Challenge.rw_turnrota_k03_rotas_refused.Holds := by
  w_on; o_law; k_head; (case hw => w_witness2)
  k_fill
  refine L2.walk_of (l := PySem.Challenge.rw_turnrota_k03_rotas_refused) (n := 63) (k := 10) (x := "_law_script") (CX := fun w => L2.CX (PySem.Challenge.rw_turnrota_k03_rotas_refused).prog w) (sp := fun w => Dn.spLaw _) rfl (by decide) rfl ⟨rfl, by decide, by decide⟩ (fun w h Y => PySem.W.kIn_of Y) ?F (fun _ _ a ns hl _ hS => ⟨a, ns, rfl, hS, hl, fun _ => rfl⟩) Dn.cx_none
  case F =>
    intro w mg fa h KX G hmg
    refine' K03.all_mk KX G hmg ?aC_Rota ?pg_Rota ?hd_Rota ?po_Rota ?sa_Rota ?mk_Rota ?kc_Rota ?n_Rota_places ?n_Rota_rows ?a1 ?l1 ?c1 ?k1 ?a2 ?l2 ?c2 ?k2 ?a3 ?l3 ?c3 ?k3 ?a4 ?l4 ?c4 ?k4 ?a5 ?l5 ?c5 ?k5 ?a6 ?l6 ?c6 ?k6 ?a7 ?l7 ?c7 ?k7 ?a8 ?l8 ?c8 ?k8 ?a9 ?l9 ?c9 ?k9 ?a10 ?l10 ?c10 ?k10 ?a11 ?l11 ?c11 ?k11 ?a12 ?l12 ?c12 ?k12 ?a13 ?i13 ?l13 ?c13 ?k13 ?a14 ?l14 ?c14 ?k14 ?a15 ?l15 ?c15 ?k15 ?a16 ?l16 ?c16 ?k16 ?a17 ?l17 ?c17 ?k17 ?aC_TurnError ?cl_TurnError ?ty_TurnError ?eB_TurnError ?aC_InvalidRota ?cl_InvalidRota ?ty_InvalidRota ?eB_InvalidRota ?aC_InvalidSeason ?cl_InvalidSeason ?ty_InvalidSeason ?eB_InvalidSeason ?xL_InvalidRota ?sa_InvalidRota ?ga_InvalidRota ?gg_InvalidRota ?no_InvalidRota ?kc_InvalidRota ?hd_InvalidRota ?oa_InvalidRota ?og_InvalidRota ?ot_InvalidRota ?om_InvalidRota ?iC_InvalidRota ?tI_InvalidRota ?l_InvalidRota ?c_InvalidRota ?k_InvalidRota ?s_Rota_InvalidRota ?s_InvalidRota_InvalidRota ?s_InvalidRota_TurnError ?s_InvalidRota_InvalidSeason ?n_InvalidRota_InvalidSeason ?z__ ?z_abs ?z_all ?z_bool ?z_int ?z_isinstance ?z_len ?z_list ?z_max ?z_min ?z_range ?z_set ?z_sorted ?z_tuple
    (case aC_Rota => k_is); (case aC_TurnError => k_is); (case aC_InvalidRota => k_is); (case aC_InvalidSeason => k_is); (case pg_Rota => k_is); (case hd_Rota => k_is); (case po_Rota => k_is); (case sa_Rota => k_is); (case mk_Rota => k_is); (case kc_Rota => k_is); (case n_Rota_places => k_is); (case n_Rota_rows => k_is); (case a1 => k_is); (case l1 => k_is); (case c1 => k_is); (case k1 => k_is); (case a2 => k_is); (case l2 => k_is); (case c2 => k_is); (case k2 => k_is); (case a3 => k_is); (case l3 => k_is); (case c3 => k_is); (case k3 => k_is); (case a4 => k_is); (case l4 => k_is); (case c4 => k_is); (case k4 => k_is); (case a5 => k_is); (case l5 => k_is); (case c5 => k_is); (case k5 => k_is); (case a6 => k_is); (case l6 => k_is); (case c6 => k_is); (case k6 => k_is); (case a7 => k_is); (case l7 => k_is); (case c7 => k_is); (case k7 => k_is); (case a8 => k_is); (case l8 => k_is); (case c8 => k_is); (case k8 => k_is); (case a9 => k_is); (case l9 => k_is); (case c9 => k_is); (case k9 => k_is); (case a10 => k_is); (case l10 => k_is); (case c10 => k_is); (case k10 => k_is); (case a11 => k_is); (case l11 => k_is); (case c11 => k_is); (case k11 => k_is); (case a12 => k_is); (case l12 => k_is); (case c12 => k_is); (case k12 => k_is); (case a13 => k_is); (case i13 => k_is); (case l13 => k_is); (case c13 => k_is); (case k13 => k_is); (case a14 => k_is); (case l14 => k_is); (case c14 => k_is); (case k14 => k_is); (case a15 => k_is); (case l15 => k_is); (case c15 => k_is); (case k15 => k_is); (case a16 => k_is); (case l16 => k_is); (case c16 => k_is); (case k16 => k_is); (case a17 => k_is); (case l17 => k_is); (case c17 => k_is); (case k17 => k_is); (case cl_TurnError => k_is); (case ty_TurnError => k_is); (case eB_TurnError => k_is); (case cl_InvalidRota => k_is); (case ty_InvalidRota => k_is); (case eB_InvalidRota => k_is); (case cl_InvalidSeason => k_is); (case ty_InvalidSeason => k_is); (case eB_InvalidSeason => k_is); (case xL_InvalidRota => k_is); (case sa_InvalidRota => k_is); (case ga_InvalidRota => k_is); (case gg_InvalidRota => k_is); (case no_InvalidRota => k_is); (case kc_InvalidRota => k_is); (case hd_InvalidRota => k_is); (case oa_InvalidRota => k_is); (case og_InvalidRota => k_is); (case ot_InvalidRota => k_is); (case om_InvalidRota => k_is); (case iC_InvalidRota => k_is); (case tI_InvalidRota => k_is); (case l_InvalidRota => k_is); (case c_InvalidRota => k_is); (case k_InvalidRota => k_is); (case s_Rota_InvalidRota => k_is); (case s_InvalidRota_InvalidRota => k_is); (case s_InvalidRota_TurnError => k_is); (case s_InvalidRota_InvalidSeason => k_is); (case n_InvalidRota_InvalidSeason => exact rfl); (case z__ => k_is); (case z_abs => k_is); (case z_all => k_is); (case z_bool => k_is); (case z_int => k_is); (case z_isinstance => k_is); (case z_len => k_is); (case z_list => k_is); (case z_max => k_is); (case z_min => k_is); (case z_range => k_is); (case z_set => k_is); (case z_sorted => k_is); (case z_tuple => k_is)
