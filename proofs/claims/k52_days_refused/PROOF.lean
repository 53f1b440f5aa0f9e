import PyProof.Rows.All
import Wide.All
import OpenK.AllK
import Wide.FinOn
import HandS.HeadHook4
import HandS.HeadEnd
import HandS.Head3
import HandS.Words
import HandS.ForMost
import HandS.ForExc
import HandS.IsInst
import HandS.Zip
import HandS.SetFor
import HandS.SortInts
import HandS.SortRule
import HandS.Wide
import HandS.Deep
import HandS.TupAny
import HandS.Conv
import HandS.Iter
import HandS.Dict
import HandS.Gcd
import HandS.WideBits
import HandS.TupMul
import HandS.RaiseMore
import PyProof.EnumMake
import PyProof.Draws
import KE.GoesMore
import HandS.TupLe
import PyProof.ReprRoads
import KE.DataMinMax
import HandS.TryOnly
import PyProof.Rows.RowBridgeK
import HandS.Style
import HandS.TupSets
import HandS.Defaults
import KE.DataAny
import HandS.SortKw
import HandS.SetKeys
import HandS.DictComp
import HandS.Flow
import PyProof.DictMoreH
import HandS.DictTup
import PyProof.InstNe
import HandS.Codes
import OpenK.KWalk
import KE.KCallOwn
import HandS.FStr
import HandS.Text
import HandS.ExcInit
import HandS.ExcOwn
import HandS.ExcField
import HandS.ExcIs
import KE.KExcIs
import KE.KMathGC
import PyProof.SumAnyB
import KE.DataFind
import KE.SortData
import KE.DataCmp
import HandS.Lambda
import HandS.EndTab
import KE.DataMinKey
import OpenK.KMore
import HandS.TryMany
import HandS.Strs
import PyProof.ExcBaseAll.ValueError
import HandS.NoneIn
import HandS.OwnEq
import PySem.Challenge.RW_turnrota_k52_days_refused
set_option Elab.async false
set_option linter.all false
set_option maxRecDepth 100000
set_option maxHeartbeats 0
namespace K52
open PySem PySem.Spec PyProof.Rows L2
def top (i : Nat) : Stmt := PySem.Challenge.pw_turnrota_k52_days_refused.main.body.getD i (.Pass ⟨0, 0, 0, 0⟩)
abbrev s_law_box : Stmt := top 23
abbrev s_law_take : Stmt := top 24
abbrev s_law_days : Stmt := top 26
abbrev s_law_pick : Stmt := top 25
abbrev s_law_heard : Stmt := top 27
abbrev s_far_item : Stmt := top 11
abbrev s_widest_gap : Stmt := top 13
abbrev s_is_sequence : Stmt := top 9
abbrev s_is_integer : Stmt := top 6
abbrev s_is_whole : Stmt := top 7
abbrev s_is_below : Stmt := top 8
abbrev s_ring_days : Stmt := top 21
abbrev s_ring_gap : Stmt := top 15
abbrev s_first_gaps : Stmt := top 20
abbrev s_least_gap : Stmt := top 16
abbrev s_is_best : Stmt := top 17
abbrev s_first_longer : Stmt := top 19
abbrev s_no_longer : Stmt := top 18
abbrev s_law_all_heard : Stmt := top 28
abbrev s_law : Stmt := top 29
abbrev s_InvalidDays___init__ : Stmt := inClass (top 4) 0
theorem fun_ofD {K : PySem.W.Frag} {x qual : Str} {st : Stmt} {f : Addr} {fd : FuncData} (F : FunD K x qual (defArgs st) (defBody st) (defScope st) [] [] f fd) : Fun K x qual st f fd := by
  obtain ⟨⟨oc, od, dV, kV, doc, pm, an, cdv, ct, osl, rfl, lk, hcd, hD, hK⟩, kp⟩ := F
  rcases hD with ⟨_, rfl⟩ | ⟨e, _⟩
  · exact ⟨⟨oc, od, kV, doc, pm, an, cdv, ct, osl, rfl, lk, hcd⟩, kp⟩
  · exact absurd rfl e
def unitB (K : PySem.W.Frag) (U : Addr) : Bool := match K.lookup U with
  | some ⟨.type c, _, .seq its _, _⟩ => decide (c = "tuple") && decide (its = #[])
  | _ => false
def xlB (K : PySem.W.Frag) (C : Addr) : Bool := match K.lookup C with
  | some ⟨.type "type", _, .cls cd, sl⟩ => (match cd.mro, sl.toList with
    | [.ref C', .ref _, .type a, .type b, .type c, .type d], [_, _, _, _, some (.builtin n), _] => C' == C && (n == "ValueError.__new__" && (!cd.hasDel && (cd.hasDict && (a == "ValueError" && (b == "Exception" && (c == "BaseException" && d == "object"))))))
    | _, _ => false)
  | _ => false
theorem xlB_ok {K : PySem.W.Frag} {C : Addr} (q : xlB K C = true) : ∃ nm qn N bs B sn sub ab col dd m0 m1 m2 m3 m5, K.lookup C = some (excClassObj nm qn C N bs [.ref B, .type "ValueError", .type "Exception", .type "BaseException", .type "object"] true sn sub ab col dd m0 m1 m2 m3 m5 "ValueError.__new__") := by
  unfold xlB at q
  split at q
  · rename_i dd cd sl ho
    split at q
    · rename_i C' B a b c d k0 k1 k2 k3 n k5 hm hs
      simp only [Bool.and_eq_true, beq_iff_eq, Bool.not_eq_true'] at q
      obtain ⟨rfl, rfl, hdel, hdict, rfl, rfl, rfl, rfl⟩ := q
      obtain ⟨nm, bs, mro, ns, qn, hd, sn, sub, ab, col, del⟩ := cd
      dsimp only at hm hdel hdict
      subst hm hdel hdict
      have hsl : sl = #[k0, k1, k2, k3, some (.builtin "ValueError.__new__"), k5] := by
        obtain ⟨l⟩ := sl
        simp only at hs
        rw [hs]
      subst hsl
      exact ⟨nm, qn, ns, bs, B, sn, sub, ab, col, dd, k0, k1, k2, k3, k5, ho⟩
    · cases q
  · cases q
def eqOB (o : Option Bool) (b : Bool) : Bool := match o with
  | some c => c == b
  | none => false
theorem eqOB_ok {o : Option Bool} {b : Bool} (h : eqOB o b = true) : o = some b := by
  cases o with
  | none => cases h
  | some c => rw [eq_of_beq (show (c == b) = true from h)]
theorem ex_get {ex : List (PySem.W.Frag → Bool)} {K : PySem.W.Frag} (h : (ex.all fun e => e K) = true) (i : Nat) {e : PySem.W.Frag → Bool} (he : ex[i]? = some e) : e K = true := List.all_eq_true.mp h e (List.mem_of_getElem? he)
def faL0 : List He.Fa := [.glo "TurnError", .glo "InvalidMisses", .glo "InvalidDays", .glo "_law_box", .glo "_law_take", .glo "_law_days", .glo "_law_pick", .glo "_law_heard", .glo "far_item", .glo "widest_gap", .glo "is_sequence", .glo "is_integer", .glo "is_whole", .glo "is_below", .glo "ring_days", .glo "ring_gap", .glo "first_gaps", .glo "least_gap", .glo "is_best", .glo "first_longer", .glo "no_longer", .glo "_law_all_heard", .glo "law", .free "", .free "abs", .free "bool", .free "divmod", .free "enumerate", .free "int", .free "isinstance"]
def faL1 : List He.Fa := [.free "len", .free "list", .free "max", .free "min", .free "range", .free "sorted", .free "tuple"]
def faL : List He.Fa := faL0 ++ faL1
def fnL0 : List He.DefD := [⟨("InvalidDays", some "__init__"), "__init__", "InvalidDays.__init__", defArgs s_InvalidDays___init__, defBody s_InvalidDays___init__, defScope s_InvalidDays___init__, [], []⟩, ⟨("_law_box", none), "_law_box", "_law_box", defArgs s_law_box, defBody s_law_box, defScope s_law_box, [], []⟩, ⟨("_law_take", none), "_law_take", "_law_take", defArgs s_law_take, defBody s_law_take, defScope s_law_take, [], []⟩, ⟨("_law_days", none), "_law_days", "_law_days", defArgs s_law_days, defBody s_law_days, defScope s_law_days, [], []⟩, ⟨("_law_pick", none), "_law_pick", "_law_pick", defArgs s_law_pick, defBody s_law_pick, defScope s_law_pick, [], []⟩, ⟨("_law_heard", none), "_law_heard", "_law_heard", defArgs s_law_heard, defBody s_law_heard, defScope s_law_heard, [], []⟩, ⟨("far_item", none), "far_item", "far_item", defArgs s_far_item, defBody s_far_item, defScope s_far_item, [], []⟩, ⟨("widest_gap", none), "widest_gap", "widest_gap", defArgs s_widest_gap, defBody s_widest_gap, defScope s_widest_gap, [], []⟩, ⟨("is_sequence", none), "is_sequence", "is_sequence", defArgs s_is_sequence, defBody s_is_sequence, defScope s_is_sequence, [], []⟩, ⟨("is_integer", none), "is_integer", "is_integer", defArgs s_is_integer, defBody s_is_integer, defScope s_is_integer, [], []⟩, ⟨("is_whole", none), "is_whole", "is_whole", defArgs s_is_whole, defBody s_is_whole, defScope s_is_whole, [], []⟩, ⟨("is_below", none), "is_below", "is_below", defArgs s_is_below, defBody s_is_below, defScope s_is_below, [], []⟩, ⟨("ring_days", none), "ring_days", "ring_days", defArgs s_ring_days, defBody s_ring_days, defScope s_ring_days, [], []⟩, ⟨("ring_gap", none), "ring_gap", "ring_gap", defArgs s_ring_gap, defBody s_ring_gap, defScope s_ring_gap, [], []⟩, ⟨("first_gaps", none), "first_gaps", "first_gaps", defArgs s_first_gaps, defBody s_first_gaps, defScope s_first_gaps, [], []⟩, ⟨("least_gap", none), "least_gap", "least_gap", defArgs s_least_gap, defBody s_least_gap, defScope s_least_gap, [], []⟩, ⟨("is_best", none), "is_best", "is_best", defArgs s_is_best, defBody s_is_best, defScope s_is_best, [], []⟩, ⟨("first_longer", none), "first_longer", "first_longer", defArgs s_first_longer, defBody s_first_longer, defScope s_first_longer, [], []⟩, ⟨("no_longer", none), "no_longer", "no_longer", defArgs s_no_longer, defBody s_no_longer, defScope s_no_longer, [], []⟩, ⟨("_law_all_heard", none), "_law_all_heard", "_law_all_heard", defArgs s_law_all_heard, defBody s_law_all_heard, defScope s_law_all_heard, [], []⟩, ⟨("law", none), "law", "law", defArgs s_law, defBody s_law, defScope s_law, [], []⟩]
def fnL : List He.DefD := fnL0
def exF0 : PySem.W.Frag → Bool := fun K => (PySem.W.clsIn K (He.ga K "TurnError")).isSome
def exF1 : PySem.W.Frag → Bool := fun K => (PySem.W.clsIn K (He.ga K "InvalidMisses")).isSome
def exF2 : PySem.W.Frag → Bool := fun K => (PySem.W.clsIn K (He.ga K "InvalidDays")).isSome
def exF3 : PySem.W.Frag → Bool := fun K => xlB K (He.ga K "InvalidDays")
def exF4 : PySem.W.Frag → Bool := fun K => He.eqO (PySem.W.findIn K (.ref (He.ga K "InvalidDays")) "__init__") (some (some (.ref (He.ma K (He.ga K "InvalidDays") "__init__"))))
def exF5 : PySem.W.Frag → Bool := fun K => decide (PySem.W.typeIn K (.ref (He.ma K (He.ga K "InvalidDays") "__init__")) = some (.type "function"))
def exF6 : PySem.W.Frag → Bool := fun K => decide (PySem.W.typeIn K (.ref (He.ga K "TurnError")) = some (.type "type"))
def exF7 : PySem.W.Frag → Bool := fun K => eqOB (PySem.W.subIn K (.ref (He.ga K "TurnError")) (.type "BaseException")) true
def exF8 : PySem.W.Frag → Bool := fun K => decide (PySem.W.typeIn K (.ref (He.ga K "InvalidMisses")) = some (.type "type"))
def exF9 : PySem.W.Frag → Bool := fun K => eqOB (PySem.W.subIn K (.ref (He.ga K "InvalidMisses")) (.type "BaseException")) true
def exF10 : PySem.W.Frag → Bool := fun K => decide (PySem.W.typeIn K (.ref (He.ga K "InvalidDays")) = some (.type "type"))
def exF11 : PySem.W.Frag → Bool := fun K => eqOB (PySem.W.subIn K (.ref (He.ga K "InvalidDays")) (.type "BaseException")) true
def exF12 : PySem.W.Frag → Bool := fun K => He.eqO (PySem.W.findIn K (.ref (He.ga K "InvalidDays")) "__setattr__") (some (some (.builtin "object.__setattr__")))
def exF13 : PySem.W.Frag → Bool := fun K => He.eqO (PySem.W.findIn K (.ref (He.ga K "InvalidDays")) "__getattribute__") (some (some (.builtin "BaseException.__getattribute__")))
def exF14 : PySem.W.Frag → Bool := fun K => He.eqO (PySem.W.findIn K (.ref (He.ga K "InvalidDays")) "__getattr__") (some none)
def exF15 : PySem.W.Frag → Bool := fun K => He.eqO (PySem.W.findIn K (.ref (He.ga K "InvalidDays")) "at") (some none)
def exF16 : PySem.W.Frag → Bool := fun K => PySem.W.keepIn K (.ref (He.ga K "InvalidDays"))
def exF17 : PySem.W.Frag → Bool := fun K => PySem.W.hasDictIn K (He.ga K "InvalidDays")
def exF18 : PySem.W.Frag → Bool := fun K => He.eqO (PySem.W.findIn K (.ref (He.ga K "InvalidDays")) "__class__") (some (some (.builtin "object.__class__")))
def exF19 : PySem.W.Frag → Bool := fun K => He.eqO (PySem.W.specialIn K (.builtin "object.__class__") "__get__") (some (some (.builtin "getset_descriptor.__get__")))
def exF20 : PySem.W.Frag → Bool := fun K => eqOB (PySem.W.takesIn K (.builtin "object.__class__")) true
def exF21 : PySem.W.Frag → Bool := fun K => eqOB (PySem.W.mroIn K (He.ga K "InvalidDays") (.type "object")) true
def exF22 : PySem.W.Frag → Bool := fun K => eqOB (PySem.W.subIn K (.ref (He.ga K "InvalidDays")) (.ref (He.ga K "InvalidDays"))) true
def exF23 : PySem.W.Frag → Bool := fun K => eqOB (PySem.W.subIn K (.ref (He.ga K "InvalidDays")) (.ref (He.ga K "TurnError"))) true
def exF24 : PySem.W.Frag → Bool := fun K => eqOB (PySem.W.subIn K (.ref (He.ga K "InvalidDays")) (.ref (He.ga K "InvalidMisses"))) false
def exF25 : PySem.W.Frag → Bool := fun K => (Value.ref (He.ga K "InvalidDays") == Value.ref (He.ga K "InvalidMisses")) == false
def exF26 : PySem.W.Frag → Bool := fun K => He.eqO (PySem.W.nsIn K mainGlobals "lcm") (some (some (.builtin "math.lcm")))
def exF27 : PySem.W.Frag → Bool := fun K => !((He.cT K ("_law_all_heard", none)).2 == (He.cT K ("law", none)).2)
def exL : List (PySem.W.Frag → Bool) := [exF0, exF1, exF2, exF3, exF4, exF5, exF6, exF7, exF8, exF9, exF10, exF11, exF12, exF13, exF14, exF15, exF16, exF17, exF18, exF19, exF20, exF21, exF22, exF23, exF24, exF25, exF26, exF27]
def exA : PySem.W.Frag → Bool := fun K => exL.all fun e => e K
def tfL : List He.Defn := [("law", none), ("_law_all_heard", none)]
def refsM (o : Obj) : List Addr := (match o.dict with
  | some d => [d]
  | none => []) ++ match o.data with
  | .seq its _ => its.toList.flatMap He.refV
  | .dict es _ => es.toList.flatMap fun e => He.refV e.val
  | .func fd => He.refV fd.code ++ He.refV fd.defaults
  | .cls cd => cd.ns :: cd.mro.flatMap He.refV
  | _ => []
def lvM (g : Addr → Option Obj) : Nat → List Addr → List Addr
  | 0, as => as
  | n + 1, as => as ++ lvM g n (as.flatMap fun a => match g a with
    | some o => refsM o
    | none => [])
def KM (g : Addr → Option Obj) : PySem.W.Frag := He.frT g (lvM g 5 [mainGlobals])
def obM (g : Addr → Option Obj) : He.AlX := (He.obsT faL fnL [] (KM g), exA (KM g) && He.tabsB g tfL (KM g))
theorem saysM {w : World} {h : Heap} (e : obM h.get? = He.valX fnL [] w) : He.SaysX faL fnL [] tfL exA w h (KM h.get?) := by
  have e1 : He.obsT faL fnL [] (KM h.get?) = He.valT fnL [] w := congrArg Prod.fst e
  have e2 : (exA (KM h.get?) && He.tabsB h.get? tfL (KM h.get?)) = true := congrArg Prod.snd e
  obtain ⟨h1, h2⟩ := He.ba e2
  have one : ∀ p ∈ tfL, PySem.W.codeHdIn (KM h.get?) (He.cT (KM h.get?) p).1 (He.cT (KM h.get?) p).2 = true ∧ ∃ o, h.get? (He.cT (KM h.get?) p).2 = some o ∧ He.emptyTab o = true := fun p hp => by
    obtain ⟨a, b⟩ := He.ba (List.all_eq_true.mp h2 p hp)
    refine ⟨a, ?_⟩
    cases q : h.get? (He.cT (KM h.get?) p).2 with
    | none => rw [q] at b; cases b
    | some o => rw [q] at b; exact ⟨o, rfl, b⟩
  refine ⟨e1, h1, fun p hp => (one p hp).1, fun p hp => ?_, fun p hp => ?_⟩
  · obtain ⟨_, o, q, z⟩ := one p hp
    exact He.frT_none q z
  · obtain ⟨_, o, q, z⟩ := one p hp
    rw [q, He.emptyTab_eq z]
def hk : PySem.W.Hook where
  α := He.AlX
  obs := fun s => obM s.heap.get?
  val := fun w => He.valX fnL [] w
  says := fun w h => ∃ K : PySem.W.Frag, K.In h ∧ He.SaysX faL fnL [] tfL exA w h K
  of := fun _ _ e => ⟨_, He.frT_in, saysM e⟩
  keeps := fun _ _ _ ⟨K, hK, c⟩ k => ⟨K, PySem.W.Frag.In.keeps hK k, ⟨c.t, c.more, c.hd, c.out, fun p hp => k _ _ (c.empty p hp)⟩⟩
def obT (s : PySem.W.SharedT) : He.AlX := obM (HandSHeadRun.getT s)
theorem obT_eq (s : PySem.W.SharedT) : obT s = hk.obs s.abs := by
  have e : HandSHeadRun.getT s = s.abs.heap.get? := funext (HandSHeadRun.getT_eq s)
  show obM _ = obM _
  rw [e]
def nmL0 : List PySem.Str := ["TurnError", "InvalidMisses", "InvalidDays", "is_integer", "is_whole", "is_below", "is_sequence", "far_item", "widest_gap", "ring_gap", "least_gap", "is_best", "no_longer", "first_longer", "first_gaps", "ring_days", "_law_box", "_law_take", "_law_pick", "_law_days", "_law_heard", "_law_all_heard"]
def nmL : List PySem.Str := nmL0
theorem top_run (w : World) : HandSHeadRun.RunEqI (PySem.W.OpenLaw.row PySem.Challenge.rw_turnrota_k52_days_refused) (PySem.W.view (PySem.W.OpenLaw.row PySem.Challenge.rw_turnrota_k52_days_refused).prog [0, 29]) hk obT 8000 nmL w := by
  unfold HandSHeadRun.RunEqI
  kernel_rfl
end K52
set_option Elab.async false
set_option linter.all false
set_option maxRecDepth 100000
namespace Dn
open PySem PySem.Spec PyProof.Rows L2
inductive AV where
  | non | bl (b : Bool) | int (i : Int) | str (s : Str) | tup (xs : List AV) | lst (xs : List AV) | ins (c : Nat) (xs : List AV) | dic (ks : List Str) (xs : List AV) | dct (ks : List (List Key)) (xs : List AV) | box | scr (ns : List Int) | any
inductive T (α : Type) where
  | ret (a : α) | bad | exc (c : Nat) (xs : List AV) | draw (n : Nat) (k : Nat → T α)
def T.bind {α β : Type} : T α → (α → T β) → T β
  | .ret a, f => f a
  | .bad, _ => .bad
  | .exc c xs, _ => .exc c xs
  | .draw n k, f => .draw n fun r => (k r).bind f
instance : Monad T where
  pure := T.ret
  bind := T.bind
theorem T.bind_assoc {α β γ : Type} (m : T α) (f : α → T β) (g : β → T γ) : (m.bind f).bind g = m.bind fun a => (f a).bind g := by
  induction m with
  | ret a => rfl
  | bad => rfl
  | exc c xs => rfl
  | draw n k ih => exact congrArg (T.draw n) (funext fun r => ih r)
theorem T.bind_ret {α : Type} (m : T α) : m.bind .ret = m := by
  induction m with
  | ret a => rfl
  | bad => rfl
  | exc c xs => rfl
  | draw n k ih => exact congrArg (T.draw n) (funext fun r => ih r)
def T.all {α : Type} (Q : α → Prop) (E : Nat → List AV → Prop) : T α → Prop
  | .ret a => Q a
  | .bad => False
  | .exc c xs => E c xs
  | .draw n k => ∀ r, r < n → (k r).all Q E
theorem T.all_bind {α β : Type} {Q : β → Prop} {E : Nat → List AV → Prop} {f : α → T β} {m : T α} : (m.bind f).all Q E ↔ m.all (fun a => (f a).all Q E) E := by
  induction m with
  | ret a => exact Iff.rfl
  | bad => exact Iff.rfl
  | exc c xs => exact Iff.rfl
  | draw n k ih => exact ⟨fun h r hr => (ih r).mp (h r hr), fun h r hr => (ih r).mpr (h r hr)⟩
theorem T.all_mono {α : Type} {Q Q' : α → Prop} {E E' : Nat → List AV → Prop} {m : T α} (h : m.all Q E) (hQ : ∀ a, Q a → Q' a) (hE : ∀ c xs, E c xs → E' c xs) : m.all Q' E' := by
  induction m with
  | ret a => exact hQ a h
  | bad => exact h
  | exc c xs => exact hE c xs h
  | draw n k ih => exact fun r hr => ih r (h r hr)
abbrev CT := Nat → Str × List Str
structure BInv where
  I : (Addr → Prop) → (Addr → Prop) → Hp → Prop
  live : ∀ {B D H a}, I B D H → B a → H a ≠ none
  nt : ∀ {B D H a}, I B D H → B a → ∀ vs, H a ≠ some (.tup vs)
  top : ∀ {B D H a}, I B D H → D a → B a
  frame : ∀ {B D H H'}, I B D H → (∀ a, B a → H' a = H a) → I B D H'
structure G where
  M : Addr → Prop
  own : Nat → Option Addr
  B : Addr → Prop
  D : Addr → Prop
  S : Option Addr
def G.Av (g : G) (a : Addr) : Prop := g.M a ∨ (∃ i, g.own i = some a) ∨ g.B a
structure Gc where
  K : PySem.W.Frag
  mg : Str → Option Value
  ct : CT
def TupAt (K : PySem.W.Frag) (A : Addr → Prop) (H : Hp) (a : Addr) (vs : List V) : Prop :=
  (¬ A a ∧ H a = some (.tup vs)) ∨ ∃ (o : Obj) (its : Array Value) (n : Nat), K.lookup a = some o ∧ o.cls = .type "tuple" ∧ o.data = .seq its n ∧ its.size ≤ sizeLine ∧ Vals vs its.toList ∧ vs = []
def LstAt (A : Addr → Prop) (H : Hp) (a : Addr) (vs : List V) : Prop := ¬ A a ∧ H a = some (.lst vs)
def ScrAt (K : PySem.W.Frag) (A : Addr → Prop) (H : Hp) (a : Addr) (ns : List Int) : Prop := (¬ A a ∧ Rd H a (.lst (ns.map V.int))) ∨ ((∀ H', SqL K H' a (ns.map V.int)))
theorem ScrAt.sq {K : PySem.W.Frag} {A : Addr → Prop} {H : Hp} {a : Addr} {ns : List Int} (h : ScrAt K A H a ns) : SqL K H a (ns.map V.int) := h.elim (fun z => .inl z.2) fun z => z H
theorem TupAt.sq {K : PySem.W.Frag} {A : Addr → Prop} {H : Hp} {a : Addr} {vs : List V} (h : TupAt K A H a vs) : SqT K H a vs := h.elim (fun z => .of z.2) fun ⟨o, its, n, a, b, c, d, e, _⟩ => .inr ⟨o, its, n, a, b, c, d, e⟩
theorem LstAt.sq {K : PySem.W.Frag} {A : Addr → Prop} {H : Hp} {a : Addr} {vs : List V} (h : LstAt A H a vs) : SqL K H a vs := .of h.2
mutual
def Rep (c0 : Gc) (A D : Addr → Prop) (H : Hp) : AV → V → Prop
  | .non, v => v = .non
  | .bl b, v => v = .bl b
  | .int i, v => v = .int i
  | .str s, v => v = .str s
  | .tup xs, v => ∃ a vs, v = .ref a ∧ TupAt c0.K A H a vs ∧ RepL c0 A D H xs vs
  | .lst xs, v => ∃ a vs, v = .ref a ∧ LstAt A H a vs ∧ RepL c0 A D H xs vs
  | .ins c xs, v => ∃ a C dx vs, v = .ref a ∧ ¬ A a ∧ c0.mg (c0.ct c).1 = some (.ref C) ∧ H a = some (.ins C dx ((c0.ct c).2.zip vs)) ∧ vs.length = (c0.ct c).2.length ∧ RepL c0 A D H xs vs
  | .dic ks xs, v => ∃ a vs, v = .ref a ∧ ¬ A a ∧ H a = some (.dK ((ks.map Sum.inr).zip vs)) ∧ vs.length = ks.length ∧ RepL c0 A D H xs vs
  | .dct ks xs, v => ∃ a vs, v = .ref a ∧ ¬ A a ∧ H a = some (.dT (ks.zip vs)) ∧ vs.length = ks.length ∧ RepL c0 A D H xs vs
  | .box, v => ∃ a, v = .ref a ∧ D a
  | .scr ns, v => ∃ a, v = .ref a ∧ ScrAt c0.K A H a ns
  | .any, _ => True
def RepL (c0 : Gc) (A D : Addr → Prop) (H : Hp) : List AV → List V → Prop
  | [], vs => vs = []
  | x :: xs, vs => ∃ v r, vs = v :: r ∧ Rep c0 A D H x v ∧ RepL c0 A D H xs r
end
section
variable {c0 : Gc} {A A' D D' : Addr → Prop} {H H' : Hp}
mutual
theorem Rep.imp (hk : ∀ a o, H a = some o → ¬ A a → H' a = some o ∧ ¬ A' a) (hd : ∀ a, D a → D' a) : ∀ {t : AV} {v : V}, Rep c0 A D H t v → Rep c0 A' D' H' t v
  | .non, _, h => by rw [Rep] at h ⊢; exact h
  | .bl _, _, h => by rw [Rep] at h ⊢; exact h
  | .int _, _, h => by rw [Rep] at h ⊢; exact h
  | .str _, _, h => by rw [Rep] at h ⊢; exact h
  | .tup xs, v, h => by
    rw [Rep] at h ⊢
    obtain ⟨a, vs, e, q, r⟩ := h
    refine ⟨a, vs, e, ?_, RepL.imp hk hd r⟩
    rcases q with ⟨na, q⟩ | q
    · exact .inl ⟨(hk a _ q na).2, (hk a _ q na).1⟩
    · exact .inr q
  | .lst xs, v, h => by
    rw [Rep] at h ⊢
    obtain ⟨a, vs, e, ⟨na, q⟩, r⟩ := h
    exact ⟨a, vs, e, ⟨(hk a _ q na).2, (hk a _ q na).1⟩, RepL.imp hk hd r⟩
  | .ins c xs, v, h => by
    rw [Rep] at h ⊢
    obtain ⟨a, C, dx, vs, e, na, m, q, l, r⟩ := h
    exact ⟨a, C, dx, vs, e, (hk a _ q na).2, m, (hk a _ q na).1, l, RepL.imp hk hd r⟩
  | .dic ks xs, v, h => by
    rw [Rep] at h ⊢
    obtain ⟨a, vs, e, na, q, l, r⟩ := h
    exact ⟨a, vs, e, (hk a _ q na).2, (hk a _ q na).1, l, RepL.imp hk hd r⟩
  | .dct ks xs, v, h => by
    rw [Rep] at h ⊢
    obtain ⟨a, vs, e, na, q, l, r⟩ := h
    exact ⟨a, vs, e, (hk a _ q na).2, (hk a _ q na).1, l, RepL.imp hk hd r⟩
  | .box, v, h => by
    rw [Rep] at h ⊢
    obtain ⟨a, e, q⟩ := h
    exact ⟨a, e, hd a q⟩
  | .scr ns, v, h => by
    rw [Rep] at h ⊢
    obtain ⟨a, e, q⟩ := h
    refine ⟨a, e, ?_⟩
    rcases q with ⟨na, q | ⟨o, q⟩⟩ | q
    · exact .inl ⟨(hk a _ q na).2, .inl (hk a _ q na).1⟩
    · exact .inl ⟨(hk a _ q na).2, .inr ⟨o, (hk a _ q na).1⟩⟩
    · exact .inr q
  | .any, _, _ => by rw [Rep]; exact True.intro
theorem RepL.imp (hk : ∀ a o, H a = some o → ¬ A a → H' a = some o ∧ ¬ A' a) (hd : ∀ a, D a → D' a) : ∀ {xs : List AV} {vs : List V}, RepL c0 A D H xs vs → RepL c0 A' D' H' xs vs
  | [], _, h => by rw [RepL] at h ⊢; exact h
  | x :: xs, vs, h => by
    rw [RepL] at h ⊢
    obtain ⟨v, r, e, h1, h2⟩ := h
    exact ⟨v, r, e, Rep.imp hk hd h1, RepL.imp hk hd h2⟩
end
theorem RepL.length : ∀ {xs : List AV} {vs : List V}, RepL c0 A D H xs vs → vs.length = xs.length
  | [], _, h => by rw [RepL] at h; rw [h]; rfl
  | x :: xs, vs, h => by
    rw [RepL] at h
    obtain ⟨v, r, e, _, h2⟩ := h
    rw [e, List.length_cons, List.length_cons, RepL.length h2]
theorem RepL.get : ∀ {xs : List AV} {vs : List V} {i : Nat} {v : V}, RepL c0 A D H xs vs → vs[i]? = some v → ∃ x, xs[i]? = some x ∧ Rep c0 A D H x v
  | [], _, i, v, h, e => by rw [RepL] at h; rw [h] at e; simp at e
  | x :: xs, vs, i, v, h, e => by
    rw [RepL] at h
    obtain ⟨w, r, e1, h1, h2⟩ := h
    subst e1
    cases i with
    | zero => simp at e; subst e; exact ⟨x, rfl, h1⟩
    | succ i =>
      obtain ⟨y, e2, h3⟩ := RepL.get h2 (show r[i]? = some v by simpa using e)
      exact ⟨y, by simpa using e2, h3⟩
theorem RepL.get' {xs : List AV} {vs : List V} {i : Nat} {x : AV} (h : RepL c0 A D H xs vs) (e : xs[i]? = some x) : ∃ v, vs[i]? = some v ∧ Rep c0 A D H x v := by
  have hi : i < vs.length := by
    rw [h.length]
    exact (List.getElem?_eq_some_iff.mp e).1
  obtain ⟨y, e1, r⟩ := h.get (v := vs[i]) (List.getElem?_eq_getElem hi)
  rw [e] at e1
  cases e1
  exact ⟨_, List.getElem?_eq_getElem hi, r⟩
theorem RepL.append : ∀ {xs ys : List AV} {vs ws : List V}, RepL c0 A D H xs vs → RepL c0 A D H ys ws → RepL c0 A D H (xs ++ ys) (vs ++ ws)
  | [], _, _, _, h, h' => by rw [RepL] at h; rw [h]; exact h'
  | x :: xs, ys, vs, ws, h, h' => by
    rw [RepL] at h
    obtain ⟨v, r, e, h1, h2⟩ := h
    subst e
    show RepL c0 A D H (x :: (xs ++ ys)) (v :: (r ++ ws))
    rw [RepL]
    exact ⟨v, r ++ ws, rfl, h1, RepL.append h2 h'⟩
theorem RepL.nil : RepL c0 A D H [] [] := by rw [RepL]
theorem RepL.cons {x : AV} {xs : List AV} {v : V} {vs : List V} (h : Rep c0 A D H x v) (h' : RepL c0 A D H xs vs) : RepL c0 A D H (x :: xs) (v :: vs) := by
  rw [RepL]
  exact ⟨v, vs, rfl, h, h'⟩
theorem RepL.one {x : AV} {v : V} (h : Rep c0 A D H x v) : RepL c0 A D H [x] [v] := .cons h .nil
theorem RepL.of : ∀ {xs : List AV} {vs : List V}, vs.length = xs.length → (∀ (i : Nat) (x : AV) (v : V), xs[i]? = some x → vs[i]? = some v → Rep c0 A D H x v) → RepL c0 A D H xs vs
  | [], [], _, _ => .nil
  | [], _ :: _, e, _ => by simp at e
  | _ :: _, [], e, _ => by simp at e
  | x :: xs, v :: vs, e, h => .cons (h 0 x v rfl rfl) (RepL.of (by simpa using e) fun i y w e1 e2 => h (i + 1) y w (by simpa using e1) (by simpa using e2))
theorem RepL.take {xs : List AV} {vs : List V} (n : Nat) (h : RepL c0 A D H xs vs) : RepL c0 A D H (xs.take n) (vs.take n) := by
  refine .of (by rw [List.length_take, List.length_take, h.length]) fun i x v e1 e2 => ?_
  rw [List.getElem?_take] at e1 e2
  split at e1
  · rename_i hi
    rw [if_pos hi] at e2
    obtain ⟨y, e3, r⟩ := h.get e2
    rw [e1] at e3
    cases e3
    exact r
  · cases e1
theorem RepL.drop {xs : List AV} {vs : List V} (n : Nat) (h : RepL c0 A D H xs vs) : RepL c0 A D H (xs.drop n) (vs.drop n) := by
  refine .of (by rw [List.length_drop, List.length_drop, h.length]) fun i x v e1 e2 => ?_
  rw [List.getElem?_drop] at e1 e2
  obtain ⟨y, e3, r⟩ := h.get e2
  rw [e1] at e3
  cases e3
  exact r
theorem RepL.set {xs : List AV} {vs : List V} {x : AV} {v : V} (n : Nat) (h : RepL c0 A D H xs vs) (r : Rep c0 A D H x v) : RepL c0 A D H (xs.set n x) (vs.set n v) := by
  refine .of (by rw [List.length_set, List.length_set, h.length]) fun i y w e1 e2 => ?_
  by_cases hi : n = i
  · subst hi
    have h1 : n < vs.length := by
      have := (List.getElem?_eq_some_iff.mp e2).1
      rwa [List.length_set] at this
    rw [List.getElem?_set_self h1] at e2
    rw [List.getElem?_set_self (by rw [← h.length]; exact h1)] at e1
    cases e1
    cases e2
    exact r
  · rw [List.getElem?_set_ne hi] at e1 e2
    obtain ⟨z, e3, r'⟩ := h.get e2
    rw [e1] at e3
    cases e3
    exact r'
theorem RepL.ints : ∀ {ns : List Int} {vs : List V}, RepL c0 A D H (ns.map AV.int) vs → vs = ns.map V.int
  | [], _, h => by simpa [RepL] using h
  | n :: ns, vs, h => by
    rw [List.map_cons, RepL] at h
    obtain ⟨v, r, e, h1, h2⟩ := h
    rw [Rep] at h1
    rw [e, h1, RepL.ints h2]
    rfl
theorem RepL.ints' : ∀ (ns : List Int), RepL c0 A D H (ns.map AV.int) (ns.map V.int)
  | [] => .nil
  | n :: ns => .cons (by rw [Rep]) (RepL.ints' ns)
end
inductive Slot where
  | un | fro (t : AV) | ml (xs : List AV) | md (kd : Bool) (kvs : List (AV × AV)) | slf (c : Nat) (fs : List AV)
abbrev Env' := List Slot
structure Ext (g g' : G) (H H' : Hp) : Prop where
  keep : ∀ a o, H a = some o → (∀ i, g.own i ≠ some a) → ¬ g.B a → H' a = some o
  live : ∀ a, H a ≠ none → H' a ≠ none
  m : g'.M = g.M
  bsub : ∀ a, g.B a → g'.B a
  bnew : ∀ a, g'.B a → g.B a ∨ H a = none
  dsub : ∀ a, g.D a → g'.D a
  own : ∀ i a, g'.own i = some a → (∃ j, g.own j = some a) ∨ H a = none
  s : g'.S = g.S
theorem Ext.refl (g : G) (H : Hp) : Ext g g H H := ⟨fun _ _ h _ _ => h, fun _ h => h, rfl, fun _ h => h, fun _ h => .inl h, fun _ h => h, fun i _ h => .inl ⟨i, h⟩, rfl⟩
theorem none_back {g g' : G} {H H' : Hp} (e : Ext g g' H H') {a : Addr} (h : H' a = none) : H a = none := by
  cases q : H a with
  | none => rfl
  | some o => exact absurd h (e.live a (by rw [q]; exact fun z => by cases z))
theorem Ext.trans {g g1 g2 : G} {H H1 H2 : Hp} (e : Ext g g1 H H1) (e' : Ext g1 g2 H1 H2) : Ext g g2 H H2 where
  keep := fun a o h hn hb => by
    refine e'.keep a o (e.keep a o h hn hb) (fun i hi => ?_) fun hb' => ?_
    · rcases e.own i a hi with ⟨j, hj⟩ | hj
      · exact hn j hj
      · rw [h] at hj; cases hj
    · rcases e.bnew a hb' with z | z
      · exact hb z
      · rw [h] at z; cases z
  live := fun a h => e'.live a (e.live a h)
  m := e'.m.trans e.m
  bsub := fun a h => e'.bsub a (e.bsub a h)
  bnew := fun a h => (e'.bnew a h).elim (e.bnew a) fun z => .inr (none_back e z)
  dsub := fun a h => e'.dsub a (e.dsub a h)
  own := fun i a h => (e'.own i a h).elim (fun ⟨j, hj⟩ => e.own j a hj) fun z => .inr (none_back e z)
  s := e'.s.trans e.s
theorem Ext.av {g g' : G} {H H' : Hp} (e : Ext g g' H H') {a : Addr} {o : HO} (h : H a = some o) (na : ¬ g.Av a) : H' a = some o ∧ ¬ g'.Av a := by
  refine ⟨e.keep a o h (fun i hi => na (.inr (.inl ⟨i, hi⟩))) fun hb => na (.inr (.inr hb)), ?_⟩
  rintro (z | ⟨i, z⟩ | z)
  · exact na (.inl (by rw [← e.m]; exact z))
  · rcases e.own i a z with ⟨j, hj⟩ | hj
    · exact na (.inr (.inl ⟨j, hj⟩))
    · rw [h] at hj; cases hj
  · rcases e.bnew a z with hb | hb
    · exact na (.inr (.inr hb))
    · rw [h] at hb; cases hb
abbrev RepG (c0 : Gc) (g : G) (H : Hp) (t : AV) (v : V) : Prop := Rep c0 g.Av g.D H t v
abbrev RepsG (c0 : Gc) (g : G) (H : Hp) (t : List AV) (v : List V) : Prop := RepL c0 g.Av g.D H t v
theorem Ext.rep {c0 : Gc} {g g' : G} {H H' : Hp} (e : Ext g g' H H') {t : AV} {v : V} (h : RepG c0 g H t v) : RepG c0 g' H' t v := h.imp (fun _ _ q n => e.av q n) e.dsub
theorem Ext.reps {c0 : Gc} {g g' : G} {H H' : Hp} (e : Ext g g' H H') {t : List AV} {v : List V} (h : RepsG c0 g H t v) : RepsG c0 g' H' t v := h.imp (fun _ _ q n => e.av q n) e.dsub
theorem Ext.same {g : G} {H H' : Hp} (s : Same H H') : Ext g g H H' :=
  ⟨fun a o h _ _ => s a o h, fun a h => (by
    cases q : H a with
    | none => exact absurd q h
    | some o => rw [s a o q]; exact fun z => by cases z), rfl, fun _ h => h, fun _ h => .inl h, fun _ h => h, fun i _ h => .inl ⟨i, h⟩, rfl⟩
def KVs (c0 : Gc) (A D : Addr → Prop) (H : Hp) : List (AV × AV) → List (AV × V) → Prop
  | [], ws => ws = []
  | (k, x) :: r, ws => ∃ v ws', ws = (k, v) :: ws' ∧ Rep c0 A D H x v ∧ KVs c0 A D H r ws'
def keyOf1 : AV → Option Key
  | .int i => some (.inl i)
  | .str s => some (.inr s)
  | _ => none
def keysOf : List AV → Option (List Key)
  | [] => some []
  | x :: xs => match keyOf1 x, keysOf xs with
    | some k, some ks => some (k :: ks)
    | _, _ => none
def keyOfT : AV → Option (List Key)
  | .tup xs => keysOf xs
  | _ => none
def DicK : List (AV × V) → List (Key × V) → Prop := Paired fun p q => keyOf1 p.1 = some q.1 ∧ p.2 = q.2
def DicT : List (AV × V) → List (List Key × V) → Prop := Paired fun p q => keyOfT p.1 = some q.1 ∧ p.2 = q.2
def slotOk (c0 : Gc) (g : G) (H : Hp) (o : Option Addr) (sv : Option (Option V)) : Slot → Prop
  | .un => o = none
  | .fro t => o = none ∧ ∃ v, sv = some (some v) ∧ RepG c0 g H t v
  | .ml xs => ∃ p vs, o = some p ∧ sv = some (some (.ref p)) ∧ H p = some (.lst vs) ∧ RepsG c0 g H xs vs
  | .md kd kvs => ∃ p ws, o = some p ∧ sv = some (some (.ref p)) ∧ KVs c0 g.Av g.D H kvs ws ∧ ((∃ us, H p = some (.dK us) ∧ DicK ws us ∧ kd = true) ∨ ∃ us, H p = some (.dT us) ∧ DicT ws us ∧ kd = false)
  | .slf c fs => ∃ p C dx vs, o = some p ∧ sv = some (some (.ref p)) ∧ c0.mg (c0.ct c).1 = some (.ref C) ∧ H p = some (.ins C dx ((c0.ct c).2.zip vs)) ∧ vs.length ≤ (c0.ct c).2.length ∧ RepsG c0 g H fs vs ∧ g.S = some p
structure Rel (c0 : Gc) (β : BInv) (g : G) (ρ : Env') (σ : L2.St) (H : Hp) : Prop where
  len : σ.length = ρ.length
  sl : ∀ (i : Nat) (s : Slot), ρ[i]? = some s → slotOk c0 g H (g.own i) σ[i]? s
  out : ∀ i, ρ.length ≤ i → g.own i = none
  inj : ∀ i j a, g.own i = some a → g.own j = some a → i = j
  alive : ∀ a, g.M a → H a ≠ none
  nt : ∀ a, g.M a → ∀ vs, H a ≠ some (.tup vs)
  sep : ∀ i a, g.own i = some a → ¬ g.M a ∧ ¬ g.B a
  mb : ∀ a, g.M a → ¬ g.B a
  box : β.I g.B g.D H
theorem KVs.imp {c0 : Gc} {A A' D D' : Addr → Prop} {H H' : Hp} (hk : ∀ a o, H a = some o → ¬ A a → H' a = some o ∧ ¬ A' a) (hd : ∀ a, D a → D' a) : ∀ {kvs : List (AV × AV)} {ws : List (AV × V)}, KVs c0 A D H kvs ws → KVs c0 A' D' H' kvs ws
  | [], _, h => h
  | (_, _) :: r, _, ⟨v, ws', e, h1, h2⟩ => ⟨v, ws', e, h1.imp hk hd, KVs.imp hk hd h2⟩
theorem Rel.ownLive {c0 : Gc} {β : BInv} {g : G} {ρ : Env'} {σ : L2.St} {H : Hp} (r : Rel c0 β g ρ σ H) {i : Nat} {a : Addr} (h : g.own i = some a) : H a ≠ none := by
  by_cases hi : i < ρ.length
  · have q := r.sl i ρ[i] (List.getElem?_eq_getElem hi)
    cases e : ρ[i] with
    | un => rw [e, h] at q; cases (show some a = none from q)
    | fro t => rw [e, h] at q; cases (show some a = none ∧ _ from q).1
    | ml xs =>
      rw [e, h] at q
      obtain ⟨p, vs, e1, _, e2, _⟩ := q
      cases e1
      rw [e2]; exact fun z => by cases z
    | md kd kvs =>
      rw [e, h] at q
      obtain ⟨p, vs, e1, _, _, ⟨us, e2, _⟩ | ⟨us, e2, _⟩⟩ := q <;> (cases e1; rw [e2]; exact fun z => by cases z)
    | slf c fs =>
      rw [e, h] at q
      obtain ⟨p, C, dx, vs, e1, _, _, e2, _⟩ := q
      cases e1
      rw [e2]; exact fun z => by cases z
  · rw [r.out i (by omega)] at h; cases h
theorem Rel.avLive {c0 : Gc} {β : BInv} {g : G} {ρ : Env'} {σ : L2.St} {H : Hp} (r : Rel c0 β g ρ σ H) {a : Addr} (h : g.Av a) : H a ≠ none := by
  rcases h with h | ⟨i, h⟩ | h
  · exact r.alive a h
  · exact r.ownLive h
  · exact β.live r.box h
theorem Rel.avNt {c0 : Gc} {β : BInv} {g : G} {ρ : Env'} {σ : L2.St} {H : Hp} (r : Rel c0 β g ρ σ H) {a : Addr} (h : g.Av a) (ws : List V) : H a ≠ some (.tup ws) := by
  rcases h with h | ⟨i, h⟩ | h
  · exact r.nt a h ws
  · by_cases hi : i < ρ.length
    · have q := r.sl i ρ[i] (List.getElem?_eq_getElem hi)
      cases e : ρ[i] with
      | un => rw [e, h] at q; cases (show some a = none from q)
      | fro t => rw [e, h] at q; cases (show some a = none ∧ _ from q).1
      | ml xs =>
        rw [e, h] at q
        obtain ⟨p, vs, e1, _, e2, _⟩ := q
        cases e1
        rw [e2]; exact fun z => by cases z
      | md kd kvs =>
        rw [e, h] at q
        obtain ⟨p, vs, e1, _, _, ⟨us, e2, _⟩ | ⟨us, e2, _⟩⟩ := q <;> (cases e1; rw [e2]; exact fun z => by cases z)
      | slf c fs =>
        rw [e, h] at q
        obtain ⟨p, C, dx, vs, e1, _, _, e2, _⟩ := q
        cases e1
        rw [e2]; exact fun z => by cases z
    · rw [r.out i (by omega)] at h; cases h
  · exact β.nt r.box h ws
theorem Rel.step {c0 : Gc} {β : BInv} {g g' : G} {ρ : Env'} {σ : L2.St} {H H' : Hp} (r : Rel c0 β g ρ σ H) (e : Ext g g' H H') (ho : g'.own = g.own) (hk : ∀ i a o, g.own i = some a → H a = some o → H' a = some o) (hb : β.I g'.B g'.D H') : Rel c0 β g' ρ σ H' where
  len := r.len
  sl := fun i s hs => by
    have q := r.sl i s hs
    rw [ho]
    have hk' := fun a o (q : H a = some o) n => e.av q n
    cases s with
    | un => exact q
    | fro t => obtain ⟨a, v, b, c⟩ := q; exact ⟨a, v, b, e.rep c⟩
    | ml xs => obtain ⟨p, vs, e1, e2, e3, e4⟩ := q; exact ⟨p, vs, e1, e2, hk i p _ e1 e3, e.reps e4⟩
    | md kd kvs =>
      obtain ⟨p, ws, e1, e2, e3, e4⟩ := q
      refine ⟨p, ws, e1, e2, e3.imp hk' e.dsub, ?_⟩
      rcases e4 with ⟨us, e4, e5⟩ | ⟨us, e4, e5⟩
      · exact .inl ⟨us, hk i p _ e1 e4, e5⟩
      · exact .inr ⟨us, hk i p _ e1 e4, e5⟩
    | slf c fs => obtain ⟨p, C, dx, vs, e1, e2, e3, e4, e5, e6, e7⟩ := q; exact ⟨p, C, dx, vs, e1, e2, e3, hk i p _ e1 e4, e5, e.reps e6, e.s.trans e7⟩
  out := fun i h => by rw [ho]; exact r.out i h
  inj := fun i j a h1 h2 => r.inj i j a (by rw [← ho]; exact h1) (by rw [← ho]; exact h2)
  alive := fun a h => e.live a (r.alive a (by rw [← e.m]; exact h))
  nt := fun a h vs z => by
    rw [e.m] at h
    cases q : H a with
    | none => exact r.alive a h q
    | some o =>
      have k := e.keep a o q (fun i hi => (r.sep i a hi).1 h) (r.mb a h)
      rw [k] at z
      cases z
      exact r.nt a h vs q
  sep := fun i a h => by
    rw [ho] at h
    refine ⟨by rw [e.m]; exact (r.sep i a h).1, fun hb' => ?_⟩
    rcases e.bnew a hb' with z | z
    · exact (r.sep i a h).2 z
    · exact r.ownLive h z
  mb := fun a h hb' => by
    rw [e.m] at h
    rcases e.bnew a hb' with z | z
    · exact r.mb a h z
    · exact r.alive a h z
  box := hb
theorem Rel.same {c0 : Gc} {β : BInv} {g : G} {ρ : Env'} {σ : L2.St} {H H' : Hp} (r : Rel c0 β g ρ σ H) (s : Same H H') : Rel c0 β g ρ σ H' :=
  r.step (Ext.same s) rfl (fun _ _ _ _ h => s _ _ h) (β.frame r.box fun a h => by
    cases q : H a with
    | none => exact absurd q (β.live r.box h)
    | some o => exact s a o q)
end Dn
set_option Elab.async false
set_option linter.all false
set_option maxRecDepth 100000
namespace Dn
open PySem PySem.Spec PyProof.Rows L2
inductive Hd where
  | val (t : AV) | var (j : Nat)
abbrev Sem := Env' → T (Hd × Env')
abbrev SemL := Env' → T (List AV × Env')
abbrev SemB := Env' → T (Bool × Env')
def look (ρ : Env') (j : Nat) : Option AV := match ρ[j]? with
  | some (.fro t) => some t
  | some (.ml xs) => some (.lst xs)
  | _ => none
def rs : Hd → Env' → Option AV
  | .val t, _ => some t
  | .var j, ρ => look ρ j
def frz : Hd × Env' → T (AV × Env')
  | (.val t, ρ) => .ret (t, ρ)
  | (.var j, ρ) => match ρ[j]? with
    | some (.fro t) => .ret (t, ρ)
    | some (.ml xs) => .ret (.lst xs, ρ.set j (.fro (.lst xs)))
    | _ => .bad
def lift {α : Type} : Option α → T α
  | some a => .ret a
  | none => .bad
abbrev gc (X : Cx) (ct : CT) : Gc := ⟨X.K, X.mg, ct⟩
section
variable (c0 : Gc) (β : BInv) (Ex : XK)
def DOk (H : Hp) (d : Option Addr) (fs : List Str) (vs : List V) : Prop := (∃ a, d = some a ∧ fs ≠ [] ∧ H a = some (.xd (fs.zip vs))) ∨ (d = none ∧ fs = [])
theorem DOk.at {H : Hp} {d : Option Addr} {f : Str} {vs : List V} (h : DOk H d [f] vs) : ∃ a, d = some a ∧ H a = some (.xd ([f].zip vs)) := by
  rcases h with ⟨a, e, _, q⟩ | ⟨_, e⟩
  · exact ⟨a, e, q⟩
  · cases e
def okT {α : Type} (g : G) (H : Hp) (m : T α) (Q : G → Hp → α → Prop) : Prop :=
  m.all (fun a => ∀ g' H', Ext g g' H H' → Q g' H' a) fun c xs => ∀ g' H' C d vs, Ext g g' H H' → β.I g'.B g'.D H' → c0.mg (c0.ct c).1 = some (.ref C) → DOk H' d (c0.ct c).2 vs → vs.length = (c0.ct c).2.length → RepsG c0 g' H' xs vs → Ex (.ref C) d H'
def RepH (g : G) (σ : L2.St) (H : Hp) : Hd → V → Prop
  | .val t, v => RepG c0 g H t v
  | .var j, v => σ[j]? = some (some v)
def RepR (g : G) (H : Hp) (t : AV) (v : V) : Prop :=
  RepG c0 g H t v ∨ ∃ xs p vs, t = .lst xs ∧ v = .ref p ∧ (∃ i, g.own i = some p) ∧ H p = some (.lst vs) ∧ RepsG c0 g H xs vs
def rdE (f : Sem) : TE := fun σ H Q => ∃ g ρ, Rel c0 β g ρ σ H ∧ okT c0 β Ex g H (f ρ) fun g' H' p => ∀ v, Rel c0 β g' p.2 σ H' → RepH c0 g' σ H' p.1 v → Q v H'
def rdL (f : SemL) : TA := fun σ H Q => ∃ g ρ, Rel c0 β g ρ σ H ∧ okT c0 β Ex g H (f ρ) fun g' H' p => ∀ vs, Rel c0 β g' p.2 σ H' → RepsG c0 g' H' p.1 vs → Q vs H'
def rdB (f : SemB) : TT := fun σ H Q => ∃ g ρ, Rel c0 β g ρ σ H ∧ okT c0 β Ex g H (f ρ) fun g' H' p => Rel c0 β g' p.2 σ H' → Q p.1 H'
end
section
variable {c0 : Gc} {β : BInv} {Ex : XK} {α γ : Type} {g : G} {H : Hp} {σ : L2.St} {ρ : Env'}
theorem okT_bind {m : T α} {k : α → T γ} {Q : G → Hp → γ → Prop} (h : okT c0 β Ex g H (m.bind k) Q) : okT c0 β Ex g H m fun g1 H1 a => okT c0 β Ex g1 H1 (k a) Q :=
  T.all_mono (T.all_bind.mp h) (fun a q g1 H1 e => T.all_mono q (fun b q g2 H2 e2 => q g2 H2 (e.trans e2)) fun c xs q g' H' C d vs e2 => q g' H' C d vs (e.trans e2)) fun _ _ q => q
theorem okT_mono {m : T α} {Q Q' : G → Hp → α → Prop} (h : okT c0 β Ex g H m Q) (hQ : ∀ g' H' a, Ext g g' H H' → Q g' H' a → Q' g' H' a) : okT c0 β Ex g H m Q' :=
  T.all_mono h (fun a q g' H' e => hQ g' H' a e (q g' H' e)) fun _ _ q => q
theorem okT_ret {a : α} {Q : G → Hp → α → Prop} (h : okT c0 β Ex g H (.ret a) Q) : Q g H a := h g H (Ext.refl g H)
theorem okT_ret' {a : α} {Q : G → Hp → α → Prop} (h : okT c0 β Ex g H (.ret a) Q) {g' : G} {H' : Hp} (e : Ext g g' H H') : Q g' H' a := h g' H' e
theorem okT_lift {o : Option α} {k : α → T γ} {Q : G → Hp → γ → Prop} (h : okT c0 β Ex g H ((lift o).bind k) Q) : ∃ a, o = some a ∧ okT c0 β Ex g H (k a) Q := by
  cases o with
  | none => exact (show False from h).elim
  | some a => exact ⟨a, rfl, h⟩
theorem RepH.ext {g' : G} {H' : Hp} {h : Hd} {v : V} (e : Ext g g' H H') (r : RepH c0 g σ H h v) : RepH c0 g' σ H' h v := by
  cases h with
  | val t => exact e.rep r
  | var j => exact r
theorem Rel.look {j : Nat} {t : AV} {v : V} (r : Rel c0 β g ρ σ H) (hl : look ρ j = some t) (hv : σ[j]? = some (some v)) : RepR c0 g H t v := by
  unfold Dn.look at hl
  cases hs : ρ[j]? with
  | none => rw [hs] at hl; cases hl
  | some s =>
    have q := r.sl j s hs
    rw [hs] at hl
    cases s with
    | un => cases hl
    | fro u =>
      cases hl
      obtain ⟨_, w, e, rp⟩ := q
      rw [hv] at e
      cases e
      exact .inl rp
    | ml xs =>
      cases hl
      obtain ⟨p, vs, e1, e2, e3, e4⟩ := q
      rw [hv] at e2
      cases e2
      exact .inr ⟨xs, p, vs, rfl, rfl, ⟨j, e1⟩, e3, e4⟩
    | md kd kvs => cases hl
    | slf c fs => cases hl
theorem RepH.rs {h : Hd} {t : AV} {v : V} (r : Rel c0 β g ρ σ H) (rh : RepH c0 g σ H h v) (hr : rs h ρ = some t) : RepR c0 g H t v := by
  cases h with
  | val u => cases hr; exact .inl rh
  | var j => exact r.look hr rh
def G.no (g : G) (j : Nat) : G := { g with own := fun i => if i = j then none else g.own i }
theorem ext_no (g : G) (j : Nat) (H : Hp) : Ext g (g.no j) H H := ⟨fun _ _ h _ _ => h, fun _ h => h, rfl, fun _ h => h, fun _ h => .inl h, fun _ h => h, fun i a h => by
  unfold G.no at h
  simp only at h
  split at h
  · cases h
  · exact .inl ⟨i, h⟩, rfl⟩
theorem slotOk_ext {g' : G} {H' : Hp} {o : Option Addr} {sv : Option (Option V)} {s : Slot} (e : Ext g g' H H') (hk : ∀ a ob, o = some a → H a = some ob → H' a = some ob) (q : slotOk c0 g H o sv s) : slotOk c0 g' H' o sv s := by
  cases s with
  | un => exact q
  | fro t => obtain ⟨a, v, b, c⟩ := q; exact ⟨a, v, b, e.rep c⟩
  | ml xs => obtain ⟨p, vs, e1, e2, e3, e4⟩ := q; exact ⟨p, vs, e1, e2, hk p _ e1 e3, e.reps e4⟩
  | md kd kvs =>
    obtain ⟨p, ws, e1, e2, e3, e4⟩ := q
    refine ⟨p, ws, e1, e2, e3.imp (fun _ _ q n => e.av q n) e.dsub, ?_⟩
    rcases e4 with ⟨us, e4, e5⟩ | ⟨us, e4, e5⟩
    · exact .inl ⟨us, hk p _ e1 e4, e5⟩
    · exact .inr ⟨us, hk p _ e1 e4, e5⟩
  | slf c fs => obtain ⟨p, C, dx, vs, e1, e2, e3, e4, e5, e6, e7⟩ := q; exact ⟨p, C, dx, vs, e1, e2, e3, hk p _ e1 e4, e5, e.reps e6, e.s.trans e7⟩
theorem Rel.put {g' : G} {H' : Hp} {σ' : L2.St} {j : Nat} {s : Slot} (r : Rel c0 β g ρ σ H) (e : Ext g g' H H') (hl : σ'.length = σ.length) (hs : ∀ i, i ≠ j → σ'[i]? = σ[i]?) (hj : j < ρ.length)
    (ho : ∀ i, i ≠ j → g'.own i = g.own i) (hk : ∀ i a o, i ≠ j → g.own i = some a → H a = some o → H' a = some o) (hb : β.I g'.B g'.D H')
    (hn : slotOk c0 g' H' (g'.own j) σ'[j]? s) (hsep : ∀ a, g'.own j = some a → ¬ g'.M a ∧ ¬ g'.B a ∧ ∀ i, i ≠ j → g.own i ≠ some a) : Rel c0 β g' (ρ.set j s) σ' H' where
  len := by rw [hl, List.length_set]; exact r.len
  sl := fun i u hi => by
    by_cases hij : i = j
    · subst hij
      rw [List.getElem?_set_self hj] at hi
      cases hi
      exact hn
    · rw [List.getElem?_set_ne (Ne.symm hij)] at hi
      rw [hs i hij, ho i hij]
      exact slotOk_ext e (fun a o h1 h2 => hk i a o hij h1 h2) (r.sl i u hi)
  out := fun i hi => by
    rw [List.length_set] at hi
    rw [ho i (by omega)]
    exact r.out i hi
  inj := fun i k a h1 h2 => by
    by_cases hi : i = j
    · by_cases hk' : k = j
      · rw [hi, hk']
      · subst hi
        rw [ho k hk'] at h2
        exact absurd h2 ((hsep a h1).2.2 k hk')
    · by_cases hk' : k = j
      · subst hk'
        rw [ho i hi] at h1
        exact absurd h1 ((hsep a h2).2.2 i hi)
      · rw [ho i hi] at h1
        rw [ho k hk'] at h2
        exact r.inj i k a h1 h2
  alive := fun a h => e.live a (r.alive a (by rw [← e.m]; exact h))
  nt := fun a h vs z => by
    rw [e.m] at h
    cases q : H a with
    | none => exact r.alive a h q
    | some o =>
      have k := e.keep a o q (fun i hi => (r.sep i a hi).1 h) (r.mb a h)
      rw [k] at z
      cases z
      exact r.nt a h vs q
  sep := fun i a h => by
    by_cases hi : i = j
    · subst hi
      exact ⟨(hsep a h).1, (hsep a h).2.1⟩
    · rw [ho i hi] at h
      refine ⟨by rw [e.m]; exact (r.sep i a h).1, fun hb' => ?_⟩
      rcases e.bnew a hb' with z | z
      · exact (r.sep i a h).2 z
      · exact r.ownLive h z
  mb := fun a h hb' => by
    rw [e.m] at h
    rcases e.bnew a hb' with z | z
    · exact r.mb a h z
    · exact r.alive a h z
  box := hb
theorem own_no {g : G} {j : Nat} : (g.no j).own j = none := by simp [G.no]
theorem own_no_ne {g : G} {i j : Nat} (h : i ≠ j) : (g.no j).own i = g.own i := by simp [G.no, h]
theorem frz_ok {p : Hd × Env'} {v : V} {k : AV × Env' → T γ} {Q : G → Hp → γ → Prop} (r : Rel c0 β g p.2 σ H) (rh : RepH c0 g σ H p.1 v) (h : okT c0 β Ex g H ((frz p).bind k) Q) :
    ∃ g' q, Ext g g' H H ∧ Rel c0 β g' q.2 σ H ∧ RepG c0 g' H q.1 v ∧ okT c0 β Ex g' H (k q) Q := by
  obtain ⟨hd, ρ⟩ := p
  cases hd with
  | val t => exact ⟨g, (t, ρ), .refl g H, r, rh, h⟩
  | var j =>
    have hv : σ[j]? = some (some v) := rh
    have r : Rel c0 β g ρ σ H := r
    cases hs : ρ[j]? with
    | none => simp only [frz, hs] at h; exact (show False from h).elim
    | some s =>
      have q := r.sl j s hs
      simp only [frz, hs] at h
      cases s with
      | un => exact (show False from h).elim
      | fro u =>
        obtain ⟨_, w, e, rp⟩ := q
        rw [hv] at e
        cases e
        exact ⟨g, (u, ρ), .refl g H, r, rp, h⟩
      | ml xs =>
        obtain ⟨p, vs, e1, e2, e3, e4⟩ := q
        rw [hv] at e2
        cases e2
        have E := ext_no g j H
        have rp : RepG c0 (g.no j) H (.lst xs) (.ref p) := by
          rw [RepG, Rep]
          refine ⟨p, vs, rfl, ⟨?_, e3⟩, E.reps e4⟩
          rintro (z | ⟨i, z⟩ | z)
          · exact (r.sep j p e1).1 z
          · by_cases hi : i = j
            · subst hi; rw [own_no] at z; cases z
            · rw [own_no_ne hi] at z
              exact hi (r.inj i j p z e1)
          · exact (r.sep j p e1).2 z
        refine ⟨g.no j, (.lst xs, ρ.set j (.fro (.lst xs))), E, ?_, rp, ?_⟩
        · refine r.put E rfl (fun _ _ => rfl) (List.getElem?_eq_some_iff.mp hs).1 (fun i hi => own_no_ne hi) (fun _ _ _ _ _ h => h) r.box ?_ fun a h => by rw [own_no] at h; cases h
          rw [own_no]
          exact ⟨rfl, .ref p, hv, rp⟩
        · exact T.all_mono h (fun a q g' H' e => q g' H' (E.trans e)) fun c xs q g' H' C d vs e2 => q g' H' C d vs (E.trans e2)
      | md kd kvs => exact (show False from h).elim
      | slf c fs => exact (show False from h).elim
end
section
variable (X : Cx) (ct : CT) (β : BInv) (Ex : XK)
def JE (e : Expr) (f : Sem) : Prop := PE X e (rdE (gc X ct) β Ex f)
def JL (es : List Expr) (f : SemL) : Prop := PA X es (rdL (gc X ct) β Ex f)
def JT (e : Expr) (f : SemB) : Prop := PT X e (rdB (gc X ct) β Ex f)
end
theorem PE.imp {X : Cx} {e : Expr} {t t' : TE} (h : PE X e t) (i : ∀ σ H Q, t' σ H Q → t σ H Q) : PE X e t' := ⟨fun pins s σ H Q I q => h.run pins s σ H Q I (i σ H Q q)⟩
theorem PT.imp {X : Cx} {e : Expr} {t t' : TT} (h : PT X e t) (i : ∀ σ H Q, t' σ H Q → t σ H Q) : PT X e t' := ⟨fun pins s σ H Q I q => h.run pins s σ H Q I (i σ H Q q)⟩
theorem PW.imp {X : Cx} {e : Expr} {t t' : TT} (h : PW X e t) (i : ∀ σ H Q, t' σ H Q → t σ H Q) : PW X e t' := ⟨fun wh pins s σ H Q I q => h.run wh pins s σ H Q I (i σ H Q q)⟩
theorem PA.imp {X : Cx} {e : List Expr} {t t' : TA} (h : PA X e t) (i : ∀ σ H Q, t' σ H Q → t σ H Q) : PA X e t' := ⟨fun pos pins s σ H Q I q => h.run pos pins s σ H Q I (i σ H Q q)⟩
def fVar (j : Nat) : Sem := fun ρ => match ρ[j]? with
  | some .un => .bad
  | some _ => .ret (.var j, ρ)
  | none => .bad
def fC (t : AV) : Sem := fun ρ => .ret (.val t, ρ)
section
variable {X : Cx} {ct : CT} {β : BInv} {Ex : XK}
theorem Rel.val {c0 : Gc} {g : G} {ρ : Env'} {σ : L2.St} {H : Hp} {j : Nat} {s : Slot} (r : Rel c0 β g ρ σ H) (h : ρ[j]? = some s) (hu : s ≠ .un) : ∃ v, σ[j]? = some (some v) := by
  have q := r.sl j s h
  cases s with
  | un => exact absurd rfl hu
  | fro t => obtain ⟨_, v, e, _⟩ := q; exact ⟨v, e⟩
  | ml xs => obtain ⟨p, vs, _, e, _⟩ := q; exact ⟨_, e⟩
  | md kd kvs => obtain ⟨p, vs, _, e, _⟩ := q; exact ⟨_, e⟩
  | slf c fs => obtain ⟨p, C, dx, vs, _, e, _⟩ := q; exact ⟨_, e⟩
theorem j_var (j : Nat) {x : Str} {pos : Pos} (hN : X.N[j]? = some x := by rfl) (hv : Vis X.env.scope x := by first | exact Or.inl rfl | exact Or.inr (Or.inl rfl) | exact Or.inr (Or.inr rfl)) (hd : (x == ("__debug__" : Str)) = false := by decide +kernel)
    (hcd : (x == ("__classdict__" : Str)) = false := by decide +kernel) : JE X ct β Ex (.Name x pos) (fVar j) := by
  refine PE.imp (pe_var (i := j) hN hv hd hcd) fun σ H Q h => ?_
  obtain ⟨g, ρ, r, h⟩ := h
  unfold fVar at h
  cases hs : ρ[j]? with
  | none => rw [hs] at h; exact (show False from h).elim
  | some s =>
    rw [hs] at h
    by_cases hu : s = .un
    · subst hu; exact (show False from h).elim
    · obtain ⟨v, e⟩ := r.val hs hu
      have h' : okT (gc X ct) β Ex g H (.ret (Hd.var j, ρ)) fun g' H' p => ∀ v, Rel (gc X ct) β g' p.2 σ H' → RepH (gc X ct) g' σ H' p.1 v → Q v H' := by
        cases s <;> first | exact h | exact absurd rfl hu
      exact ⟨v, e, okT_ret h' v r e⟩
theorem j_c {t : AV} {v : V} {e : Expr} (h : PE X e (tC v)) (hr : ∀ g H, RepG (gc X ct) g H t v) : JE X ct β Ex e (fC t) := by
  refine PE.imp h fun σ H Q h => ?_
  obtain ⟨g, ρ, r, h⟩ := h
  exact okT_ret h v r (hr g H)
theorem j_int {i j pos} : JE X ct β Ex (.Constant (.int i) j pos) (fC (.int i)) := j_c pe_int fun _ _ => by rw [RepG, Rep]
theorem j_bl {i j pos} : JE X ct β Ex (.Constant (.bool i) j pos) (fC (.bl i)) := j_c pe_bl fun _ _ => by rw [RepG, Rep]
theorem j_non {j pos} : JE X ct β Ex (.Constant .none j pos) (fC .non) := j_c pe_non fun _ _ => by rw [RepG, Rep]
theorem j_str {i j pos} : JE X ct β Ex (.Constant (.str i) j pos) (fC (.str i)) := j_c pe_str fun _ _ => by rw [RepG, Rep]
def fBin (op : AV → AV → Option AV) (f k : Sem) : Sem := fun ρ => (f ρ).bind fun p => (k p.2).bind fun q => (lift (rs p.1 q.2)).bind fun a => (lift (rs q.1 q.2)).bind fun b => (lift (op a b)).bind fun z => .ret (.val z, q.2)
def Op2 (X : Cx) (ct : CT) (r : R2) (op : AV → AV → Option AV) : Prop := ∀ (g : G) (H : Hp) (a b z : AV) (x y : V) (Q : VK), RepR (gc X ct) g H a x → RepR (gc X ct) g H b y → op a b = some z →
  (∀ v H', Same H H' → RepG (gc X ct) g H' z v → Q v H') → r x y H Q
theorem fBin_ok {r : R2} {op : AV → AV → Option AV} {f k : Sem} (hop : Op2 X ct r op) {σ : L2.St} {H : Hp} {Q : VK} (h : rdE (gc X ct) β Ex (fBin op f k) σ H Q) :
    rdE (gc X ct) β Ex f σ H fun x H1 => rdE (gc X ct) β Ex k σ H1 fun y H2 => r x y H2 Q := by
  obtain ⟨g, ρ, R, h⟩ := h
  refine ⟨g, ρ, R, okT_mono (okT_bind h) fun g1 H1 p e1 h1 x R1 rx => ⟨g1, p.2, R1, okT_mono (okT_bind h1) fun g2 H2 q e2 h2 y R2 ry => ?_⟩⟩
  obtain ⟨a, ea, h3⟩ := okT_lift h2
  obtain ⟨b, eb, h4⟩ := okT_lift h3
  obtain ⟨z, ez, h5⟩ := okT_lift h4
  refine hop g2 H2 a b z x y Q ((rx.ext e2).rs R2 ea) (ry.rs R2 eb) ez fun v H' s rv => ?_
  exact okT_ret' h5 (Ext.same s) v (R2.same s) rv
theorem j_bin {op : Operator} {r : R2} {o : AV → AV → Option AV} {a b : Expr} {f k : Sem} {pos : Pos} (ho : OpR X (binaryOp op) r) (hop : Op2 X ct r o) (ha : JE X ct β Ex a f) (hb : JE X ct β Ex b k) : JE X ct β Ex (.BinOp a op b pos) (fBin o f k) :=
  PE.imp (pe_op ho ha hb) fun σ H Q h => fBin_ok hop h
theorem j_cmp {op : CmpOp} {r : R2} {o : AV → AV → Option AV} {a b : Expr} {f k : Sem} {pos : Pos} (ho : OpR X (compareOp op) r) (hop : Op2 X ct r o) (ha : JE X ct β Ex a f) (hb : JE X ct β Ex b k) (hm : behindInMarks op b = false) :
    JE X ct β Ex (.Compare a [op] [b] pos) (fBin o f k) := PE.imp (pe_cmpR ho ha hb hm) fun σ H Q h => fBin_ok hop h
def fUn (op : AV → Option AV) (f : Sem) : Sem := fun ρ => (f ρ).bind fun p => (lift (rs p.1 p.2)).bind fun a => (lift (op a)).bind fun z => .ret (.val z, p.2)
def Op1 (X : Cx) (ct : CT) (r : V → Hp → VK → Prop) (op : AV → Option AV) : Prop := ∀ (g : G) (H : Hp) (a z : AV) (x : V) (Q : VK), RepR (gc X ct) g H a x → op a = some z →
  (∀ v H', Same H H' → RepG (gc X ct) g H' z v → Q v H') → r x H Q
theorem fUn_ok {r : V → Hp → VK → Prop} {op : AV → Option AV} {f : Sem} (hop : Op1 X ct r op) {σ : L2.St} {H : Hp} {Q : VK} (h : rdE (gc X ct) β Ex (fUn op f) σ H Q) :
    rdE (gc X ct) β Ex f σ H fun x H1 => r x H1 Q := by
  obtain ⟨g, ρ, R, h⟩ := h
  refine ⟨g, ρ, R, okT_mono (okT_bind h) fun g1 H1 p e1 h1 x R1 rx => ?_⟩
  obtain ⟨a, ea, h3⟩ := okT_lift h1
  obtain ⟨z, ez, h5⟩ := okT_lift h3
  refine hop g1 H1 a z x Q (rx.rs R1 ea) ez fun v H' s rv => ?_
  exact okT_ret' h5 (Ext.same s) v (R1.same s) rv
theorem j_un {op : UnaryOp} {r : V → Hp → VK → Prop} {o : AV → Option AV} {a : Expr} {f : Sem} {pos : Pos} (ho : UnR X (unaryOp op) r) (hop : Op1 X ct r o) (ha : JE X ct β Ex a f) : JE X ct β Ex (.UnaryOp op a pos) (fUn o f) :=
  PE.imp (pe_un ho ha) fun σ H Q h => fUn_ok hop h
end
end Dn
set_option Elab.async false
set_option linter.all false
set_option maxRecDepth 100000
namespace Dn
open PySem PySem.Spec PyProof.Rows L2
section
variable {c0 : Gc} {g : G} {H : Hp} {t : AV} {v : V}
theorem RepR.non (h : RepR c0 g H .non v) : v = .non := by
  rcases h with h | ⟨xs, p, vs, e, _⟩
  · rw [RepG, Rep] at h; exact h
  · cases e
theorem RepR.bl {b : Bool} (h : RepR c0 g H (.bl b) v) : v = .bl b := by
  rcases h with h | ⟨xs, p, vs, e, _⟩
  · rw [RepG, Rep] at h; exact h
  · cases e
theorem RepR.int {i : Int} (h : RepR c0 g H (.int i) v) : v = .int i := by
  rcases h with h | ⟨xs, p, vs, e, _⟩
  · rw [RepG, Rep] at h; exact h
  · cases e
theorem RepR.str {i : Str} (h : RepR c0 g H (.str i) v) : v = .str i := by
  rcases h with h | ⟨xs, p, vs, e, _⟩
  · rw [RepG, Rep] at h; exact h
  · cases e
theorem RepR.tup {xs : List AV} (h : RepR c0 g H (.tup xs) v) : ∃ a vs, v = .ref a ∧ SqT c0.K H a vs ∧ RepsG c0 g H xs vs := by
  rcases h with h | ⟨ys, p, vs, e, _⟩
  · rw [RepG, Rep] at h
    obtain ⟨a, vs, e, q, r⟩ := h
    exact ⟨a, vs, e, q.sq, r⟩
  · cases e
theorem RepR.lst' {xs : List AV} (h : RepR c0 g H (.lst xs) v) : ∃ a vs, v = .ref a ∧ H a = some (.lst vs) ∧ RepsG c0 g H xs vs := by
  rcases h with h | ⟨ys, p, vs, e, e2, _, e3, r⟩
  · rw [RepG, Rep] at h
    obtain ⟨a, vs, e, q, r⟩ := h
    exact ⟨a, vs, e, q.2, r⟩
  · cases e
    exact ⟨p, vs, e2, e3, r⟩
theorem RepR.lst {xs : List AV} (h : RepR c0 g H (.lst xs) v) : ∃ a vs, v = .ref a ∧ SqL c0.K H a vs ∧ RepsG c0 g H xs vs :=
  let ⟨a, vs, e, q, r⟩ := h.lst'
  ⟨a, vs, e, .of q, r⟩
theorem RepR.ins {c : Nat} {xs : List AV} (h : RepR c0 g H (.ins c xs) v) : RepG c0 g H (.ins c xs) v := by
  rcases h with h | ⟨ys, p, vs, e, _⟩
  · exact h
  · cases e
theorem rep_non : RepG c0 g H .non .non := by rw [RepG, Rep]
theorem rep_bl {b : Bool} : RepG c0 g H (.bl b) (.bl b) := by rw [RepG, Rep]
theorem rep_int {i : Int} : RepG c0 g H (.int i) (.int i) := by rw [RepG, Rep]
theorem rep_str {i : Str} : RepG c0 g H (.str i) (.str i) := by rw [RepG, Rep]
theorem rep_tup_new {H' : Hp} {p : Addr} {xs : List AV} {vs : List V} (hp : ¬ g.Av p) (e : H' p = some (.tup vs)) (r : RepsG c0 g H' xs vs) : RepG c0 g H' (.tup xs) (.ref p) := by
  rw [RepG, Rep]
  exact ⟨p, vs, rfl, .inl ⟨hp, e⟩, r⟩
theorem rep_lst_new {H' : Hp} {p : Addr} {xs : List AV} {vs : List V} (hp : ¬ g.Av p) (e : H' p = some (.lst vs)) (r : RepsG c0 g H' xs vs) : RepG c0 g H' (.lst xs) (.ref p) := by
  rw [RepG, Rep]
  exact ⟨p, vs, rfl, ⟨hp, e⟩, r⟩
theorem same_upd {H : Hp} {p : Addr} {o : HO} (h : H p = none) : Same H (upd H p o) := fun b x e => by
  rw [upd_ne (ne_of_none e h)]
  exact e
end
def big : Nat := 1000000
@[irreducible] def below (j : Int) (k : Nat) : Bool := decide (j.natAbs < 2 ^ k)
theorem below_iff {j : Int} {k : Nat} : below j k = true ↔ j.natAbs < 2 ^ k := by
  unfold below
  exact decide_eq_true_iff
theorem below_of {j : Int} {k : Nat} (h : j.natAbs < 2 ^ k) : below j k = true := below_iff.mpr h
theorem below62 {j : Int} (h : below j 62 = true) : -(2 ^ 62) ≤ j ∧ j < 2 ^ 62 := by
  have := below_iff.mp h
  omega
theorem big_line : big ≤ sizeLine := by rw [sizeLine_eq]; decide
def tru : AV → Option Bool
  | .non => some false
  | .bl b => some b
  | .int i => some (i != 0)
  | .str s => if s.length ≤ big then some ((s.length : Int) != 0) else none
  | .tup xs => some (!xs.isEmpty)
  | .lst xs => some (!xs.isEmpty)
  | _ => none
theorem isEmpty_reps {c0 : Gc} {A D : Addr → Prop} {H : Hp} {xs : List AV} {vs : List V} (h : RepL c0 A D H xs vs) : vs.isEmpty = xs.isEmpty := by
  have e := h.length
  cases xs <;> cases vs <;> first | rfl | simp at e
theorem tru_okV {c0 : Gc} {g : G} {H : Hp} {t : AV} {v : V} {b : Bool} (h : RepR c0 g H t v) (e : tru t = some b) : TruV c0.K v H b := by
  cases t with
  | non => cases e; rw [h.non]; rfl
  | bl _ => cases e; rw [h.bl]; rfl
  | int _ => cases e; rw [h.int]; rfl
  | str s =>
    rw [h.str]
    have e' : (if s.length ≤ big then some ((s.length : Int) != 0) else none) = some b := e
    by_cases hs : s.length ≤ big
    · rw [if_pos hs] at e'
      cases e'
      exact ⟨Nat.le_trans hs big_line, rfl⟩
    · rw [if_neg hs] at e'
      cases e'
  | tup xs =>
    cases e
    obtain ⟨a, vs, rfl, q, r⟩ := h.tup
    exact .inr (.inl ⟨vs, q, by rw [isEmpty_reps r]⟩)
  | lst xs =>
    cases e
    obtain ⟨a, vs, rfl, q, r⟩ := h.lst
    exact .inl ⟨vs, q, by rw [isEmpty_reps r]⟩
  | ins _ _ => cases e
  | dic _ _ => cases e
  | dct _ _ => cases e
  | box => cases e
  | scr _ => cases e
  | any => cases e
def fTru (f : Sem) : SemB := fun ρ => (f ρ).bind fun p => (lift (rs p.1 p.2)).bind fun a => (lift (tru a)).bind fun b => .ret (b, p.2)
def blOf : AV → Option Bool
  | .bl b => some b
  | _ => none
def fBlT (f : Sem) : SemB := fun ρ => (f ρ).bind fun p => (lift (rs p.1 p.2)).bind fun a => (lift (blOf a)).bind fun b => .ret (b, p.2)
section
variable {X : Cx} {ct : CT} {β : BInv} {Ex : XK} {a b c : Expr} {f k l : Sem} {fb kb : SemB} {pos : Pos}
theorem jt_truth (ha : JE X ct β Ex a f) (he : ∀ whole, isTrue a X.env whole = (do let v ← whole; standAt a.pos; holding [v] (truthy v)) := by intro _; rfl) : JT X ct β Ex a (fTru f) := by
  refine PT.imp (pt_truth ha he) fun σ H Q h => ?_
  obtain ⟨g, ρ, R, h⟩ := h
  refine ⟨g, ρ, R, okT_mono (okT_bind h) fun g1 H1 p e1 h1 x R1 rx => ?_⟩
  obtain ⟨u, eu, h2⟩ := okT_lift h1
  obtain ⟨d, ed, h3⟩ := okT_lift h2
  exact ⟨d, tru_okV (rx.rs R1 eu) ed, okT_ret h3 R1⟩
theorem fBlT_ok {σ : L2.St} {H : Hp} {Q : Bool → Hp → Prop} (h : rdB (gc X ct) β Ex (fBlT f) σ H Q) : rdE (gc X ct) β Ex f σ H fun x H1 => ∃ k, x = .bl k ∧ Q k H1 := by
  obtain ⟨g, ρ, R, h⟩ := h
  refine ⟨g, ρ, R, okT_mono (okT_bind h) fun g1 H1 p e1 h1 x R1 rx => ?_⟩
  obtain ⟨u, eu, h2⟩ := okT_lift h1
  obtain ⟨d, ed, h3⟩ := okT_lift h2
  cases u with
  | bl _ =>
    cases ed
    exact ⟨_, (rx.rs R1 eu).bl, okT_ret h3 R1⟩
  | _ => cases ed
theorem jt_cmp {op : CmpOp} {r : R2} {o : AV → AV → Option AV} (ho : OpR X (compareOp op) r) (hop : Op2 X ct r o) (ha : JE X ct β Ex a f) (hb : JE X ct β Ex b k) (hm : behindInMarks op b = false) :
    JT X ct β Ex (.Compare a [op] [b] pos) (fBlT (fBin o f k)) := PT.imp (pt_cmpR ho ha hb hm) fun σ H Q h => fBin_ok hop (fBlT_ok h)
def fNotT (f : SemB) : SemB := fun ρ => (f ρ).bind fun p => .ret (!p.1, p.2)
theorem jt_not (ha : JT X ct β Ex a fb) : JT X ct β Ex (.UnaryOp .Not a pos) (fNotT fb) := by
  refine PT.imp (pt_not ha) fun σ H Q h => ?_
  obtain ⟨g, ρ, R, h⟩ := h
  exact ⟨g, ρ, R, okT_mono (okT_bind h) fun g1 H1 p e1 h1 R1 => okT_ret h1 R1⟩
def fAndT (f k : SemB) : SemB := fun ρ => (f ρ).bind fun p => if p.1 then k p.2 else .ret (false, p.2)
def fOrT (f k : SemB) : SemB := fun ρ => (f ρ).bind fun p => if p.1 then .ret (true, p.2) else k p.2
def JW (X : Cx) (ct : CT) (β : BInv) (Ex : XK) (e : Expr) (f : SemB) : Prop := PW X e (rdB (gc X ct) β Ex f)
theorem jw_pt {e : Expr} (h : JW X ct β Ex e fb) : JT X ct β Ex e fb := PW.pt h
theorem jw_or1 (ha : JT X ct β Ex a fb) : JW X ct β Ex (.BoolOp .Or [a] pos) fb := PW.imp (pw_or1 ha) fun _ _ _ h => h
theorem jw_or {rest : List Expr} (ha : JT X ct β Ex a fb) (hb : JW X ct β Ex (.BoolOp .Or (b :: rest) pos) kb) : JW X ct β Ex (.BoolOp .Or (a :: b :: rest) pos) (fOrT fb kb) := by
  refine PW.imp (pw_or ha hb) fun σ H Q h => ?_
  obtain ⟨g, ρ, R, h⟩ := h
  refine ⟨g, ρ, R, okT_mono (okT_bind h) fun g1 H1 p e1 h1 R1 => ?_⟩
  by_cases hp : p.1 = true
  · rw [if_pos hp] at h1 ⊢
    exact okT_ret h1 R1
  · rw [if_neg hp] at h1 ⊢
    exact ⟨g1, p.2, R1, h1⟩
def fAnd (f k : Sem) : Sem := fun ρ => (f ρ).bind fun p => (lift (rs p.1 p.2)).bind fun a => (lift (blOf a)).bind fun b => if b then k p.2 else .ret (.val (.bl false), p.2)
def fOr (f k : Sem) : Sem := fun ρ => (f ρ).bind fun p => (lift (rs p.1 p.2)).bind fun a => (lift (blOf a)).bind fun b => if b then .ret (.val (.bl true), p.2) else k p.2
def fNot (f : Sem) : Sem := fun ρ => (f ρ).bind fun p => (lift (rs p.1 p.2)).bind fun a => (lift (blOf a)).bind fun b => .ret (.val (.bl (!b)), p.2)
theorem okT_bl {g : G} {ρ : Env'} {σ : L2.St} {H : Hp} {b : Bool} {Q : VK} (h : okT (gc X ct) β Ex g H (.ret (Hd.val (.bl b), ρ)) fun g' H' p => ∀ v, Rel (gc X ct) β g' p.2 σ H' → RepH (gc X ct) g' σ H' p.1 v → Q v H') (R : Rel (gc X ct) β g ρ σ H) : Q (.bl b) H :=
  okT_ret h (.bl b) R (show RepG (gc X ct) g H (.bl b) (.bl b) from rep_bl)
theorem blOf_eq {t : AV} {b : Bool} (h : blOf t = some b) : t = .bl b := by
  cases t with
  | bl c => cases h; rfl
  | _ => cases h
theorem j_one {op} (h : JE X ct β Ex a f) : JE X ct β Ex (.BoolOp op [a] pos) f := PE.imp (pe_one h) fun _ _ _ h => h
theorem j_and {rest : List Expr} (ha : JE X ct β Ex a f) (hb : JE X ct β Ex (.BoolOp .And (b :: rest) pos) k) : JE X ct β Ex (.BoolOp .And (a :: b :: rest) pos) (fAnd f k) := by
  refine PE.imp (pe_and ha hb) fun σ H Q h => ?_
  obtain ⟨g, ρ, R, h⟩ := h
  refine ⟨g, ρ, R, okT_mono (okT_bind h) fun g1 H1 p e1 h1 x R1 rx => ?_⟩
  obtain ⟨u, eu, h2⟩ := okT_lift h1
  obtain ⟨d, ed, h3⟩ := okT_lift h2
  have eu' := blOf_eq ed
  subst eu'
  refine ⟨d, (rx.rs R1 eu).bl, ?_⟩
  cases d with
  | true => exact iteT ⟨g1, p.2, R1, h3⟩
  | false => exact iteF (okT_bl h3 R1)
theorem j_not (ha : JE X ct β Ex a f) : JE X ct β Ex (.UnaryOp .Not a pos) (fNot f) := by
  refine PE.imp (pe_not ha) fun σ H Q h => ?_
  obtain ⟨g, ρ, R, h⟩ := h
  refine ⟨g, ρ, R, okT_mono (okT_bind h) fun g1 H1 p e1 h1 x R1 rx => ?_⟩
  obtain ⟨u, eu, h2⟩ := okT_lift h1
  obtain ⟨d, ed, h3⟩ := okT_lift h2
  have eu' := blOf_eq ed
  subst eu'
  exact ⟨d, (rx.rs R1 eu).bl, okT_bl h3 R1⟩
def fIf (t : SemB) (f k : Sem) : Sem := fun ρ => (t ρ).bind fun p => if p.1 then f p.2 else k p.2
theorem j_ifExp (hc : JT X ct β Ex c fb) (ha : JE X ct β Ex a f) (hb : JE X ct β Ex b k) : JE X ct β Ex (.IfExp c a b pos) (fIf fb f k) := by
  refine PE.imp (pe_ifExp hc ha hb) fun σ H Q h => ?_
  obtain ⟨g, ρ, R, h⟩ := h
  refine ⟨g, ρ, R, okT_mono (okT_bind h) fun g1 H1 p e1 h1 R1 => ?_⟩
  by_cases hp : p.1 = true
  · rw [if_pos hp] at h1 ⊢
    exact ⟨g1, p.2, R1, h1⟩
  · rw [if_neg hp] at h1 ⊢
    exact ⟨g1, p.2, R1, h1⟩
def fChain (o o' : AV → AV → Option AV) (f k l : Sem) : Sem := fun ρ => (f ρ).bind fun p => (k p.2).bind fun q => (lift (rs p.1 q.2)).bind fun a => (lift (rs q.1 q.2)).bind fun b => (lift (o a b)).bind fun z => (lift (blOf z)).bind fun d =>
  if d then (l q.2).bind fun r => (lift (rs q.1 r.2)).bind fun b' => (lift (rs r.1 r.2)).bind fun c => (lift (o' b' c)).bind fun z => .ret (.val z, r.2) else .ret (.val (.bl false), q.2)
def Op2p (X : Cx) (ct : CT) (r : R2) (op : AV → AV → Option AV) : Prop := ∀ (g : G) (H : Hp) (a b z : AV) (x y : V) (Q : VK), RepR (gc X ct) g H a x → RepR (gc X ct) g H b y → op a b = some z →
  (∀ v, RepG (gc X ct) g H z v → Q v H) → r x y H Q
theorem Op2p.op {r : R2} {o : AV → AV → Option AV} (h : Op2p X ct r o) : Op2 X ct r o := fun g H a b z x y Q ra rb e q => h g H a b z x y Q ra rb e fun v rv => q v H (Same.refl H) rv
def lNil : SemL := fun ρ => .ret ([], ρ)
def lCons (f : Sem) (k : SemL) : SemL := fun ρ => (f ρ).bind fun p => (frz p).bind fun q => (k q.2).bind fun r => .ret (q.1 :: r.1, r.2)
theorem jl_nil : JL X ct β Ex [] lNil := PA.imp pa_nil fun σ H Q h => by
  obtain ⟨g, ρ, R, h⟩ := h
  exact okT_ret h _ R .nil
theorem jl_cons {es : List Expr} {m : SemL} (ha : JE X ct β Ex a f) (hr : JL X ct β Ex es m) (hs : starEach (a :: es) X.env = (false, eval a X.env) :: starEach es X.env := by rfl) : JL X ct β Ex (a :: es) (lCons f m) := by
  refine PA.imp (pa_cons ha hr hs) fun σ H Q h => ?_
  obtain ⟨g, ρ, R, h⟩ := h
  refine ⟨g, ρ, R, okT_mono (okT_bind h) fun g1 H1 p e1 h1 x R1 rx => ?_⟩
  obtain ⟨g2, q, e2, R2, rq, h2⟩ := frz_ok R1 rx h1
  refine ⟨g2, q.2, R2, okT_mono (okT_bind h2) fun g3 H3 r e3 h3 vs R3 rr => ?_⟩
  exact okT_ret h3 _ R3 (.cons (e3.rep rq) rr)
def fTup (k : SemL) : Sem := fun ρ => (k ρ).bind fun p => if p.1.length ≤ big then .ret (.val (.tup p.1), p.2) else .bad
def fLst (k : SemL) : Sem := fun ρ => (k ρ).bind fun p => if p.1.length ≤ big then .ret (.val (.lst p.1), p.2) else .bad
theorem Rel.freshAv {c0 : Gc} {g : G} {ρ : Env'} {σ : L2.St} {H : Hp} {p : Addr} (R : Rel c0 β g ρ σ H) (h : H p = none) : ¬ g.Av p := fun z => R.avLive z h
theorem j_tup {es : List Expr} {m : SemL} {x1} (h : JL X ct β Ex es m) : JE X ct β Ex (.Tuple es x1 pos) (fTup m) := by
  refine PE.imp (pe_tup h) fun σ H Q h => ?_
  obtain ⟨g, ρ, R, h⟩ := h
  refine ⟨g, ρ, R, okT_mono (okT_bind h) fun g1 H1 p e1 h1 vs R1 rx => ?_⟩
  by_cases hl : p.1.length ≤ big
  · rw [if_pos hl] at h1
    refine ⟨by rw [rx.length]; exact Nat.le_trans hl big_line, fun q hq => ?_⟩
    have s := same_upd (o := .tup vs) hq
    exact okT_ret' h1 (Ext.same s) _ (R1.same s) (rep_tup_new (R1.freshAv hq) upd_same ((Ext.same s).reps rx))
  · rw [if_neg hl] at h1
    exact (show False from h1).elim
end
end Dn
set_option Elab.async false
set_option linter.all false
set_option maxRecDepth 100000
namespace Dn
open PySem PySem.Spec PyProof.Rows L2
def dat : Nat → AV → Bool
  | _, .non => true
  | _, .bl _ => true
  | _, .int _ => true
  | _, .str s => PyData.strOk s
  | n + 1, .tup xs => xs.all (dat n)
  | n + 1, .lst xs => xs.all (dat n)
  | _, _ => false
def allEq (f : AV → AV → Bool) : List AV → List AV → Bool
  | [], [] => true
  | x :: xs, y :: ys => f x y && allEq f xs ys
  | _, _ => false
def aeq : Nat → AV → AV → Bool
  | _, .non, .non => true
  | _, .bl a, .bl b => a == b
  | _, .bl a, .int j => (if a then 1 else 0) == j
  | _, .int i, .bl b => i == (if b then 1 else 0)
  | _, .int i, .int j => i == j
  | _, .str x, .str y => x == y
  | n + 1, .tup xs, .tup ys => allEq (aeq n) xs ys
  | n + 1, .lst xs, .lst ys => allEq (aeq n) xs ys
  | _, _, _ => false
def toD : Nat → AV → PyData
  | _, .non => .none
  | _, .bl b => .bool b
  | _, .int i => .int i
  | _, .str s => .str s
  | n + 1, .tup xs => .tuple (xs.map (toD n))
  | n + 1, .lst xs => .list (xs.map (toD n))
  | _, _ => .none
theorem toD_lay : ∀ (n : Nat) (t : AV), dat n t = true → (toD n t).canLay0 = true ∧ (toD n t).depth ≤ n
  | n, .non, _ => by cases n <;> simp [toD, PyData.canLay0, PyData.depth]
  | n, .bl _, _ => by cases n <;> simp [toD, PyData.canLay0, PyData.depth]
  | n, .int _, _ => by cases n <;> simp [toD, PyData.canLay0, PyData.depth]
  | n, .str s, h => by
    have h' : PyData.strOk s = true := by cases n <;> exact h
    cases n <;> simp [toD, PyData.canLay0, PyData.depth, h']
  | 0, .tup _, h => by simp [dat] at h
  | 0, .lst _, h => by simp [dat] at h
  | n, .ins _ _, h => by cases n <;> simp [dat] at h
  | n, .box, h => by cases n <;> simp [dat] at h
  | n, .scr _, h => by cases n <;> simp [dat] at h
  | n, .dic _ _, h => by cases n <;> simp [dat] at h
  | n, .dct _ _, h => by cases n <;> simp [dat] at h
  | n, .any, h => by cases n <;> simp [dat] at h
  | n + 1, .tup xs, h => by
    have h' : xs.all (dat n) = true := h
    have q : PyData.canLayAll0 (xs.map (toD n)) = true ∧ PyData.depthAll (xs.map (toD n)) ≤ n := by
      induction xs with
      | nil => simp [PyData.canLayAll0, PyData.depthAll]
      | cons x xs ih =>
        rw [List.all_cons, Bool.and_eq_true] at h'
        have a := toD_lay n x h'.1
        have b := ih h'.2 h'.2
        simp only [List.map_cons, PyData.canLayAll0, PyData.depthAll, a.1, b.1, Bool.and_self, true_and]
        omega
    simp only [toD, PyData.canLay0, PyData.depth, q.1, true_and]
    omega
  | n + 1, .lst xs, h => by
    have h' : xs.all (dat n) = true := h
    have q : PyData.canLayAll0 (xs.map (toD n)) = true ∧ PyData.depthAll (xs.map (toD n)) ≤ n := by
      induction xs with
      | nil => simp [PyData.canLayAll0, PyData.depthAll]
      | cons x xs ih =>
        rw [List.all_cons, Bool.and_eq_true] at h'
        have a := toD_lay n x h'.1
        have b := ih h'.2 h'.2
        simp only [List.map_cons, PyData.canLayAll0, PyData.depthAll, a.1, b.1, Bool.and_self, true_and]
        omega
    simp only [toD, PyData.canLay0, PyData.depth, q.1, true_and]
    omega
theorem toD_shaped {n : Nat} {t : AV} (h : dat n t = true) (hn : n ≤ 64) : SeqAt.shaped (toD n t) = true := by
  obtain ⟨a, b⟩ := toD_lay n t h
  show ((toD n t).canLay0 && decide ((toD n t).depth ≤ 64)) = true
  rw [a, Bool.true_and]
  exact decide_eq_true (by omega)
theorem dp_of {c0 : Gc} {g : G} {H : Hp} : ∀ (n : Nat) {t : AV} {v : V}, RepG c0 g H t v → dat n t = true → Dp c0.K H v (toD n t)
  | n, .non, v, h, _ => by rw [RepG, Rep] at h; subst h; cases n <;> exact .non
  | n, .bl b, v, h, _ => by rw [RepG, Rep] at h; subst h; cases n <;> exact .bl b
  | n, .int i, v, h, _ => by rw [RepG, Rep] at h; subst h; cases n <;> exact .int i
  | n, .str s, v, h, _ => by rw [RepG, Rep] at h; subst h; cases n <;> exact .str s
  | 0, .tup _, _, _, h => by simp [dat] at h
  | 0, .lst _, _, _, h => by simp [dat] at h
  | n, .ins _ _, _, _, h => by cases n <;> simp [dat] at h
  | n, .box, _, _, h => by cases n <;> simp [dat] at h
  | n, .scr _, _, _, h => by cases n <;> simp [dat] at h
  | n, .dic _ _, _, _, h => by cases n <;> simp [dat] at h
  | n, .dct _ _, _, _, h => by cases n <;> simp [dat] at h
  | n, .any, _, _, h => by cases n <;> simp [dat] at h
  | n + 1, .tup xs, v, h, hd => by
    rw [RepG, Rep] at h
    obtain ⟨a, vs, rfl, q, r⟩ := h
    refine .tup q.sq ?_
    have hd' : xs.all (dat n) = true := hd
    clear q
    induction xs generalizing vs with
    | nil => rw [RepL] at r; subst r; exact .nil
    | cons x xs ih =>
      rw [RepL] at r
      obtain ⟨v, r', rfl, h1, h2⟩ := r
      rw [List.all_cons, Bool.and_eq_true] at hd'
      exact .cons (dp_of n h1 hd'.1) (ih hd'.2 _ h2 hd'.2)
  | n + 1, .lst xs, v, h, hd => by
    rw [RepG, Rep] at h
    obtain ⟨a, vs, rfl, q, r⟩ := h
    refine .lst q.sq ?_
    have hd' : xs.all (dat n) = true := hd
    clear q
    induction xs generalizing vs with
    | nil => rw [RepL] at r; subst r; exact .nil
    | cons x xs ih =>
      rw [RepL] at r
      obtain ⟨v, r', rfl, h1, h2⟩ := r
      rw [List.all_cons, Bool.and_eq_true] at hd'
      exact .cons (dp_of n h1 hd'.1) (ih hd'.2 _ h2 hd'.2)
theorem dpAll_of {c0 : Gc} {g : G} {H : Hp} (n : Nat) : ∀ {xs : List AV} {vs : List V}, RepsG c0 g H xs vs → xs.all (dat n) = true → DpAll c0.K H vs (xs.map (toD n))
  | [], vs, r, _ => by rw [RepsG, RepL] at r; subst r; exact .nil
  | x :: xs, vs, r, hd => by
    rw [RepsG, RepL] at r
    obtain ⟨v, r', rfl, h1, h2⟩ := r
    rw [List.all_cons, Bool.and_eq_true] at hd
    exact .cons (dp_of n h1 hd.1) (dpAll_of n h2 hd.2)
theorem dp_ofR {c0 : Gc} {g : G} {H : Hp} {n : Nat} {t : AV} {v : V} (h : RepR c0 g H t v) (hd : dat n t = true) : Dp c0.K H v (toD n t) := by
  rcases h with h | ⟨xs, p, vs, rfl, rfl, _, e, r⟩
  · exact dp_of n h hd
  · cases n with
    | zero => simp [dat] at hd
    | succ n => exact .lst (.of e) (dpAll_of n r hd)
theorem aeq_eqv : ∀ (n : Nat) (a b : AV), dat n a = true → dat n b = true → PyData.eqv (toD n a) (toD n b) = aeq n a b := by
  intro n
  induction n with
  | zero =>
    intro a b ha hb
    cases a <;> cases b <;> first | (simp [dat] at ha; done) | (simp [dat] at hb; done) | rfl
  | succ n ih =>
    have lists : ∀ (xs ys : List AV), xs.all (dat n) = true → ys.all (dat n) = true → PyData.eqvAll (xs.map (toD n)) (ys.map (toD n)) = allEq (aeq n) xs ys := by
      intro xs
      induction xs with
      | nil => intro ys _ _; cases ys <;> rfl
      | cons x xs ihx =>
        intro ys hx hy
        cases ys with
        | nil => rfl
        | cons y ys =>
          rw [List.all_cons, Bool.and_eq_true] at hx hy
          show (PyData.eqv (toD n x) (toD n y) && PyData.eqvAll (xs.map (toD n)) (ys.map (toD n))) = (aeq n x y && allEq (aeq n) xs ys)
          rw [ih x y hx.1 hy.1, ihx ys hx.2 hy.2]
    intro a b ha hb
    cases a <;> cases b <;> first
      | (simp [dat] at ha; done)
      | (simp [dat] at hb; done)
      | rfl
      | (simp only [toD, PyData.eqv, aeq]; exact lists _ _ ha hb)
abbrev DEP : Nat := 12
def pEq (a b : AV) : Option AV := if dat DEP a && dat DEP b then some (.bl (aeq DEP a b)) else none
def pNe (a b : AV) : Option AV := if dat DEP a && dat DEP b then some (.bl (!aeq DEP a b)) else none
def inAny (a : AV) (xs : List AV) : Bool := xs.any fun z => aeq DEP z a
def pIn (a b : AV) : Option AV := match b with
  | .tup xs => if dat DEP a && xs.all (dat DEP) then some (.bl (inAny a xs)) else none
  | .lst xs => if dat DEP a && xs.all (dat DEP) then some (.bl (inAny a xs)) else none
  | _ => none
def pNotIn (a b : AV) : Option AV := match b with
  | .tup xs => if dat DEP a && xs.all (dat DEP) then some (.bl (!inAny a xs)) else none
  | .lst xs => if dat DEP a && xs.all (dat DEP) then some (.bl (!inAny a xs)) else none
  | _ => none
theorem if_some {p : Bool} {a z : AV} (h : (if p then some a else none) = some z) : p = true ∧ z = a := by
  cases p with
  | true => cases h; exact ⟨rfl, rfl⟩
  | false => cases h
section
variable {X : Cx} {ct : CT} {β : BInv} {Ex : XK}
theorem o_eq : Op2p X ct (rEqD X.K) pEq := by
  intro g H a b z x y Q ra rb e q
  obtain ⟨h, rfl⟩ := if_some e
  rw [Bool.and_eq_true] at h
  exact ⟨_, _, dp_ofR ra h.1, dp_ofR rb h.2, toD_shaped h.1 (by decide), toD_shaped h.2 (by decide), by rw [aeq_eqv _ _ _ h.1 h.2]; exact q _ rep_bl⟩
theorem o_ne : Op2p X ct (rNeD X.K) pNe := by
  intro g H a b z x y Q ra rb e q
  obtain ⟨h, rfl⟩ := if_some e
  rw [Bool.and_eq_true] at h
  exact ⟨_, _, dp_ofR ra h.1, dp_ofR rb h.2, toD_shaped h.1 (by decide), toD_shaped h.2 (by decide), by rw [aeq_eqv _ _ _ h.1 h.2]; exact q _ rep_bl⟩
def rInT (K : PySem.W.Frag) (neg : Bool) : R2 := fun x y H Q => ∃ d ds, Dp K H x d ∧ Dp K H y (.tuple ds) ∧ SeqAt.shaped d = true ∧ SeqAt.shaped (.list ds) = true ∧ Q (.bl (if neg then !ds.any fun z => PyData.eqv z d else ds.any fun z => PyData.eqv z d)) H
theorem lay_tl {ds : List PyData} (h : SeqAt.shaped (.list ds) = true) : PyData.canLayAll0 ds = true := SeqAt.canLay_of_shaped h
theorem op_notInT (hu : X.A.units + 65 < cLine) : OpR X (compareOp .NotIn) (rInT X.K true) := by
  intro pins s σ H x y v u Q I rx ry h
  obtain ⟨d, ds, hd, he, sd, se, q⟩ := h
  obtain ⟨as, r1⟩ := Dp.reads I d x v hd rx
  obtain ⟨bs, r2⟩ := Dp.reads I (.tuple ds) y u he ry
  exact SeqAt.notIn_tuple_reads r2 r1 (lay_tl se) (SeqAt.canLay_of_shaped sd) (room_in_shaped sd hu) ⟨.bl _, H, I, rfl, q⟩
theorem anyD {a : AV} (ha : dat DEP a = true) : ∀ {xs : List AV}, xs.all (dat DEP) = true → ((xs.map (toD DEP)).any fun z => PyData.eqv z (toD DEP a)) = inAny a xs
  | [], _ => rfl
  | x :: xs, h => by
    rw [List.all_cons, Bool.and_eq_true] at h
    show (PyData.eqv (toD DEP x) (toD DEP a) || (xs.map (toD DEP)).any _) = (aeq DEP x a || inAny a xs)
    rw [aeq_eqv _ _ _ h.1 ha, anyD ha h.2]
theorem shapedL {xs : List AV} (h : xs.all (dat DEP) = true) : SeqAt.shaped (.list (xs.map (toD DEP))) = true := toD_shaped (n := DEP + 1) (t := .lst xs) h (by decide)
theorem o_notIn : Op2p X ct (fun x y H Q => rNotInD X.K x y H Q ∨ rInT X.K true x y H Q) pNotIn := by
  intro g H a b z x y Q ra rb e q
  cases b with
  | tup xs =>
    obtain ⟨h, rfl⟩ := if_some (show (if dat DEP a && xs.all (dat DEP) then some (AV.bl (!inAny a xs)) else none) = some z from e)
    rw [Bool.and_eq_true] at h
    refine .inr ⟨_, _, dp_ofR ra h.1, dp_ofR (n := DEP + 1) rb h.2, toD_shaped h.1 (by decide), shapedL h.2, ?_⟩
    have e1 := anyD h.1 h.2
    simp only [e1]
    exact q _ rep_bl
  | lst xs =>
    obtain ⟨h, rfl⟩ := if_some (show (if dat DEP a && xs.all (dat DEP) then some (AV.bl (!inAny a xs)) else none) = some z from e)
    rw [Bool.and_eq_true] at h
    refine .inl ⟨_, _, dp_ofR ra h.1, dp_ofR (n := DEP + 1) rb h.2, toD_shaped h.1 (by decide), shapedL h.2, ?_⟩
    have e1 := anyD h.1 h.2
    simp only [e1]
    exact q _ rep_bl
  | _ => cases e
end
def pAdd (a b : AV) : Option AV := match a, b with
  | .int i, .int j => some (.int (i + j))
  | .str x, .str y => if x.length + y.length ≤ big then some (.str (x ++ y)) else none
  | .tup xs, .tup ys => if xs.length + ys.length ≤ big then some (.tup (xs ++ ys)) else none
  | .lst xs, .lst ys => if xs.length + ys.length ≤ big then some (.lst (xs ++ ys)) else none
  | _, _ => none
def pSub (a b : AV) : Option AV := match a, b with
  | .int i, .int j => some (.int (i - j))
  | _, _ => none
def pMul (a b : AV) : Option AV := match a, b with
  | .int i, .int j => if i.natAbs.log2 + j.natAbs.log2 < 1000000 then some (.int (i * j)) else none
  | .lst xs, .int k => if 0 ≤ k ∧ xs.length * k.toNat ≤ big ∧ k < 1000000 then some (.lst (List.replicate k.toNat xs).flatten) else none
  | .tup xs, .int k => if xs.isEmpty = false ∧ 2 ≤ k ∧ k ≤ 1000 ∧ xs.length ≤ 1000 then some (.tup (List.replicate k.toNat xs).flatten) else none
  | _, _ => none
def pDiv (a b : AV) : Option AV := match a, b with
  | .int i, .int j => if 0 < j ∧ j.natAbs.log2 < 9000 then some (.int (i / j)) else none
  | _, _ => none
def pMod (a b : AV) : Option AV := match a, b with
  | .int i, .int j => if 0 < j then some (.int (i % j)) else none
  | _, _ => none
def pPow (a b : AV) : Option AV := match a, b with
  | .int i, .int j => if 0 ≤ j ∧ j ≤ 1000000 ∧ below i 64 = true then some (.int (i ^ j.toNat)) else none
  | _, _ => none
def pNeg (a : AV) : Option AV := match a with
  | .int i => some (.int (-i))
  | _ => none
def pLt (a b : AV) : Option AV := match a, b with
  | .int i, .int j => some (.bl (decide (i < j)))
  | _, _ => none
def pLe (a b : AV) : Option AV := match a, b with
  | .int i, .int j => some (.bl (decide (i ≤ j)))
  | _, _ => none
def pGt (a b : AV) : Option AV := match a, b with
  | .int i, .int j => some (.bl (decide (j < i)))
  | _, _ => none
def pGe (a b : AV) : Option AV := match a, b with
  | .int i, .int j => some (.bl (decide (j ≤ i)))
  | _, _ => none
def pIsN (a b : AV) : Option AV := match b with
  | .non => match a with
    | .non => some (.bl true)
    | .any => none
    | _ => some (.bl false)
  | _ => none
def pNotN (a b : AV) : Option AV := match b with
  | .non => match a with
    | .non => some (.bl false)
    | .any => none
    | _ => some (.bl true)
  | _ => none
theorem ifp_some {p : Prop} [Decidable p] {a z : AV} (h : (if p then some a else none) = some z) : p ∧ z = a := by
  by_cases hp : p
  · rw [if_pos hp] at h; cases h; exact ⟨hp, rfl⟩
  · rw [if_neg hp] at h; cases h
section
variable {X : Cx} {ct : CT} {β : BInv} {Ex : XK}
theorem rep_tupR {c0 : Gc} {g : G} {H : Hp} {xs : List AV} {v : V} (h : RepR c0 g H (.tup xs) v) : RepG c0 g H (.tup xs) v := by
  rcases h with h | ⟨ys, p, vs, e, _⟩
  · exact h
  · cases e
abbrev rAddA (K : PySem.W.Frag) : R2 := fun x y H Q => (((rI0 fun i j => .int (i + j)) x y H Q ∨ (∃ i j, x = .str i ∧ y = .str j ∧ i.length + j.length ≤ sizeLine ∧ Q (.str (i ++ j)) H)) ∨ rCatA K x y H Q) ∨ rCat x y H Q
theorem op_addA : OpR X (binaryOp .Add) (rAddA X.K) := ((op_add.or op_add_str).or op_catA).or op_cat
def Op2' (X : Cx) (ct : CT) (r : R2) (op : AV → AV → Option AV) : Prop := ∀ (g : G) (H : Hp) (a b z : AV) (x y : V) (Q : VK), (∀ p, g.Av p → H p ≠ none) → RepR (gc X ct) g H a x → RepR (gc X ct) g H b y → op a b = some z →
  (∀ v H', Same H H' → RepG (gc X ct) g H' z v → Q v H') → r x y H Q
theorem fBin_ok' {r : R2} {op : AV → AV → Option AV} {f k : Sem} (hop : Op2' X ct r op) {σ : L2.St} {H : Hp} {Q : VK} (h : rdE (gc X ct) β Ex (fBin op f k) σ H Q) :
    rdE (gc X ct) β Ex f σ H fun x H1 => rdE (gc X ct) β Ex k σ H1 fun y H2 => r x y H2 Q := by
  obtain ⟨g, ρ, R, h⟩ := h
  refine ⟨g, ρ, R, okT_mono (okT_bind h) fun g1 H1 p e1 h1 x R1 rx => ⟨g1, p.2, R1, okT_mono (okT_bind h1) fun g2 H2 q e2 h2 y R2 ry => ?_⟩⟩
  obtain ⟨a, ea, h3⟩ := okT_lift h2
  obtain ⟨b, eb, h4⟩ := okT_lift h3
  obtain ⟨z, ez, h5⟩ := okT_lift h4
  refine hop g2 H2 a b z x y Q (fun _ h => R2.avLive h) ((rx.ext e2).rs R2 ea) (ry.rs R2 eb) ez fun v H' s rv => ?_
  exact okT_ret' h5 (Ext.same s) v (R2.same s) rv
theorem j_bin' {op : Operator} {r : R2} {o : AV → AV → Option AV} {a b : Expr} {f k : Sem} {pos : Pos} (ho : OpR X (binaryOp op) r) (hop : Op2' X ct r o) (ha : JE X ct β Ex a f) (hb : JE X ct β Ex b k) : JE X ct β Ex (.BinOp a op b pos) (fBin o f k) :=
  PE.imp (pe_op ho ha hb) fun σ H Q h => fBin_ok' hop h
theorem reps_nil {c0 : Gc} {A D : Addr → Prop} {H : Hp} {xs : List AV} {vs : List V} (r : RepL c0 A D H xs vs) (h : vs = []) : xs = [] := by
  have := r.length
  rw [h] at this
  cases xs with
  | nil => rfl
  | cons _ _ => simp at this
theorem o_add : Op2' X ct (rAddA X.K) pAdd := by
  intro g H a b z x y Q live ra rb e q
  cases a <;> cases b <;> first | (simp [pAdd] at e; done) | skip
  · cases e
    exact .inl (.inl (.inl ⟨_, _, ra.int, rb.int, q _ H (Same.refl H) rep_int⟩))
  · obtain ⟨h, rfl⟩ := ifp_some e
    exact .inl (.inl (.inr ⟨_, _, ra.str, rb.str, Nat.le_trans h big_line, q _ H (Same.refl H) rep_str⟩))
  · obtain ⟨h, rfl⟩ := ifp_some e
    obtain ⟨a', vs, rfl, h1, r1⟩ := ra.tup
    obtain ⟨b', ws, rfl, h2, r2⟩ := rb.tup
    refine .inl (.inr ⟨a', b', vs, ws, rfl, rfl, h1, h2, ?_, fun hv => ?_, fun _ hw => ?_, fun _ _ p hp => ?_⟩)
    · rw [r1.length, r2.length]; exact Nat.le_trans h big_line
    · refine q _ H (Same.refl H) ?_
      rw [reps_nil r1 hv]
      exact rep_tupR rb
    · refine q _ H (Same.refl H) ?_
      rw [reps_nil r2 hw, List.append_nil]
      exact rep_tupR ra
    · have s := same_upd (o := .tup (vs ++ ws)) hp
      exact q _ _ s (rep_tup_new (fun z => live p z hp) upd_same ((Ext.same s).reps (r1.append r2)))
  · obtain ⟨h, rfl⟩ := ifp_some e
    obtain ⟨a', vs, rfl, h1, r1⟩ := ra.lst'
    obtain ⟨b', ws, rfl, h2, r2⟩ := rb.lst'
    refine .inr ⟨a', b', vs, ws, rfl, rfl, h1, h2, ?_, fun p hp => ?_⟩
    · rw [r1.length, r2.length]; exact Nat.le_trans h big_line
    · have s := same_upd (o := .lst (vs ++ ws)) hp
      exact q _ _ s (rep_lst_new (fun z => live p z hp) upd_same ((Ext.same s).reps (r1.append r2)))
theorem o_sub : Op2 X ct (rI0 fun i j => .int (i - j)) pSub := by
  intro g H a b z x y Q ra rb e q
  cases a <;> cases b <;> first | (simp [pSub] at e; done) | skip
  cases e
  exact ⟨_, _, ra.int, rb.int, q _ H (Same.refl H) rep_int⟩
theorem o_div : Op2 X ct (rI CDivW fun i j => .int (i / j)) pDiv := by
  intro g H a b z x y Q ra rb e q
  cases a <;> cases b <;> first | (simp [pDiv] at e; done) | skip
  obtain ⟨h, rfl⟩ := ifp_some e
  exact ⟨_, _, ra.int, rb.int, h, q _ H (Same.refl H) rep_int⟩
theorem o_mod : Op2 X ct (rI (fun _ j => 0 < j) fun i j => .int (i % j)) pMod := by
  intro g H a b z x y Q ra rb e q
  cases a <;> cases b <;> first | (simp [pMod] at e; done) | skip
  obtain ⟨h, rfl⟩ := ifp_some e
  exact ⟨_, _, ra.int, rb.int, h, q _ H (Same.refl H) rep_int⟩
theorem o_pow : Op2 X ct (rI CPow fun i j => .int (i ^ j.toNat)) pPow := by
  intro g H a b z x y Q ra rb e q
  cases a <;> cases b <;> first | (simp [pPow] at e; done) | skip
  obtain ⟨h, rfl⟩ := ifp_some e
  exact ⟨_, _, ra.int, rb.int, ⟨h.1, h.2.1, below_iff.mp h.2.2⟩, q _ H (Same.refl H) rep_int⟩
theorem o_neg : Op1 X ct (rU fun i => .int (-i)) pNeg := by
  intro g H a z x Q ra e q
  cases a <;> first | (simp [pNeg] at e; done) | skip
  cases e
  exact ⟨_, ra.int, q _ H (Same.refl H) rep_int⟩
theorem o_lt : Op2p X ct (rI0 fun i j => .bl (decide (i < j))) pLt := by
  intro g H a b z x y Q ra rb e q
  cases a <;> cases b <;> first | (simp [pLt] at e; done) | skip
  cases e
  exact ⟨_, _, ra.int, rb.int, q _ rep_bl⟩
theorem o_gt : Op2p X ct (rI0 fun i j => .bl (decide (j < i))) pGt := by
  intro g H a b z x y Q ra rb e q
  cases a <;> cases b <;> first | (simp [pGt] at e; done) | skip
  cases e
  exact ⟨_, _, ra.int, rb.int, q _ rep_bl⟩
theorem o_ge : Op2p X ct (rI0 fun i j => .bl (decide (j ≤ i))) pGe := by
  intro g H a b z x y Q ra rb e q
  cases a <;> cases b <;> first | (simp [pGe] at e; done) | skip
  cases e
  exact ⟨_, _, ra.int, rb.int, q _ rep_bl⟩
def isNon : AV → Bool
  | .non => true
  | _ => false
theorem repR_ref {c0 : Gc} {g : G} {H : Hp} {t : AV} {v : V} (h : RepR c0 g H t v) (ha : t ≠ .any) : decide (v = .non) = isNon t := by
  cases t with
  | non => have e := h.non; subst e; rfl
  | bl _ => have e := h.bl; subst e; rfl
  | int _ => have e := h.int; subst e; rfl
  | str _ => have e := h.str; subst e; rfl
  | tup _ => obtain ⟨a, vs, rfl, _⟩ := h.tup; rfl
  | lst _ => obtain ⟨a, vs, rfl, _⟩ := h.lst; rfl
  | ins _ _ => have h := h.ins; rw [RepG, Rep] at h; obtain ⟨a, _, _, _, rfl, _⟩ := h; rfl
  | box =>
    rcases h with h | ⟨_, _, _, e, _⟩
    · rw [RepG, Rep] at h; obtain ⟨a, rfl, _⟩ := h; rfl
    · cases e
  | scr _ =>
    rcases h with h | ⟨_, _, _, e, _⟩
    · rw [RepG, Rep] at h; obtain ⟨a, rfl, _⟩ := h; rfl
    · cases e
  | dic _ _ =>
    rcases h with h | ⟨_, _, _, e, _⟩
    · rw [RepG, Rep] at h; obtain ⟨a, _, rfl, _⟩ := h; rfl
    · cases e
  | dct _ _ =>
    rcases h with h | ⟨_, _, _, e, _⟩
    · rw [RepG, Rep] at h; obtain ⟨a, _, rfl, _⟩ := h; rfl
    · cases e
  | any => exact absurd rfl ha
theorem o_isN : Op2p X ct (fun x y H Q => y = .non ∧ Q (.bl (decide (x = .non))) H) pIsN := by
  intro g H a b z x y Q ra rb e q
  cases b <;> first | (simp [pIsN] at e; done) | skip
  refine ⟨rb.non, ?_⟩
  rw [repR_ref ra (fun z => by subst z; cases e)]
  cases a <;> (cases e; try exact q _ rep_bl)
end
end Dn
set_option Elab.async false
set_option linter.all false
set_option maxRecDepth 100000
namespace Dn
open PySem PySem.Spec PyProof.Rows L2
def Op1' (X : Cx) (ct : CT) (r : V → Hp → VK → Prop) (op : AV → Option AV) : Prop := ∀ (g : G) (H : Hp) (a z : AV) (x : V) (Q : VK), (∀ p, g.Av p → H p ≠ none) → RepR (gc X ct) g H a x → op a = some z →
  (∀ v H', Same H H' → RepG (gc X ct) g H' z v → Q v H') → r x H Q
section
variable {X : Cx} {ct : CT} {β : BInv} {Ex : XK} {a b : Expr} {f k : Sem} {pos p : Pos} {x : Str} {id ty : String}
theorem fUn_ok' {r : V → Hp → VK → Prop} {op : AV → Option AV} (hop : Op1' X ct r op) {σ : L2.St} {H : Hp} {Q : VK} (h : rdE (gc X ct) β Ex (fUn op f) σ H Q) :
    rdE (gc X ct) β Ex f σ H fun x H1 => r x H1 Q := by
  obtain ⟨g, ρ, R, h⟩ := h
  refine ⟨g, ρ, R, okT_mono (okT_bind h) fun g1 H1 p e1 h1 x R1 rx => ?_⟩
  obtain ⟨a, ea, h3⟩ := okT_lift h1
  obtain ⟨z, ez, h5⟩ := okT_lift h3
  refine hop g1 H1 a z x Q (fun _ h => R1.avLive h) (rx.rs R1 ea) ez fun v H' s rv => ?_
  exact okT_ret' h5 (Ext.same s) v (R1.same s) rv
theorem j_callB {r : List V → Hp → VK → Prop} {o : AV → Option AV} (hc : CallR X (.builtin id) r) (hop : Op1' X ct (fun x H Q => r [x] H Q) o) (hg : Gl X x) (hm : X.mg x = none) (hv : bootBuiltins x = some (.builtin id)) (ha : JE X ct β Ex a f)
    (hn : x ≠ "__name__" := by decide +kernel) (hdb : (x == ("__debug__" : Str)) = false := by decide +kernel) (he : starEach [a] X.env = (false, eval a X.env) :: starEach [] X.env := by rfl) : JE X ct β Ex (.Call (.Name x p) [a] [] pos) (fUn o f) := by
  refine PE.imp (pe_callB hc hg hm hv (pa_cons ha pa_nil he) hn hdb he) fun σ H Q h => ?_
  exact fUn_ok' hop h
theorem j_callTy {r : List V → Hp → VK → Prop} {o : AV → Option AV} (hc : CallR X (.type ty) r) (hop : Op1' X ct (fun x H Q => r [x] H Q) o) (hg : Gl X x) (hm : X.mg x = none) (hv : bootBuiltins x = some (.type ty)) (ha : JE X ct β Ex a f)
    (hn : x ≠ "__name__" := by decide +kernel) (hdb : (x == ("__debug__" : Str)) = false := by decide +kernel) (he : starEach [a] X.env = (false, eval a X.env) :: starEach [] X.env := by rfl) : JE X ct β Ex (.Call (.Name x p) [a] [] pos) (fUn o f) := by
  refine PE.imp (pe_callTy hc hg hm hv (pa_cons ha pa_nil he) hn hdb he) fun σ H Q h => ?_
  exact fUn_ok' hop h
theorem j_callB2 {r : List V → Hp → VK → Prop} {o : AV → AV → Option AV} (hc : CallR X (.builtin id) r) (hop : Op2' X ct (fun x y H Q => r [x, y] H Q) o) (hg : Gl X x) (hm : X.mg x = none) (hv : bootBuiltins x = some (.builtin id)) (ha : JE X ct β Ex a f) (hb : JE X ct β Ex b k)
    (hn : x ≠ "__name__" := by decide +kernel) (hdb : (x == ("__debug__" : Str)) = false := by decide +kernel) (he : starEach [a, b] X.env = (false, eval a X.env) :: starEach [b] X.env := by rfl) (he2 : starEach [b] X.env = (false, eval b X.env) :: starEach [] X.env := by rfl)
    (hpl : (backTo pos (starEach [b] X.env)).any (·.1) = false := by rfl) : JE X ct β Ex (.Call (.Name x p) [a, b] [] pos) (fBin o f k) := by
  refine PE.imp (pe_callB hc hg hm hv (pa_cons ha (pa_cons hb pa_nil he2) he) hn hdb he hpl) fun σ H Q h => ?_
  exact fBin_ok' hop h
theorem RepR.scr {c0 : Gc} {g : G} {H : Hp} {ns : List Int} {v : V} (h : RepR c0 g H (.scr ns) v) : ∃ a, v = .ref a ∧ SqL c0.K H a (ns.map V.int) := by
  rcases h with h | ⟨_, _, _, e, _⟩
  · rw [RepG, Rep] at h
    obtain ⟨a, rfl, q⟩ := h
    exact ⟨a, rfl, q.sq⟩
  · cases e
def strAt (s : Str) (i : Int) : Option AV := if s.length ≤ big then (atI s.cps.toList i).map fun c => .str ⟨#[c]⟩ else none
def pIx (a b : AV) : Option AV := match b with
  | .int i => match a with
    | .tup xs => atI xs i
    | .lst xs => atI xs i
    | .str s => strAt s i
    | .scr ns => atI (ns.map AV.int) i
    | _ => none
  | _ => none
theorem atI_rep {c0 : Gc} {A D : Addr → Prop} {H : Hp} {xs : List AV} {vs : List V} {i : Int} {t : AV} (r : RepL c0 A D H xs vs) (h : atI xs i = some t) : ∃ v, atI vs i = some v ∧ Rep c0 A D H t v := by
  unfold atI at h ⊢
  rw [r.length]
  cases e : ixN xs.length i with
  | none => rw [e] at h; cases h
  | some j =>
    rw [e] at h
    exact r.get' (i := j) h
theorem o_ix : Op2 X ct (rIx X.K) pIx := by
  intro g H a b z x y Q ra rb e q
  cases b with
  | int i =>
    have hy := rb.int
    cases a with
    | tup xs =>
      obtain ⟨p, vs, rfl, h1, r⟩ := ra.tup
      obtain ⟨v, e1, r1⟩ := atI_rep r (show atI xs i = some z from e)
      exact .inr (.inl ⟨p, vs, i, v, rfl, hy, h1, e1, q v H (Same.refl H) r1⟩)
    | lst xs =>
      obtain ⟨p, vs, rfl, h1, r⟩ := ra.lst
      obtain ⟨v, e1, r1⟩ := atI_rep r (show atI xs i = some z from e)
      exact .inl ⟨p, vs, i, v, rfl, hy, h1, e1, q v H (Same.refl H) r1⟩
    | str s =>
      have hx := ra.str
      have e : strAt s i = some z := e
      unfold strAt at e
      by_cases hs : s.length ≤ big
      · rw [if_pos hs] at e
        cases e1 : atI s.cps.toList i with
        | none => rw [e1] at e; cases e
        | some c =>
          rw [e1] at e
          cases e
          exact .inr (.inr ⟨s, i, c, hx, hy, Nat.le_trans hs big_line, e1, q _ H (Same.refl H) rep_str⟩)
      · rw [if_neg hs] at e; cases e
    | scr ns =>
      obtain ⟨p, rfl, h1⟩ := ra.scr
      obtain ⟨v, e1, r1⟩ := atI_rep (RepL.ints' (c0 := gc X ct) (A := g.Av) (D := g.D) (H := H) ns) (show atI (ns.map AV.int) i = some z from e)
      exact .inl ⟨p, _, i, v, rfl, hy, h1, e1, q v H (Same.refl H) r1⟩
    | _ => cases e
  | _ => cases e
theorem j_ix (ha : JE X ct β Ex a f) (hb : JE X ct β Ex b k) (hs : PlainIx b := by exact fun _ _ => rfl) : JE X ct β Ex (.Subscript a b pos) (fBin pIx f k) :=
  PE.imp (pe_ix ix_seq ha hb hs) fun σ H Q h => fBin_ok o_ix h
def cutA (xs : List AV) (lo hi : Option Int) : List AV := (xs.drop (HT.sIx xs.length 0 lo)).take (HT.sIx xs.length xs.length hi - HT.sIx xs.length 0 lo)
def intOf : AV → Option Int
  | .int i => some i
  | _ => none
def fPart : Option Sem → Env' → T (Option Int × Env')
  | none, ρ => .ret (none, ρ)
  | some f, ρ => (f ρ).bind fun p => (lift (rs p.1 p.2)).bind fun a => (lift (intOf a)).bind fun i => .ret (some i, p.2)
def pCut (a : AV) (lo hi : Option Int) : Option AV := match a with
  | .tup xs => some (.tup (cutA xs lo hi))
  | .lst xs => some (.lst (cutA xs lo hi))
  | .scr ns => some (.lst (cutA (ns.map AV.int) lo hi))
  | _ => none
def fSl (f : Sem) (l h : Option Sem) : Sem := fun ρ => (f ρ).bind fun p => (fPart l p.2).bind fun q => (fPart h q.2).bind fun r => (lift (rs p.1 r.2)).bind fun a => (lift (pCut a q.1 r.1)).bind fun z => .ret (.val z, r.2)
def rdO (c0 : Gc) (β : BInv) (Ex : XK) (f : Env' → T (Option Int × Env')) : TO := fun σ H Q => ∃ g ρ, Rel c0 β g ρ σ H ∧ okT c0 β Ex g H (f ρ) fun g' H' p => Rel c0 β g' p.2 σ H' → Q p.1 H'
def JO (X : Cx) (ct : CT) (β : BInv) (Ex : XK) (e : Option Expr) (f : Option Sem) : Prop := PO X e (rdO (gc X ct) β Ex (fPart f))
theorem PO.imp {X : Cx} {e : Option Expr} {t t' : TO} (h : PO X e t) (i : ∀ σ H Q, t' σ H Q → t σ H Q) : PO X e t' := ⟨fun pins s σ H Q I q => h.run pins s σ H Q I (i σ H Q q)⟩
theorem intOf_eq {t : AV} {i : Int} (h : intOf t = some i) : t = .int i := by
  cases t with
  | int j => cases h; rfl
  | _ => cases h
theorem jo_none : JO X ct β Ex none none := PO.imp po_none fun σ H Q h => by
  obtain ⟨g, ρ, R, h⟩ := h
  exact okT_ret h R
theorem jo_some (ha : JE X ct β Ex a f) : JO X ct β Ex (some a) (some f) := PO.imp (po_some ha) fun σ H Q h => by
  obtain ⟨g, ρ, R, h⟩ := h
  refine ⟨g, ρ, R, okT_mono (okT_bind h) fun g1 H1 p e1 h1 x R1 rx => ?_⟩
  obtain ⟨u, eu, h2⟩ := okT_lift h1
  obtain ⟨i, ei, h3⟩ := okT_lift h2
  have := intOf_eq ei
  subst this
  exact ⟨i, (rx.rs R1 eu).int, okT_ret h3 R1⟩
theorem cut_rep {c0 : Gc} {A D : Addr → Prop} {H : Hp} {xs : List AV} {vs : List V} {lo hi : Option Int} (r : RepL c0 A D H xs vs) : RepL c0 A D H (cutA xs lo hi) (cutV vs lo hi) := by
  unfold cutA cutV
  rw [r.length]
  exact (r.drop _).take _
theorem cutA_whole {xs : List AV} {lo hi : Option Int} (h : HT.sIx xs.length 0 lo = 0 ∧ HT.sIx xs.length xs.length hi = xs.length) : cutA xs lo hi = xs := by
  unfold cutA
  rw [h.1, h.2]
  simp
theorem j_sl {l h : Option Expr} {fl fh : Option Sem} {p2 : Pos} (ha : JE X ct β Ex a f) (hl : JO X ct β Ex l fl) (hh : JO X ct β Ex h fh) : JE X ct β Ex (.Subscript a (.Slice l h none p2) pos) (fSl f fl fh) := by
  refine PE.imp (pe_slice (sl_list.or sl_tupA) ha hl hh) fun σ H Q h => ?_
  obtain ⟨g, ρ, R, h⟩ := h
  refine ⟨g, ρ, R, okT_mono (okT_bind h) fun g1 H1 p e1 h1 x R1 rx => ⟨g1, p.2, R1, okT_mono (okT_bind h1) fun g2 H2 q e2 h2 R2 => ⟨g2, q.2, R2, okT_mono (okT_bind h2) fun g3 H3 r e3 h3 R3 => ?_⟩⟩⟩
  obtain ⟨u, eu, h4⟩ := okT_lift h3
  obtain ⟨z, ez, h5⟩ := okT_lift h4
  have ru := (rx.ext (e2.trans e3)).rs R3 eu
  cases u with
  | tup xs =>
    cases ez
    have rg := rep_tupR ru
    obtain ⟨a, vs, rfl, h1, rv⟩ := ru.tup
    refine .inr ⟨a, vs, rfl, h1, fun hw => ?_, fun _ p hp => ?_⟩
    · rw [rv.length] at hw
      refine okT_ret h5 _ R3 (show RepG (gc X ct) g3 H3 (.tup (cutA xs q.1 r.1)) (.ref a) from ?_)
      rw [cutA_whole hw]
      exact rg
    · have s := same_upd (o := .tup (cutV vs q.1 r.1)) hp
      exact okT_ret' h5 (Ext.same s) _ (R3.same s) (show RepG (gc X ct) g3 _ _ _ from rep_tup_new (R3.freshAv hp) upd_same ((Ext.same s).reps (cut_rep rv)))
  | lst xs =>
    cases ez
    obtain ⟨a, vs, rfl, h1, rv⟩ := ru.lst
    refine .inl ⟨a, vs, rfl, h1, fun p hp => ?_⟩
    have s := same_upd (o := .lst (cutV vs q.1 r.1)) hp
    exact okT_ret' h5 (Ext.same s) _ (R3.same s) (show RepG (gc X ct) g3 _ _ _ from rep_lst_new (R3.freshAv hp) upd_same ((Ext.same s).reps (cut_rep rv)))
  | scr ns =>
    cases ez
    obtain ⟨a, rfl, h1⟩ := ru.scr
    refine .inl ⟨a, _, rfl, h1, fun p hp => ?_⟩
    have s := same_upd (o := .lst (cutV (ns.map V.int) q.1 r.1)) hp
    exact okT_ret' h5 (Ext.same s) _ (R3.same s) (show RepG (gc X ct) g3 _ _ _ from rep_lst_new (R3.freshAv hp) upd_same ((Ext.same s).reps (cut_rep (RepL.ints' ns))))
  | _ => cases ez
def pFld (c i : Nat) (a : AV) : Option AV := match a with
  | .ins c' xs => if c' = c then xs[i]? else none
  | _ => none
structure FldOk (X : Cx) (ct : CT) (c i : Nat) (f : Str) : Prop where
  at_ : (ct c).2[i]? = some f
  nd : (ct c).2.Nodup
  cls : ∀ C, X.mg (ct c).1 = some (.ref C) → Cls X.K C ∧ NoAttr X.K C f
end
def intsOf : List AV → Option (List Int)
  | [] => some []
  | .int i :: xs => (intsOf xs).map fun r => i :: r
  | _ :: _ => none
def bsOf : List AV → Option (List Bool)
  | [] => some []
  | .bl i :: xs => (bsOf xs).map fun r => i :: r
  | _ :: _ => none
theorem intsOf_eq : ∀ {xs : List AV} {ns : List Int}, intsOf xs = some ns → xs = ns.map AV.int
  | [], ns, h => by cases h; rfl
  | .int i :: xs, ns, h => by
    unfold intsOf at h
    cases e : intsOf xs with
    | none => rw [e] at h; cases h
    | some r => rw [e] at h; cases h; rw [intsOf_eq e]; rfl
  | .non :: _, _, h => by cases h
  | .bl _ :: _, _, h => by cases h
  | .str _ :: _, _, h => by cases h
  | .tup _ :: _, _, h => by cases h
  | .lst _ :: _, _, h => by cases h
  | .ins _ _ :: _, _, h => by cases h
  | .box :: _, _, h => by cases h
  | .scr _ :: _, _, h => by cases h
  | .dic _ _ :: _, _, h => by cases h
  | .dct _ _ :: _, _, h => by cases h
  | .any :: _, _, h => by cases h
theorem intsOf_map (ns : List Int) : intsOf (ns.map AV.int) = some ns := by
  induction ns with
  | nil => rfl
  | cons n ns ih =>
    show (intsOf (ns.map AV.int)).map _ = _
    rw [ih]
    rfl
theorem reps_ints {c0 : Gc} {A D : Addr → Prop} {H : Hp} {ns : List Int} {vs : List V} (r : RepL c0 A D H (ns.map AV.int) vs) : vs = ns.map V.int := r.ints
def pLen (a : AV) : Option AV := match a with
  | .tup xs => some (.int xs.length)
  | .lst xs => some (.int xs.length)
  | .scr xs => some (.int xs.length)
  | .str s => if s.length ≤ big then some (.int s.length) else none
  | _ => none
def pInt (a : AV) : Option AV := match a with
  | .int i => some (.int i)
  | .bl b => some (.int (if b then 1 else 0))
  | _ => none
def pAbs (a : AV) : Option AV := match a with
  | .int i => some (.int (if i < 0 then -i else i))
  | _ => none
def pStr (a : AV) : Option AV := match a with
  | .int i => if i.natAbs.log2 < 1920 then some (.str (toString i)) else none
  | _ => none
def pList (a : AV) : Option AV := match a with
  | .tup xs => some (.lst xs)
  | .lst xs => some (.lst xs)
  | _ => none
def pTuple (a : AV) : Option AV := match a with
  | .tup xs => some (.tup xs)
  | .lst xs => some (.tup xs)
  | _ => none
def pAll (a : AV) : Option AV := match a with
  | .lst xs => (bsOf xs).map fun bs => .bl (bs.all id)
  | _ => none
def pAny (a : AV) : Option AV := match a with
  | .lst xs => (bsOf xs).map fun bs => .bl (bs.any id)
  | _ => none
def pSum (a : AV) : Option AV := match a with
  | .lst xs => (intsOf xs).map fun bs => .int bs.sum
  | _ => none
def pMax2 (a b : AV) : Option AV := match a, b with
  | .int i, .int j => some (.int (if j > i then j else i))
  | _, _ => none
def pMin2 (a b : AV) : Option AV := match a, b with
  | .int i, .int j => some (.int (if j < i then j else i))
  | _, _ => none
def pDivmod (a b : AV) : Option AV := match a, b with
  | .int i, .int j => if 0 < j ∧ below j 29 = true then some (.tup [.int (i / j), .int (i % j)]) else none
  | _, _ => none
section
variable {X : Cx} {ct : CT} {β : BInv} {Ex : XK}
theorem o_len : Op1' X ct (fun x H Q => ∃ y n, [x] = [y] ∧ LenV X.K y H n ∧ Q (.int n) H) pLen := by
  intro g H a z x Q live ra e q
  cases a with
  | tup xs =>
    cases e
    obtain ⟨p, vs, rfl, h1, r⟩ := ra.tup
    exact ⟨_, _, rfl, .inr ⟨vs, h1, r.length.symm⟩, q _ H (Same.refl H) rep_int⟩
  | lst xs =>
    cases e
    obtain ⟨p, vs, rfl, h1, r⟩ := ra.lst
    exact ⟨_, _, rfl, .inl ⟨vs, h1, r.length.symm⟩, q _ H (Same.refl H) rep_int⟩
  | scr xs =>
    cases e
    obtain ⟨p, rfl, h1⟩ := ra.scr
    exact ⟨_, _, rfl, .inl ⟨_, h1, (List.length_map _).symm⟩, q _ H (Same.refl H) rep_int⟩
  | str s =>
    obtain ⟨h, rfl⟩ := ifp_some e
    have hx := ra.str
    subst hx
    exact ⟨_, _, rfl, ⟨Nat.le_trans h big_line, rfl⟩, q _ H (Same.refl H) rep_int⟩
  | _ => cases e
theorem o_int : Op1' X ct (fun x H Q => (∃ i, [x] = [V.int i] ∧ Q (.int i) H) ∨ ∃ k, [x] = [V.bl k] ∧ Q (.int (if k then 1 else 0)) H) pInt := by
  intro g H a z x Q live ra e q
  cases a with
  | int i => cases e; exact .inl ⟨i, by rw [ra.int], q _ H (Same.refl H) rep_int⟩
  | bl b => cases e; exact .inr ⟨b, by rw [ra.bl], q _ H (Same.refl H) rep_int⟩
  | _ => cases e
theorem o_abs : Op1' X ct (fun x H Q => ∃ i, [x] = [V.int i] ∧ Q (.int (if i < 0 then -i else i)) H) pAbs := by
  intro g H a z x Q live ra e q
  cases a with
  | int i => cases e; exact ⟨i, by rw [ra.int], q _ H (Same.refl H) rep_int⟩
  | _ => cases e
theorem o_tuple : Op1' X ct (fun x H Q => ∃ p ys, [x] = [V.ref p] ∧ ((SqL X.K H p ys ∧ ∀ l, H l = none → Q (.ref l) (upd H l (.tup ys))) ∨ (SqT X.K H p ys ∧ Q (.ref p) H))) pTuple := by
  intro g H a z x Q live ra e q
  cases a with
  | tup xs =>
    cases e
    have rg := rep_tupR ra
    obtain ⟨p, vs, rfl, h1, r⟩ := ra.tup
    exact ⟨p, vs, rfl, .inr ⟨h1, q _ H (Same.refl H) rg⟩⟩
  | lst xs =>
    cases e
    obtain ⟨p, vs, rfl, h1, r⟩ := ra.lst
    refine ⟨p, vs, rfl, .inl ⟨h1, fun l hl => ?_⟩⟩
    have s := same_upd (o := .tup vs) hl
    exact q _ _ s (rep_tup_new (fun z => live l z hl) upd_same ((Ext.same s).reps r))
  | _ => cases e
theorem map_some {α : Type} {o : Option α} {f : α → AV} {z : AV} (h : o.map f = some z) : ∃ a, o = some a ∧ z = f a := by
  cases o with
  | none => cases h
  | some a => cases h; exact ⟨a, rfl, rfl⟩
theorem o_max2 : Op2' X ct (fun x y H Q => ∃ i j, [x, y] = [V.int i, .int j] ∧ Q (.int (if j > i then j else i)) H) pMax2 := by
  intro g H a b z x y Q live ra rb e q
  cases a <;> cases b <;> first | (simp [pMax2] at e; done) | skip
  cases e
  exact ⟨_, _, by rw [ra.int, rb.int], q _ H (Same.refl H) rep_int⟩
theorem o_min2 : Op2' X ct (fun x y H Q => ∃ i j, [x, y] = [V.int i, .int j] ∧ Q (.int (if j < i then j else i)) H) pMin2 := by
  intro g H a b z x y Q live ra rb e q
  cases a <;> cases b <;> first | (simp [pMin2] at e; done) | skip
  cases e
  exact ⟨_, _, by rw [ra.int, rb.int], q _ H (Same.refl H) rep_int⟩
theorem o_divmod : Op2' X ct (fun x y H Q => ∃ i j, [x, y] = [V.int i, .int j] ∧ CDiv i j ∧ ∀ p, H p = none → Q (.ref p) (upd H p (.tup [.int (i / j), .int (i % j)]))) pDivmod := by
  intro g H a b z x y Q live ra rb e q
  cases a <;> cases b <;> first | (simp [pDivmod] at e; done) | skip
  rename_i i j
  obtain ⟨h, rfl⟩ := ifp_some e
  refine ⟨i, j, by rw [ra.int, rb.int], ⟨h.1, by have := below_iff.mp h.2; omega⟩, fun p hp => ?_⟩
  have s := same_upd (o := .tup [V.int (i / j), V.int (i % j)]) hp
  exact q _ _ s (rep_tup_new (fun z => live p z hp) upd_same (.cons (by rw [Rep]) (.cons (by rw [Rep]) .nil)))
end
end Dn
set_option Elab.async false
set_option linter.all false
set_option maxRecDepth 100000
namespace Dn
open PySem PySem.Spec PyProof.Rows L2
def spM (c0 : Gc) (β : BInv) (n : Nat) (fn : List AV → T AV) : Sp := fun vs H Q E => ∃ (g : G) (ts : List AV), (∀ i, g.own i = none) ∧ (∀ a, g.M a → H a ≠ none ∧ ∀ ws, H a ≠ some (.tup ws)) ∧ (∀ a, g.M a → ¬ g.B a) ∧ β.I g.B g.D H ∧ RepsG c0 g H ts vs ∧ ts.length = n ∧
  okT c0 β E g H (fn ts) fun g' H' t => ∀ v, β.I g'.B g'.D H' → RepG c0 g' H' t v → Q v H'
def G.down (g : G) : G := { g with M := fun a => g.M a ∨ ∃ i, g.own i = some a, own := fun _ => none }
theorem down_av {g : G} {a : Addr} : g.down.Av a ↔ g.Av a := by
  unfold G.Av G.down
  constructor
  · rintro ((h | h) | ⟨i, h⟩ | h)
    · exact .inl h
    · exact .inr (.inl h)
    · cases h
    · exact .inr (.inr h)
  · rintro (h | h | h)
    · exact .inl (.inl h)
    · exact .inl (.inr h)
    · exact .inr (.inr h)
def G.up (g g1 : G) : G := { g with B := g1.B, D := g1.D }
section
variable {c0 : Gc} {β : BInv} {Ex : XK} {g g1 : G} {H H1 : Hp} {ρ : Env'} {σ : L2.St}
theorem down_ext (R : Rel c0 β g ρ σ H) (e : Ext g.down g1 H H1) : Ext g (g.up g1) H H1 where
  keep := fun a o h hn hb => e.keep a o h (fun i z => by cases z) hb
  live := e.live
  m := rfl
  bsub := e.bsub
  bnew := e.bnew
  dsub := e.dsub
  own := fun i a h => .inl ⟨i, h⟩
  s := rfl
theorem down_rep (e : Ext g.down g1 H H1) {t : AV} {v : V} (h : RepG c0 g1 H1 t v) : RepG c0 (g.up g1) H1 t v := h.imp (fun a o q na => ⟨q, fun z => na (by
  rcases z with z | ⟨i, z⟩ | z
  · exact .inl (by rw [e.m]; exact .inl z)
  · exact .inl (by rw [e.m]; exact .inr ⟨i, z⟩)
  · exact .inr (.inr z))⟩) fun _ h => h
theorem down_reps (e : Ext g.down g1 H H1) {t : List AV} {v : List V} (h : RepsG c0 g1 H1 t v) : RepsG c0 (g.up g1) H1 t v := h.imp (fun a o q na => ⟨q, fun z => na (by
  rcases z with z | ⟨i, z⟩ | z
  · exact .inl (by rw [e.m]; exact .inl z)
  · exact .inl (by rw [e.m]; exact .inr ⟨i, z⟩)
  · exact .inr (.inr z))⟩) fun _ h => h
theorem reps_down {t : List AV} {v : List V} (h : RepsG c0 g H t v) : RepsG c0 g.down H t v := h.imp (fun a o q na => ⟨q, fun z => na (down_av.mp z)⟩) fun _ h => h
theorem down_rel (R : Rel c0 β g ρ σ H) (e : Ext g.down g1 H H1) (hb : β.I g1.B g1.D H1) : Rel c0 β (g.up g1) ρ σ H1 :=
  R.step (down_ext R e) rfl (fun i a o h1 h2 => e.keep a o h2 (fun i z => by cases z) (R.sep i a h1).2) hb
theorem sp_call {n : Nat} {fn : List AV → T AV} {ts : List AV} {vs : List V} {Q : VK} (R : Rel c0 β g ρ σ H) (r : RepsG c0 g H ts vs) (hn : ts.length = n)
    (h : okT c0 β Ex g H (fn ts) fun g' H' t => ∀ v, Rel c0 β g' ρ σ H' → RepG c0 g' H' t v → Q v H') : spM c0 β n fn vs H Q Ex := by
  refine ⟨g.down, ts, fun _ => rfl, fun a h => ?_, fun a h => ?_, R.box, reps_down r, hn, ?_⟩
  · have h : g.Av a := h.elim .inl fun h => .inr (.inl h)
    exact ⟨R.avLive h, R.avNt h⟩
  · rcases h with h | ⟨i, h⟩
    · exact R.mb a h
    · exact (R.sep i a h).2
  · refine T.all_mono h (fun t q g1 H1 e v hb rv => q _ _ (down_ext R e) v (down_rel R e hb) (down_rep e rv)) fun c xs q g1 H1 C d ws e hb hm hd hl rv => ?_
    exact q _ _ C d ws (down_ext R e) hb hm hd hl (down_reps e rv)
end
def Deft (c0 : Gc) (ts : List AV) (vs : List V) : Prop := ∀ g H, RepsG c0 g H ts vs
def fCall (fn : List AV → T AV) (dts : List AV) (k : SemL) : Sem := fun ρ => (k ρ).bind fun p => (fn (p.1 ++ dts)).bind fun t => .ret (.val t, p.2)
section
variable {X : Cx} {ct : CT} {β : BInv} {Ex : XK} {a b e : Expr} {es : List Expr} {f k : Sem} {m : SemL} {pos p apos : Pos} {x : Str} {lv n : Nat} {fa C : Addr} {fd : FuncData} {ps : List Str} {fn : List AV → T AV} {ds : List Value} {dvs : List V} {dts : List AV}
theorem fCall_ok {σ : L2.St} {H : Hp} {Q : VK} (hd : Deft (gc X ct) dts dvs) (hn : ∀ ts : List AV, T.all (fun _ => True) (fun _ _ => True) (fn ts) → ts.length = n) (h : rdE (gc X ct) β Ex (fCall fn dts m) σ H Q) :
    rdL (gc X ct) β Ex m σ H fun vs H1 => spM (gc X ct) β n fn (vs ++ dvs) H1 Q Ex := by
  obtain ⟨g, ρ, R, h⟩ := h
  refine ⟨g, ρ, R, okT_mono (okT_bind h) fun g1 H1 q e1 h1 vs R1 rv => ?_⟩
  have h2 := okT_bind h1
  refine sp_call R1 (rv.append (hd g1 H1)) (hn _ (T.all_mono h2 (fun _ _ => trivial) fun _ _ _ => trivial)) (okT_mono h2 fun g' H' t e' q v R' rt => okT_ret q v R' rt)
theorem j_call (F : FnOk X.prog X.w X.K X.mg X.base (L2.CX X.prog X.w) lv fa fd ps (spM (gc X ct) β n fn)) (hn : ∀ ts : List AV, T.all (fun _ => True) (fun _ _ => True) (fn ts) → ts.length = n) (hr : Room lv X.A) (hm : X.mg x = some (.ref fa)) (hk : PySem.W.keepIn X.K (.ref fa) = true)
    (hb : Binds X.K fd ps ds) (hd : Vals dvs ds) (hdt : Deft (gc X ct) dts dvs) (hx : Passes (L2.CX X.prog X.w) X Ex) (ha : JL X ct β Ex (e :: es) m) (hg : Gl X x := by rfl) (hdb : (x == ("__debug__" : Str)) = false := by decide +kernel)
    (he : starEach (e :: es) X.env = (false, eval e X.env) :: starEach es X.env := by rfl) (hpl : (backTo pos (starEach es X.env)).any (·.1) = false := by rfl) : JE X ct β Ex (.Call (.Name x p) (e :: es) [] pos) (fCall fn dts m) :=
  PE.imp (pe_call F hr hg hm hk hb hd hx ha hdb he hpl) fun σ H Q h => fCall_ok hdt hn h
def fMeth (c : Nat) (fn : List AV → T AV) (dts : List AV) (f : Sem) (k : SemL) : Sem := fun ρ => (f ρ).bind fun q => (frz q).bind fun s => match s.1 with
  | .ins c' xs => if c' = c then (k s.2).bind fun p => (fn (.ins c' xs :: (p.1 ++ dts))).bind fun t => .ret (.val t, p.2) else .bad
  | _ => .bad
structure MethOk (X : Cx) (ct : CT) (c : Nat) (m : Str) (fa : Addr) : Prop where
  cls : ∀ C, X.mg (ct c).1 = some (.ref C) → Cls X.K C ∧ Meth X.K C m fa
  no : m ∉ (ct c).2
end
inductive Out where
  | nx (ρ : Env') | rt (t : AV) | bk (ρ : Env') | ct (ρ : Env')
abbrev SSem := Env' → T Out
def endOk (c0 : Gc) (β : BInv) (D : Ends) (g : G) (H : Hp) : Out → Prop
  | .nx ρ => ∀ σ, Rel c0 β g ρ σ H → D.nx σ H
  | .rt t => ∀ v, β.I g.B g.D H → RepG c0 g H t v → D.rt v H
  | .bk ρ => ∀ σ, Rel c0 β g ρ σ H → D.bk σ H
  | .ct ρ => ∀ σ, Rel c0 β g ρ σ H → D.ct σ H
def rdS (c0 : Gc) (β : BInv) (Ex : XK) (f : SSem) : TS := fun D σ H => ∃ g ρ, Rel c0 β g ρ σ H ∧ okT c0 β Ex g H (f ρ) (endOk c0 β D)
def JS (X : Cx) (ct : CT) (β : BInv) (Ex : XK) (st : Stmt) (f : SSem) : Prop := PS X st (rdS (gc X ct) β Ex f)
def JSs (X : Cx) (ct : CT) (β : BInv) (Ex : XK) (st : List Stmt) (f : SSem) : Prop := PSs X st (rdS (gc X ct) β Ex f)
theorem PS.imp {X : Cx} {st : Stmt} {t t' : TS} (h : PS X st t) (i : ∀ D σ H, t' D σ H → t D σ H) : PS X st t' := ⟨fun pins s σ H D I q => h.run pins s σ H D I (i D σ H q)⟩
theorem PSs.imp {X : Cx} {st : List Stmt} {t t' : TS} (h : PSs X st t) (i : ∀ D σ H, t' D σ H → t D σ H) : PSs X st t' := ⟨fun pins s σ H D I q => h.run pins s σ H D I (i D σ H q)⟩
def sSeq (f k : SSem) : SSem := fun ρ => (f ρ).bind fun
  | .nx ρ' => k ρ'
  | o => .ret o
def sNil : SSem := fun ρ => .ret (.nx ρ)
def sExpr (f : Sem) : SSem := fun ρ => (f ρ).bind fun p => .ret (.nx p.2)
def sRet (f : Sem) : SSem := fun ρ => (f ρ).bind fun p => (frz p).bind fun q => .ret (.rt q.1)
def sRetN : SSem := fun _ => .ret (.rt .non)
def sBreak : SSem := fun ρ => .ret (.bk ρ)
def sCont : SSem := fun ρ => .ret (.ct ρ)
def sIf (t : SemB) (f k : SSem) : SSem := fun ρ => (t ρ).bind fun p => if p.1 then f p.2 else k p.2
def sSet (i : Nat) (f : Sem) : SSem := fun ρ => (f ρ).bind fun p => (frz p).bind fun q => .ret (.nx (q.2.set i (.fro q.1)))
section
variable {X : Cx} {ct : CT} {β : BInv} {Ex : XK} {a b e : Expr} {st : Stmt} {sts sts' : List Stmt} {f : Sem} {fb : SemB} {s s' : SSem} {pos p : Pos} {x : Str} {i : Nat}
theorem js_nil : JSs X ct β Ex [] sNil := PSs.imp pss_nil fun D σ H h => by
  obtain ⟨g, ρ, R, h⟩ := h
  exact okT_ret h σ R
theorem js_cons (h1 : JS X ct β Ex st s) (h2 : JSs X ct β Ex sts s') : JSs X ct β Ex (st :: sts) (sSeq s s') := by
  refine PSs.imp (pss_cons h1 h2) fun D σ H h => ?_
  obtain ⟨g, ρ, R, h⟩ := h
  refine ⟨g, ρ, R, okT_mono (okT_bind h) fun g' H' o e q => ?_⟩
  cases o with
  | nx ρ' => exact fun σ' R' => ⟨g', ρ', R', q⟩
  | rt t => exact (okT_ret (c0 := gc X ct) (β := β) (Ex := Ex) (Q := endOk (gc X ct) β D) q : endOk (gc X ct) β D g' H' (.rt t))
  | bk ρ' => exact (okT_ret (c0 := gc X ct) (β := β) (Ex := Ex) (Q := endOk (gc X ct) β D) q : endOk (gc X ct) β D g' H' (.bk ρ'))
  | ct ρ' => exact (okT_ret (c0 := gc X ct) (β := β) (Ex := Ex) (Q := endOk (gc X ct) β D) q : endOk (gc X ct) β D g' H' (.ct ρ'))
theorem js_expr (ha : JE X ct β Ex a f) (hs : swapsWith a none pos.line X.env = pure false := by rfl) : JS X ct β Ex (.Expr a pos) (sExpr f) := by
  refine PS.imp (ps_expr ha hs) fun D σ H h => ?_
  obtain ⟨g, ρ, R, h⟩ := h
  exact ⟨g, ρ, R, okT_mono (okT_bind h) fun g' H' p e q v R' rv => okT_ret q σ R'⟩
theorem js_ret (ha : JE X ct β Ex a f) : JS X ct β Ex (.Return (some a) pos) (sRet f) := by
  refine PS.imp (ps_ret ha) fun D σ H h => ?_
  obtain ⟨g, ρ, R, h⟩ := h
  refine ⟨g, ρ, R, okT_mono (okT_bind h) fun g' H' p e q v R' rv => ?_⟩
  obtain ⟨g2, s, e2, R2, rs, h2⟩ := frz_ok R' rv q
  exact okT_ret h2 v R2.box rs
theorem js_if (hc : JT X ct β Ex a fb) (h1 : JSs X ct β Ex sts s) (h2 : JSs X ct β Ex sts' s') : JS X ct β Ex (.If a sts sts' pos) (sIf fb s s') := by
  refine PS.imp (ps_if hc h1 h2) fun D σ H h => ?_
  obtain ⟨g, ρ, R, h⟩ := h
  refine ⟨g, ρ, R, okT_mono (okT_bind h) fun g1 H1 p e1 h1 R1 => ?_⟩
  by_cases hp : p.1 = true
  · rw [if_pos hp] at h1 ⊢
    exact ⟨g1, p.2, R1, h1⟩
  · rw [if_neg hp] at h1 ⊢
    exact ⟨g1, p.2, R1, h1⟩
theorem Rel.setFro {c0 : Gc} {g : G} {ρ : Env'} {σ : L2.St} {H : Hp} {j : Nat} {t : AV} {v : V} (R : Rel c0 β g ρ σ H) (r : RepG c0 g H t v) (hj : j < ρ.length) : Rel c0 β (g.no j) (ρ.set j (.fro t)) (σ.set j (some v)) H := by
  refine R.put (ext_no g j H) (List.length_set ..) (fun i hi => List.getElem?_set_ne (Ne.symm hi)) hj (fun i hi => own_no_ne hi) (fun _ _ _ _ _ h => h) R.box ?_ fun a h => by rw [own_no] at h; cases h
  rw [own_no]
  exact ⟨rfl, v, by rw [List.getElem?_set_self (by rw [R.len]; exact hj)], (ext_no g j H).rep r⟩
theorem set_ge {ρ : Env'} {j : Nat} {s : Slot} (h : ¬ j < ρ.length) : ρ.set j s = ρ := List.set_eq_of_length_le (by omega)
theorem js_set (i : Nat) (ha : JE X ct β Ex a f) (hN : X.N.Nodup) (hi : X.N[i]? = some x := by rfl) (hx : Loc X.env.scope x := by first | exact Or.inl rfl | exact Or.inr rfl) (hs : swapsWith a (some (.Name x p)) pos.line X.env = pure false := by rfl)
    (hf : X.fn x = true ∨ X.env.scope.names.lookup x = some .local := by first | exact .inl rfl | exact .inr rfl) : JS X ct β Ex (.Assign [.Name x p] a pos) (sSet i f) := by
  refine PS.imp (ps_set hN hi hx ha hs hf) fun D σ H h => ?_
  obtain ⟨g, ρ, R, h⟩ := h
  refine ⟨g, ρ, R, okT_mono (okT_bind h) fun g' H' p e q v R' rv => ?_⟩
  obtain ⟨g2, s, e2, R2, rs, h2⟩ := frz_ok R' rv q
  show D.nx (σ.set i (some v)) H'
  by_cases hj : i < s.2.length
  · exact okT_ret' h2 (ext_no g2 i H') _ (R2.setFro rs hj)
  · have e := okT_ret h2
    rw [set_ge hj] at e
    have : σ.set i (some v) = σ := List.set_eq_of_length_le (by rw [R2.len]; omega)
    rw [this]
    exact e σ R2
end
abbrev GSem := AV → Env' → T Env'
def Agree (is : List Nat) (σ σ' : L2.St) : Prop := σ'.length = σ.length ∧ ∀ i, i ∉ is → σ'[i]? = σ[i]?
theorem Agree.refl {is : List Nat} {σ : L2.St} : Agree is σ σ := ⟨rfl, fun _ _ => rfl⟩
theorem Agree.trans {is js : List Nat} {σ σ1 σ2 : L2.St} (a : Agree is σ σ1) (b : Agree js σ1 σ2) : Agree (is ++ js) σ σ2 :=
  ⟨b.1.trans a.1, fun i h => (b.2 i fun z => h (List.mem_append_right _ z)).trans (a.2 i fun z => h (List.mem_append_left _ z))⟩
def rdG (c0 : Gc) (β : BInv) (Ex : XK) (is : List Nat) (f : GSem) : TG := fun v σ H Q => ∃ g ρ t, Rel c0 β g ρ σ H ∧ RepG c0 g H t v ∧ okT c0 β Ex g H (f t ρ) fun g' H' ρ' => ∀ σ', Agree is σ σ' → Rel c0 β g' ρ' σ' H' → Q σ' H'
def rdGs (c0 : Gc) (β : BInv) (Ex : XK) (is : List Nat) (f : List AV → Env' → T Env') : TGs := fun vs σ H Q => ∃ g ρ ts, Rel c0 β g ρ σ H ∧ RepsG c0 g H ts vs ∧ okT c0 β Ex g H (f ts ρ) fun g' H' ρ' => ∀ σ', Agree is σ σ' → Rel c0 β g' ρ' σ' H' → Q σ' H'
def JG (X : Cx) (ct : CT) (β : BInv) (Ex : XK) (e : Expr) (is : List Nat) (f : GSem) : Prop := PG X e (rdG (gc X ct) β Ex is f)
def JGs (X : Cx) (ct : CT) (β : BInv) (Ex : XK) (e : List Expr) (is : List Nat) (f : List AV → Env' → T Env') : Prop := PGs X e (rdGs (gc X ct) β Ex is f)
theorem PG.imp {X : Cx} {e : Expr} {t t' : TG} (h : PG X e t) (i : ∀ v σ H Q, t' v σ H Q → t v σ H Q) : PG X e t' := ⟨fun pins s σ H v u Q I r q => h.run pins s σ H v u Q I r (i v σ H Q q)⟩
theorem PGs.imp {X : Cx} {e : List Expr} {t t' : TGs} (h : PGs X e t) (i : ∀ v σ H Q, t' v σ H Q → t v σ H Q) : PGs X e t' := ⟨fun pins s σ H v u Q I r q => h.run pins s σ H v u Q I r (i v σ H Q q)⟩
def tgName (i : Nat) : GSem := fun t ρ => .ret (ρ.set i (.fro t))
def tgNil : List AV → Env' → T Env' := fun ts ρ => match ts with
  | [] => .ret ρ
  | _ => .bad
def tgCons (f : GSem) (k : List AV → Env' → T Env') : List AV → Env' → T Env' := fun ts ρ => match ts with
  | t :: r => (f t ρ).bind fun ρ' => k r ρ'
  | [] => .bad
def tgTup (n : Nat) (k : List AV → Env' → T Env') : GSem := fun t ρ => match t with
  | .tup xs => if xs.length = n then k xs ρ else .bad
  | _ => .bad
def sAsg (f : Sem) (k : GSem) : SSem := fun ρ => (f ρ).bind fun p => (frz p).bind fun q => (k q.1 q.2).bind fun ρ' => .ret (.nx ρ')
section
variable {X : Cx} {ct : CT} {β : BInv} {Ex : XK} {a tg : Expr} {es : List Expr} {is js : List Nat} {f : Sem} {k : GSem} {ks : List AV → Env' → T Env'} {pos p : Pos} {x : Str} {n kk : Nat}
theorem jg_name (i : Nat) (hN : X.N.Nodup) (hi : X.N[i]? = some x := by rfl) (hx : Loc X.env.scope x := by first | exact Or.inl rfl | exact Or.inr rfl)
    (hf : X.fn x = true ∨ X.env.scope.names.lookup x = some .local := by first | exact .inl rfl | exact .inr rfl) : JG X ct β Ex (.Name x p) [i] (tgName i) := by
  refine PG.imp (pg_name hN hi hx hf) fun v σ H Q h => ?_
  obtain ⟨g, ρ, t, R, r, h⟩ := h
  show Q (σ.set i (some v)) H
  have ag : Agree [i] σ (σ.set i (some v)) := ⟨List.length_set .., fun j hj => List.getElem?_set_ne (fun e => hj (by simp [e]))⟩
  by_cases hj : i < ρ.length
  · exact okT_ret' h (ext_no g i H) _ ag (R.setFro r hj)
  · have e := okT_ret h
    rw [set_ge hj] at e
    have e2 : σ.set i (some v) = σ := List.set_eq_of_length_le (by rw [R.len]; omega)
    rw [e2] at ag ⊢
    exact e σ ag R
theorem jg_nil : JGs X ct β Ex [] [] tgNil := PGs.imp pgs_nil fun vs σ H Q h => by
  obtain ⟨g, ρ, ts, R, r, h⟩ := h
  cases ts with
  | nil => rw [RepsG, RepL] at r; exact ⟨r, okT_ret h σ Agree.refl R⟩
  | cons _ _ => exact (show False from h).elim
theorem jg_cons (h1 : JG X ct β Ex tg is k) (h2 : JGs X ct β Ex es js ks) (hs : (assignEach (tg :: es) X.env).map (·.2) = assign tg X.env :: (assignEach es X.env).map (·.2) := by rfl) : JGs X ct β Ex (tg :: es) (is ++ js) (tgCons k ks) := by
  refine PGs.imp (pgs_cons h1 h2 hs) fun vs σ H Q h => ?_
  obtain ⟨g, ρ, ts, R, r, h⟩ := h
  cases ts with
  | nil => exact (show False from h).elim
  | cons t ts =>
    rw [RepsG, RepL] at r
    obtain ⟨v, r', rfl, h1, h2⟩ := r
    exact ⟨v, r', rfl, g, ρ, t, R, h1, okT_mono (okT_bind h) fun g' H' ρ' e q σ' a1 R' => ⟨g', ρ', ts, R', e.reps h2, okT_mono q fun g2 H2 ρ2 e2 q2 σ2 a2 R2 => q2 σ2 (a1.trans a2) R2⟩⟩
theorem jg_tup (hc : X.calm = true) (h : JGs X ct β Ex es is ks) (hn : (assignEach es X.env).length = n := by rfl) (hst : (assignEach es X.env).findIdx? (·.1) = none := by rfl) : JG X ct β Ex (.Tuple es kk pos) is (tgTup n ks) := by
  refine PG.imp (pg_tup hc h hn hst) fun v σ H Q h => ?_
  obtain ⟨g, ρ, t, R, r, h⟩ := h
  cases t with
  | tup xs =>
    rw [RepG, Rep] at r
    obtain ⟨a, vs, rfl, q, r⟩ := r
    have h' : okT (gc X ct) β Ex g H (if xs.length = n then ks xs ρ else .bad) _ := h
    by_cases hl : xs.length = n
    · rw [if_pos hl] at h'
      exact ⟨a, vs, rfl, q.sq, r.length.trans hl, g, ρ, xs, R, r, h'⟩
    · rw [if_neg hl] at h'
      exact (show False from h').elim
  | _ => exact (show False from h).elim
theorem js_asg (ha : JE X ct β Ex a f) (hg : JG X ct β Ex tg is k) (hs : swapsWithSole [tg] a pos.line X.env = pure false := by rfl) (hw : swappedStores [tg] a X.env = pure none := by rfl)
    (h1 : (assignEach [tg] X.env).map (·.2) = [assign tg X.env] := by rfl) : JS X ct β Ex (.Assign [tg] a pos) (sAsg f k) := by
  refine PS.imp (ps_asg ha hg hs hw h1) fun D σ H h => ?_
  obtain ⟨g, ρ, R, h⟩ := h
  refine ⟨g, ρ, R, okT_mono (okT_bind h) fun g' H' p e q v R' rv => ?_⟩
  obtain ⟨g2, s, e2, R2, rs, h2⟩ := frz_ok R' rv q
  exact ⟨g2, s.2, s.1, R2, rs, okT_mono (okT_bind h2) fun g3 H3 ρ' e3 q3 σ' _ R3 => okT_ret q3 σ' R3⟩
end
def outV : Out → T AV
  | .rt t => .ret t
  | .nx _ => .ret .non
  | _ => .bad
def fnOf (np n : Nat) (body : SSem) : List AV → T AV := fun ts => if ts.length = np then (body (ts.map Slot.fro ++ List.replicate (n - np) .un)).bind outV else .bad
theorem fnOf_len {np n : Nat} {body : SSem} (ts : List AV) (h : T.all (fun _ => True) (fun _ _ => True) (fnOf np n body ts)) : ts.length = np := by
  unfold fnOf at h
  by_cases hl : ts.length = np
  · exact hl
  · rw [if_neg hl] at h; exact h.elim
section
variable {P : Program} {w : World} {K : PySem.W.Frag} {mg : Str → Option Value} {base : Heap} {ct : CT} {β : BInv}
theorem passB {N : List Str} {qual : Str} {scope : Scope} {f : Addr} {cd : Value} {A : Around} {outer : List Env} {s : Shared} {H : Hp} {E : XK} : Passes (L2.CX P w) (cxOf (L2.CX P w) P w K mg base N qual scope f cd A outer s H E) E :=
  passes_call (X := cxOf (L2.CX P w) P w K mg base N qual scope f cd A outer s H E) (takes_of rfl rfl rfl rfl) fun _ _ _ _ h => h
theorem passOwnB {N : List Str} {qual : Str} {scope : Scope} {f : Addr} {cd : Value} {A : Around} {outer : List Env} {s : Shared} {H : Hp} {E : XK} :
    PassesOwn (model P w) (cxOf (L2.CX P w) P w K mg base N qual scope f cd A outer s H E).A (cxOf (L2.CX P w) P w K mg base N qual scope f cd A outer s H E).env (cxOf (L2.CX P w) P w K mg base N qual scope f cd A outer s H E).xe :=
  passes_of (X := cxOf (L2.CX P w) P w K mg base N qual scope f cd A outer s H E) rfl
theorem rel_start {c0 : Gc} {g : G} {H : Hp} {ts : List AV} {vs : List V} {N : List Str} {np : Nat} (ho : ∀ i, g.own i = none) (hm : ∀ a, g.M a → H a ≠ none ∧ ∀ ws, H a ≠ some (.tup ws)) (hmb : ∀ a, g.M a → ¬ g.B a) (hb : β.I g.B g.D H) (r : RepsG c0 g H ts vs) (hl : ts.length = np) (hN : np ≤ N.length) :
    Rel c0 β g (ts.map Slot.fro ++ List.replicate (N.length - np) .un) (L2.start N vs) H where
  len := by
    unfold L2.start
    rw [List.length_append, List.length_append, List.length_map, List.length_map, List.length_replicate, List.length_replicate, r.length, hl]
  sl := fun i s hi => by
    rw [ho i]
    by_cases h : i < ts.length
    · rw [List.getElem?_append_left (by rw [List.length_map]; exact h), List.getElem?_map] at hi
      cases e : ts[i]? with
      | none => rw [e] at hi; cases hi
      | some t =>
        rw [e] at hi
        cases hi
        obtain ⟨v, ev, rv⟩ := r.get' e
        refine ⟨rfl, v, ?_, rv⟩
        unfold L2.start
        rw [List.getElem?_append_left (by rw [List.length_map, r.length]; exact h), List.getElem?_map, ev]
        rfl
    · rw [List.getElem?_append_right (by rw [List.length_map]; omega), List.getElem?_replicate] at hi
      split at hi
      · cases hi; rfl
      · cases hi
  out := fun i _ => ho i
  inj := fun i j a h => by rw [ho i] at h; cases h
  alive := fun a h => (hm a h).1
  nt := fun a h => (hm a h).2
  sep := fun i a h => by rw [ho i] at h; cases h
  mb := hmb
  box := hb
theorem fn_def {x qual : Str} {st : Stmt} {f : Addr} {fd : FuncData} {N ps : List Str} {k : Nat} {body : SSem} (F : Fun K x qual st f fd) (S : FnScope N ps (defScope st)) (hl : ps.length ≤ N.length)
    (hb : ∀ (cdv : Value) (A : Around) (outer : List Env) (s : Shared) (H : Hp) (E : XK), Room k (A.deeper (envOfC qual (defScope st) s.heap.objs.size f cdv)) → JSs (cxOf (L2.CX P w) P w K mg base N qual (defScope st) f cdv A outer s H E) ct β E (defBody st) body) :
    FnOk P w K mg base (L2.CX P w) (k + 1) f fd ps (spM ⟨K, mg, ct⟩ β ps.length (fnOf ps.length N.length body)) := by
  refine F.okX S (fun vs H Q E h => ?_) fun cdv A outer s H vs Q E hr h => ?_
  · obtain ⟨g, ts, _, _, _, _, r, e, _⟩ := h
    rw [r.length, e]
  · obtain ⟨g, ts, ho, hm, hmb, hbx, r, e, h⟩ := h
    refine ⟨_, hb cdv A outer s H E hr, g, _, rel_start ho hm hmb hbx r e hl, ?_⟩
    have h' : okT ⟨K, mg, ct⟩ β E g H ((body (ts.map Slot.fro ++ List.replicate (N.length - ps.length) .un)).bind outV) fun g' H' t => ∀ v, β.I g'.B g'.D H' → RepG ⟨K, mg, ct⟩ g' H' t v → Q v H' := by
      unfold fnOf at h
      rw [if_pos e] at h
      exact h
    refine okT_mono (okT_bind h') fun g' H' o e q => ?_
    cases o with
    | nx ρ => exact fun σ R => okT_ret q .non R.box rep_non
    | rt t => exact okT_ret (c0 := ⟨K, mg, ct⟩) (β := β) (Ex := E) (Q := fun g' H' t => ∀ v, β.I g'.B g'.D H' → RepG ⟨K, mg, ct⟩ g' H' t v → Q v H') q
    | bk ρ => exact (show False from q).elim
    | ct ρ => exact (show False from q).elim
end
end Dn
set_option Elab.async false
set_option linter.all false
set_option maxRecDepth 100000
namespace Dn
open PySem PySem.Spec PyProof.Rows L2
def Keeps (c0 : Gc) (g g' : G) (H H' : Hp) : Prop := ∀ t v, RepG c0 g H t v → RepG c0 g' H' t v
structure Wk (c0 : Gc) (g : G) (H : Hp) (J : It) (xs : List AV) : Prop where
  go : ∀ (g' : G) (H' : Hp) (i : Nat), Keeps c0 g g' H H' → i < xs.length → J.go i H'
  yld : ∀ (g' : G) (H' H2 : Hp) (i : Nat) (x : AV) (v : V), Keeps c0 g g' H H' → (∀ p, g'.Av p → H' p ≠ none) → xs[i]? = some x → J.yld i H' v H2 → Same H' H2 ∧ RepG c0 g' H2 x v
  stop : ∀ (g' : G) (H' : Hp) (i : Nat), Keeps c0 g g' H H' → xs.length ≤ i → J.stop i H'
abbrev SemI := Env' → T (List AV × Env')
def rdI (c0 : Gc) (β : BInv) (Ex : XK) (f : SemI) : TI := fun σ H R => ∃ g ρ, Rel c0 β g ρ σ H ∧ okT c0 β Ex g H (f ρ) fun g' H' p => ∀ J, Rel c0 β g' p.2 σ H' → Wk c0 g' H' J p.1 → R J H'
def JI (X : Cx) (ct : CT) (β : BInv) (Ex : XK) (tg e : Expr) (f : SemI) : Prop := PI X tg e (rdI (gc X ct) β Ex f)
theorem PI.imp {X : Cx} {tg e : Expr} {t t' : TI} (h : PI X tg e t) (i : ∀ σ H Q, t' σ H Q → t σ H Q) : PI X tg e t' := ⟨fun pins s σ H R I q => h.run pins s σ H R I (i σ H R q)⟩
def seqOf : AV → Option (List AV)
  | .tup xs => some xs
  | .lst xs => some xs
  | _ => none
def iSeq (f : Sem) : SemI := fun ρ => (f ρ).bind fun p => (frz p).bind fun q => (lift (seqOf q.1)).bind fun xs => .ret (xs, q.2)
def rangeL (lo : Int) (n : Nat) : List AV := (List.range n).map fun (i : Nat) => AV.int (lo + (i : Int))
def iRange1 (f : Sem) : SemI := fun ρ => (f ρ).bind fun p => (lift (rs p.1 p.2)).bind fun a => (lift (intOf a)).bind fun j => if below j 62 = true then .ret (rangeL 0 j.toNat, p.2) else .bad
def iRange2 (f k : Sem) : SemI := fun ρ => (f ρ).bind fun p => (k p.2).bind fun q => (lift (rs p.1 q.2)).bind fun a => (lift (intOf a)).bind fun i => (lift (rs q.1 q.2)).bind fun b => (lift (intOf b)).bind fun j =>
  if below i 62 = true ∧ below j 62 = true then .ret (rangeL i (j - i).toNat, q.2) else .bad
section
variable {X : Cx} {ct : CT} {β : BInv} {Ex : XK} {a b tg : Expr} {f k : Sem} {pos p : Pos}
def iAny (K : PySem.W.Frag) (t0 : TE) : TI := fun σ H R => t0 σ H fun x H1 => (∃ q, x = .ref q ∧ (∃ xs, SqL K H1 q xs) ∧ R (Itl K q) H1) ∨ ∃ q, x = .ref q ∧ (∃ xs, SqT K H1 q xs) ∧ R (Itt K q) H1
theorem pi_anySeq {e0 : Expr} {t0 : TE} (he : PE X e0 t0) : PI X tg e0 (iAny X.K t0) := by
  constructor
  intro pins s σ H R I h
  refine thn (he.run pins s σ H _ I h) ?_
  rintro v s1 ⟨x, H1, I1, r1, ⟨q, rfl, ⟨xs, hq⟩, k⟩ | ⟨q, rfl, ⟨xs, hq⟩, k⟩⟩
  · cases r1
    obtain ⟨its, _, pl, _⟩ := I1.list hq
    apply wpAny_pyIter_list pl.isList
    have J := I1.kept (t' := s1.toks) (h' := s1.heap.push { cls := .type "list_iterator", data := .fields #[.ref q, .int 0 0] }) fun _ _ w => Heap.get?_push_of_some _ w
    refine ⟨_, [s1.heap.objs.size], _, Itl X.K q, H1, rfl, J, turn_list q _, ⟨_, Heap.get?_push_size _ rfl, rfl, rfl⟩, ?_, k⟩
    intro b hb
    cases List.mem_singleton.mp hb
    exact I1.fpOk (Nat.le_refl _) I1.fresh
  · cases r1
    obtain ⟨its, _, pl, _⟩ := I1.tuple hq
    apply wpAny_pyIter_tuple (show s1.heap.IsTuple q its.toArray from pl)
    have J := I1.kept (t' := s1.toks) (h' := s1.heap.push { cls := .type "tuple_iterator", data := .fields #[.ref q, .int 0 0] }) fun _ _ w => Heap.get?_push_of_some _ w
    refine ⟨_, [s1.heap.objs.size], _, Itt X.K q, H1, rfl, J, turn_tuple q _, ⟨_, Heap.get?_push_size _ rfl, rfl, rfl⟩, ?_, k⟩
    intro b hb
    cases List.mem_singleton.mp hb
    exact I1.fpOk (Nat.le_refl _) I1.fresh
theorem wk_list {c0 : Gc} {g : G} {H : Hp} {a : Addr} {xs : List AV} (h : RepG c0 g H (.lst xs) (.ref a)) : Wk c0 g H (Itl c0.K a) xs := by
  have at_ : ∀ (g' : G) (H' : Hp), Keeps c0 g g' H H' → ∃ vs, H' a = some (.lst vs) ∧ RepsG c0 g' H' xs vs := fun g' H' k => by
    have q := k _ _ h
    rw [RepG, Rep] at q
    obtain ⟨a', vs, e, ⟨na, ho⟩, r⟩ := q
    cases e
    exact ⟨vs, ho, r⟩
  refine ⟨fun g' H' i e hi => ?_, fun g' H' H2 i x v e _ hx hy => ?_, fun g' H' i e hi => ?_⟩
  · obtain ⟨vs, ho, r⟩ := at_ g' H' e
    exact ⟨vs, vs[i]'(by rw [r.length]; exact hi), .of ho, List.getElem?_eq_getElem _⟩
  · obtain ⟨e1, hy⟩ := hy
    subst e1
    obtain ⟨vs, ho, r⟩ := at_ g' _ e
    refine ⟨Same.refl _, ?_⟩
    obtain ⟨y, ey, ry⟩ := r.get (hy vs (.of ho))
    rw [hx] at ey
    cases ey
    exact ry
  · obtain ⟨vs, ho, r⟩ := at_ g' H' e
    exact ⟨vs, .of ho, by rw [r.length]; exact hi⟩
theorem TupAt.ext {K : PySem.W.Frag} {g g' : G} {H H' : Hp} {a : Addr} {vs : List V} (e : Ext g g' H H') (h : TupAt K g.Av H a vs) : TupAt K g'.Av H' a vs := by
  rcases h with ⟨na, q⟩ | q
  · exact .inl ⟨(e.av q na).2, (e.av q na).1⟩
  · exact .inr q
theorem wk_tup {c0 : Gc} {g : G} {H : Hp} {a : Addr} {xs : List AV} (h : RepG c0 g H (.tup xs) (.ref a)) : Wk c0 g H (Itt c0.K a) xs := by
  have at_ : ∀ (g' : G) (H' : Hp), Keeps c0 g g' H H' → ∃ vs, SqT c0.K H' a vs ∧ RepsG c0 g' H' xs vs := fun g' H' k => by
    have q := k _ _ h
    rw [RepG, Rep] at q
    obtain ⟨a', vs, e, ho, r⟩ := q
    cases e
    exact ⟨vs, ho.sq, r⟩
  refine ⟨fun g' H' i e hi => ?_, fun g' H' H2 i x v e _ hx hy => ?_, fun g' H' i e hi => ?_⟩
  · obtain ⟨vs, ho, r⟩ := at_ g' H' e
    exact ⟨vs, vs[i]'(by rw [r.length]; exact hi), ho, List.getElem?_eq_getElem _⟩
  · obtain ⟨e1, hy⟩ := hy
    subst e1
    obtain ⟨vs, ho, r⟩ := at_ g' _ e
    refine ⟨Same.refl _, ?_⟩
    obtain ⟨y, ey, ry⟩ := r.get (hy vs ho)
    rw [hx] at ey
    cases ey
    exact ry
  · obtain ⟨vs, ho, r⟩ := at_ g' H' e
    exact ⟨vs, ho, by rw [r.length]; exact hi⟩
theorem ji_seq (ha : JE X ct β Ex a f) : JI X ct β Ex tg a (iSeq f) := by
  refine PI.imp (pi_anySeq ha) fun σ H R h => ?_
  obtain ⟨g, ρ, Rl, h⟩ := h
  refine ⟨g, ρ, Rl, okT_mono (okT_bind h) fun g1 H1 p e1 h1 x R1 rx => ?_⟩
  obtain ⟨g2, s, e2, R2, rs, h2⟩ := frz_ok R1 rx h1
  obtain ⟨xs, ex, h3⟩ := okT_lift h2
  obtain ⟨t, ρ2⟩ := s
  cases t with
  | tup ys =>
    cases ex
    have rs0 := rs
    rw [RepG, Rep] at rs
    obtain ⟨q, vs, rfl, hq, _⟩ := rs
    exact .inr ⟨q, rfl, ⟨vs, hq.sq⟩, okT_ret h3 _ R2 (wk_tup rs0)⟩
  | lst ys =>
    cases ex
    have rs0 := rs
    rw [RepG, Rep] at rs
    obtain ⟨q, vs, rfl, hq, _⟩ := rs
    exact .inl ⟨q, rfl, ⟨vs, hq.sq⟩, okT_ret h3 _ R2 (wk_list rs0)⟩
  | _ => cases ex
theorem wk_range {c0 : Gc} {g : G} {H : Hp} {lo : Int} {n : Nat} : Wk c0 g H (Itr lo n) (rangeL lo n) := by
  have hl : (rangeL lo n).length = n := by unfold rangeL; rw [List.length_map, List.length_range]
  refine ⟨fun g' H' i e hi => by rw [hl] at hi; exact hi, fun g' H' H2 i x v e _ hx hy => ?_, fun g' H' i e hi => by rw [hl] at hi; exact hi⟩
  obtain ⟨e1, hy⟩ := hy
  subst e1
  refine ⟨Same.refl _, ?_⟩
  unfold rangeL at hx
  rw [List.getElem?_map] at hx
  have hi : i < n := by
    cases q : (List.range n)[i]? with
    | none => rw [q] at hx; cases hx
    | some j =>
      have := (List.getElem?_eq_some_iff.mp q).1
      rwa [List.length_range] at this
  rw [List.getElem?_range hi] at hx
  cases hx
  rw [hy]
  exact rep_int
theorem ji_range1 (hg : Gl X "range") (hm : X.mg "range" = none) (ha : JE X ct β Ex a f) (hs : starEach [a] X.env = [(false, eval a X.env)] := by rfl) (he : starEach [a] X.env = (false, eval a X.env) :: starEach [] X.env := by rfl) :
    JI X ct β Ex tg (.Call (.Name "range" p) [a] [] pos) (iRange1 f) := by
  refine PI.imp (pi_range1 hg hm (pa_cons ha pa_nil he) hs) fun σ H R h => ?_
  obtain ⟨g, ρ, Rl, h⟩ := h
  refine ⟨g, ρ, Rl, okT_mono (okT_bind h) fun g1 H1 p e1 h1 x R1 rx => ?_⟩
  obtain ⟨u, eu, h2⟩ := okT_lift h1
  obtain ⟨j, ej, h3⟩ := okT_lift h2
  have := intOf_eq ej
  subst this
  have ex := (rx.rs R1 eu).int
  subst ex
  by_cases hb : below j 62 = true
  · rw [if_pos hb] at h3
    have hb := below62 hb
    exact ⟨j, rfl, hb.1, hb.2, okT_ret h3 _ R1 wk_range⟩
  · rw [if_neg hb] at h3
    exact (show False from h3).elim
end
def forL (k : GSem) (body : SSem) : List AV → Env' → T Out
  | [], ρ => .ret (.nx ρ)
  | x :: xs, ρ => (k x ρ).bind fun ρ1 => (body ρ1).bind fun
    | .nx ρ' => forL k body xs ρ'
    | .ct ρ' => forL k body xs ρ'
    | .bk ρ' => .ret (.nx ρ')
    | .rt t => .ret (.rt t)
def sFor (it : SemI) (k : GSem) (body : SSem) : SSem := fun ρ => (it ρ).bind fun p => forL k body p.1 p.2
section
variable {X : Cx} {ct : CT} {β : BInv} {Ex : XK} {a tg it : Expr} {is : List Nat} {body : List Stmt} {f : SemI} {k : GSem} {sb : SSem} {pos : Pos} {fb : SemB}
theorem js_for (hp : PassesOwn (model X.prog X.w) X.A X.env X.xe) (hc : X.calm = true) (hi : JI X ct β Ex tg it f) (hg : JG X ct β Ex tg is k) (hb : JSs X ct β Ex body sb) (hs : ∀ x, foldedSetIterable it X.env x = pure x := by intro _; rfl) :
    JS X ct β Ex (.For tg it body [] pos) (sFor f k sb) := by
  refine PS.imp (ps_for hp hc hi hg hb hs) fun D σ H h => ?_
  obtain ⟨g, ρ, R, h⟩ := h
  refine ⟨g, ρ, R, okT_mono (okT_bind h) fun g1 H1 p e1 h1 J R1 wk => ?_⟩
  obtain ⟨xs, ρ1⟩ := p
  refine ⟨fun i m σ H => m = xs.length - i ∧ i ≤ xs.length ∧ ∃ g ρ, Ext g1 g H1 H ∧ Rel (gc X ct) β g ρ σ H ∧ okT (gc X ct) β Ex g H (forL k sb (xs.drop i) ρ) (endOk (gc X ct) β D), ⟨xs.length, by simp, Nat.zero_le _, g1, ρ1, .refl _ _, R1, h1⟩, ?_⟩
  rintro i m σ2 H2 ⟨rfl, hi, g2, ρ2, e2, R2, h2⟩
  by_cases hlt : i < xs.length
  · refine .inr ⟨wk.go _ _ _ (fun _ _ => e2.rep) hlt, _, fun σ' H' n => ⟨xs.length - (i + 1), by omega, n⟩, fun x H3 hy => ?_⟩
    have ex : xs[i]? = some xs[i] := List.getElem?_eq_getElem hlt
    obtain ⟨sm, rx⟩ := wk.yld _ _ _ _ _ _ (fun _ _ => e2.rep) (fun _ h => R2.avLive h) ex hy
    rw [List.drop_eq_getElem_cons hlt] at h2
    have h3 : okT (gc X ct) β Ex g2 H3 ((k xs[i] ρ2).bind fun ρ1 => (sb ρ1).bind fun | .nx ρ' => forL k sb (xs.drop (i + 1)) ρ' | .ct ρ' => forL k sb (xs.drop (i + 1)) ρ' | .bk ρ' => .ret (.nx ρ') | .rt t => .ret (.rt t)) (endOk (gc X ct) β D) :=
      T.all_mono h2 (fun o q g' H' e => q g' H' ((Ext.same sm).trans e)) fun c xs q g' H' C d vs e => q g' H' C d vs ((Ext.same sm).trans e)
    refine ⟨g2, ρ2, xs[i], R2.same sm, rx, okT_mono (okT_bind h3) fun g4 H4 ρ4 e4 h4 σ4 _ R4 => ⟨g4, ρ4, R4, okT_mono (okT_bind h4) fun g5 H5 o e5 h5 => ?_⟩⟩
    have e15 : Ext g1 g5 H1 H5 := (((e2.trans (Ext.same sm)).trans e4).trans e5)
    cases o with
    | nx ρ' => exact fun σ' R' => ⟨rfl, hlt, g5, ρ', e15, R', h5⟩
    | ct ρ' => exact fun σ' R' => ⟨rfl, hlt, g5, ρ', e15, R', h5⟩
    | bk ρ' => exact (okT_ret (c0 := gc X ct) (β := β) (Ex := Ex) (Q := endOk (gc X ct) β D) h5 : endOk (gc X ct) β D g5 H5 (.nx ρ'))
    | rt t => exact (okT_ret (c0 := gc X ct) (β := β) (Ex := Ex) (Q := endOk (gc X ct) β D) h5 : endOk (gc X ct) β D g5 H5 (.rt t))
  · have e : i = xs.length := by omega
    subst e
    rw [List.drop_length] at h2
    exact .inl ⟨wk.stop _ _ _ (fun _ _ => e2.rep) (Nat.le_refl _), okT_ret h2 σ2 R2⟩
def whileL (c : SemB) (body : SSem) : Nat → Env' → T Out
  | 0, _ => .bad
  | n + 1, ρ => (c ρ).bind fun p => if p.1 then (body p.2).bind fun
      | .nx ρ' => whileL c body n ρ'
      | .ct ρ' => whileL c body n ρ'
      | .bk ρ' => .ret (.nx ρ')
      | .rt t => .ret (.rt t)
    else .ret (.nx p.2)
end
end Dn
set_option Elab.async false
set_option linter.all false
set_option maxRecDepth 100000
namespace Dn
open PySem PySem.Spec PyProof.Rows L2
def G.plus (g : G) (a : Addr) : G := { g with M := fun b => g.M b ∨ b = a }
theorem plus_av {g : G} {a b : Addr} : (g.plus a).Av b ↔ g.Av b ∨ b = a := by
  unfold G.Av G.plus
  constructor
  · rintro ((h | h) | h | h)
    · exact .inl (.inl h)
    · exact .inr h
    · exact .inl (.inr (.inl h))
    · exact .inl (.inr (.inr h))
  · rintro ((h | h | h) | h)
    · exact .inl (.inl h)
    · exact .inr (.inl h)
    · exact .inr (.inr h)
    · exact .inl (.inr h)
section
variable {c0 : Gc} {β : BInv} {g : G} {H : Hp} {ρ : Env'} {σ : L2.St} {a : Addr}
theorem plus_reps {t : List AV} {v : List V} (h : RepsG c0 (g.plus a) H t v) : RepsG c0 g H t v := h.imp (fun b o q na => ⟨q, fun z => na (plus_av.mpr (.inl z))⟩) fun _ h => h
theorem rep_plus {t : AV} {v : V} {H' : Hp} (h : RepG c0 g H t v) (s : Same H H') (hn : H a = none) : RepG c0 (g.plus a) H' t v := h.imp (fun b o q na => ⟨s b o q, fun z => (plus_av.mp z).elim na fun e => by rw [e, hn] at q; cases q⟩) fun _ h => h
theorem reps_plus {t : List AV} {v : List V} {H' : Hp} (h : RepsG c0 g H t v) (s : Same H H') (hn : H a = none) : RepsG c0 (g.plus a) H' t v := h.imp (fun b o q na => ⟨s b o q, fun z => (plus_av.mp z).elim na fun e => by rw [e, hn] at q; cases q⟩) fun _ h => h
theorem slot_weak {g g' : G} {o : Option Addr} {sv : Option (Option V)} {s : Slot} (hav : ∀ b, g'.Av b → g.Av b) (hd : g'.D = g.D) (hS : g'.S = g.S) (q : slotOk c0 g H o sv s) : slotOk c0 g' H o sv s := by
  have hi : ∀ (b : Addr) (o : HO), H b = some o → ¬ g.Av b → H b = some o ∧ ¬ g'.Av b := fun b o q na => ⟨q, fun z => na (hav b z)⟩
  have hd' : ∀ b, g.D b → g'.D b := fun b h => by rw [hd]; exact h
  cases s with
  | un => exact q
  | fro t => obtain ⟨a, v, b, c⟩ := q; exact ⟨a, v, b, Rep.imp hi hd' c⟩
  | ml xs => obtain ⟨p, vs, e1, e2, e3, e4⟩ := q; exact ⟨p, vs, e1, e2, e3, RepL.imp hi hd' e4⟩
  | md kd kvs => obtain ⟨p, ws, e1, e2, e3, e4⟩ := q; exact ⟨p, ws, e1, e2, e3.imp hi hd', e4⟩
  | slf c fs => obtain ⟨p, C, dx, vs, e1, e2, e3, e4, e5, e6, e7⟩ := q; exact ⟨p, C, dx, vs, e1, e2, e3, e4, e5, RepL.imp hi hd' e6, hS.trans e7⟩
theorem Rel.minus (R : Rel c0 β (g.plus a) ρ σ H) : Rel c0 β g ρ σ H where
  len := R.len
  sl := fun i s hs => slot_weak (fun b h => plus_av.mpr (.inl h)) rfl rfl (R.sl i s hs)
  out := R.out
  inj := R.inj
  alive := fun b h => R.alive b (.inl h)
  nt := fun b h => R.nt b (.inl h)
  sep := fun i b h => ⟨fun z => (R.sep i b h).1 (.inl z), (R.sep i b h).2⟩
  mb := fun b h => R.mb b (.inl h)
  box := R.box
theorem Rel.plus {H' : Hp} (R : Rel c0 β g ρ σ H) (s : Same H H') (hn : H a = none) (hl : H' a ≠ none) (ht : ∀ ws, H' a ≠ some (.tup ws) := by intro ws; rw [upd_same]; exact fun z => by cases z) : Rel c0 β (g.plus a) ρ σ H' where
  len := R.len
  sl := fun i sl hs => by
    have q := R.sl i sl hs
    have hi : ∀ (b : Addr) (o : HO), H b = some o → ¬ g.Av b → H' b = some o ∧ ¬ (g.plus a).Av b := fun b o q na => ⟨s b o q, fun z => (plus_av.mp z).elim na fun e => by rw [e, hn] at q; cases q⟩
    cases sl with
    | un => exact q
    | fro t => obtain ⟨a, v, b, c⟩ := q; exact ⟨a, v, b, Rep.imp hi (fun _ h => h) c⟩
    | ml xs => obtain ⟨p, vs, e1, e2, e3, e4⟩ := q; exact ⟨p, vs, e1, e2, s _ _ e3, RepL.imp hi (fun _ h => h) e4⟩
    | md kd kvs =>
      obtain ⟨p, ws, e1, e2, e3, e4⟩ := q
      refine ⟨p, ws, e1, e2, e3.imp hi fun _ h => h, ?_⟩
      rcases e4 with ⟨us, e4, e5⟩ | ⟨us, e4, e5⟩
      · exact .inl ⟨us, s _ _ e4, e5⟩
      · exact .inr ⟨us, s _ _ e4, e5⟩
    | slf c fs => obtain ⟨p, C, dx, vs, e1, e2, e3, e4, e5, e6, e7⟩ := q; exact ⟨p, C, dx, vs, e1, e2, e3, s _ _ e4, e5, RepL.imp hi (fun _ h => h) e6, e7⟩
  out := R.out
  inj := R.inj
  alive := fun b h => by
    rcases h with h | h
    · cases q : H b with
      | none => exact absurd q (R.alive b h)
      | some o => rw [s b o q]; exact fun z => by cases z
    · rw [h]; exact hl
  nt := fun b h vs z => by
    rcases h with h | h
    · cases q : H b with
      | none => exact R.alive b h q
      | some o => rw [s b o q] at z; cases z; exact R.nt b h vs q
    · rw [h] at z; exact ht vs z
  sep := fun i b h => ⟨fun z => z.elim (R.sep i b h).1 fun e => R.ownLive h (e ▸ hn), (R.sep i b h).2⟩
  mb := fun b h hb => h.elim (fun z => R.mb b z hb) fun e => β.live R.box hb (e ▸ hn)
  box := β.frame R.box fun b h => by
    cases q : H b with
    | none => exact absurd q (β.live R.box h)
    | some o => exact s b o q
def G.setM (g : G) (M : Addr → Prop) : G := { g with M := M }
def G.own1 (g : G) (j : Nat) (a : Addr) : G := { g with own := fun i => if i = j then some a else g.own i }
theorem own1_same {j : Nat} : (g.own1 j a).own j = some a := by simp [G.own1]
theorem own1_ne {i j : Nat} (h : i ≠ j) : (g.own1 j a).own i = g.own i := by simp [G.own1, h]
theorem own1_av {j : Nat} {b : Addr} (h : (g.own1 j a).Av b) : (g.plus a).Av b := by
  refine plus_av.mpr ?_
  rcases h with h | ⟨i, h⟩ | h
  · exact .inl (.inl h)
  · by_cases hi : i = j
    · subst hi; rw [own1_same] at h; cases h; exact .inr rfl
    · rw [own1_ne hi] at h; exact .inl (.inr (.inl ⟨i, h⟩))
  · exact .inl (.inr (.inr h))
theorem Rel.take {j : Nat} {xs : List AV} {vs : List V} (R : Rel c0 β (g.plus a) ρ σ H) (hj : j < ρ.length) (ho : H a = some (.lst vs)) (na : ¬ g.Av a) (r : RepsG c0 (g.plus a) H xs vs) : Rel c0 β (g.own1 j a) (ρ.set j (.ml xs)) (σ.set j (some (.ref a))) H where
  len := by rw [List.length_set, List.length_set]; exact R.len
  sl := fun i s hs => by
    by_cases hi : i = j
    · subst hi
      rw [List.getElem?_set_self hj] at hs
      cases hs
      rw [own1_same, List.getElem?_set_self (by rw [R.len]; exact hj)]
      exact ⟨a, vs, rfl, rfl, ho, r.imp (fun b o q nb => ⟨q, fun z => nb (own1_av z)⟩) fun _ h => h⟩
    · rw [List.getElem?_set_ne (Ne.symm hi)] at hs
      rw [own1_ne hi, List.getElem?_set_ne (Ne.symm hi)]
      exact slot_weak (fun b h => own1_av h) rfl rfl (R.sl i s hs)
  out := fun i hi => by
    rw [List.length_set] at hi
    rw [own1_ne (by omega)]
    exact R.out i hi
  inj := fun i k b h1 h2 => by
    have nobody : ∀ i, (g.plus a).own i ≠ some a := fun i h => na (.inr (.inl ⟨i, h⟩))
    by_cases hi : i = j
    · by_cases hk : k = j
      · rw [hi, hk]
      · subst hi
        rw [own1_same] at h1
        cases h1
        rw [own1_ne hk] at h2
        exact absurd h2 (nobody k)
    · by_cases hk : k = j
      · subst hk
        rw [own1_same] at h2
        cases h2
        rw [own1_ne hi] at h1
        exact absurd h1 (nobody i)
      · rw [own1_ne hi] at h1
        rw [own1_ne hk] at h2
        exact R.inj i k b h1 h2
  alive := fun b h => R.alive b (.inl h)
  nt := fun b h => R.nt b (.inl h)
  sep := fun i b h => by
    by_cases hi : i = j
    · subst hi
      rw [own1_same] at h
      cases h
      exact ⟨fun z => na (.inl z), fun z => na (.inr (.inr z))⟩
    · rw [own1_ne hi] at h
      exact ⟨fun z => (R.sep i b h).1 (.inl z), (R.sep i b h).2⟩
  mb := fun b h => R.mb b (.inl h)
  box := R.box
theorem ext_own1 {g' : G} {j : Nat} {H' : Hp} (e : Ext g g' H H') (hn : H a = none) : Ext g (g'.own1 j a) H H' where
  keep := e.keep
  live := e.live
  m := e.m
  bsub := e.bsub
  bnew := e.bnew
  dsub := e.dsub
  own := fun i b h => by
    by_cases hi : i = j
    · subst hi; rw [own1_same] at h; cases h; exact .inr hn
    · rw [own1_ne hi] at h; exact e.own i b h
  s := e.s
end
abbrev SemN := Env' → T (List AV × Env')
def newOk (c0 : Gc) (β : BInv) (Ex : XK) (g : G) (σ : L2.St) (H : Hp) (m : T (List AV × Env')) (Q : VK) : Prop :=
  okT c0 β Ex g H m fun g' H' p => ∀ a vs, H a = none → ¬ g'.Av a → H' a = some (.lst vs) → Rel c0 β (g'.plus a) p.2 σ H' → RepsG c0 (g'.plus a) H' p.1 vs → Q (.ref a) H'
def rdN (c0 : Gc) (β : BInv) (Ex : XK) (f : SemN) : TE := fun σ H Q => ∃ g ρ, Rel c0 β g ρ σ H ∧ newOk c0 β Ex g σ H (f ρ) Q
def JN (X : Cx) (ct : CT) (β : BInv) (Ex : XK) (e : Expr) (f : SemN) : Prop := PE X e (rdN (gc X ct) β Ex f)
def fNew (f : SemN) : Sem := fun ρ => (f ρ).bind fun p => .ret (.val (.lst p.1), p.2)
def sSetN (i : Nat) (f : SemN) : SSem := fun ρ => (f ρ).bind fun p => .ret (.nx (p.2.set i (.ml p.1)))
theorem okT_bind0 {c0 : Gc} {β : BInv} {Ex : XK} {α γ : Type} {g : G} {H : Hp} {m : T α} {k : α → T γ} {Q : G → Hp → γ → Prop} (h : okT c0 β Ex g H (m.bind k) Q) {R : G → Hp → α → Prop} (hR : ∀ a, okT c0 β Ex g H (k a) Q → ∀ g' H', Ext g g' H H' → R g' H' a) : okT c0 β Ex g H m R :=
  T.all_mono (T.all_bind.mp h) (fun a q => hR a q) fun _ _ q => q
section
variable {X : Cx} {ct : CT} {β : BInv} {Ex : XK} {e a b : Expr} {es : List Expr} {f : SemN} {fe k : Sem} {m : SemL} {pos p : Pos} {x : Str} {i : Nat}
theorem j_new (h : JN X ct β Ex e f) : JE X ct β Ex e (fNew f) := by
  refine PE.imp h fun σ H Q h => ?_
  obtain ⟨g, ρ, R, h⟩ := h
  refine ⟨g, ρ, R, okT_mono (okT_bind h) fun g' H' p e q a vs hn na ho R' r => ?_⟩
  exact okT_ret q _ R'.minus (show RepG (gc X ct) g' H' (.lst p.1) (.ref a) from rep_lst_new na ho (plus_reps r))
theorem js_setN (i : Nat) (ha : JN X ct β Ex a f) (hN : X.N.Nodup) (hi : X.N[i]? = some x := by rfl) (hx : Loc X.env.scope x := by first | exact Or.inl rfl | exact Or.inr rfl) (hs : swapsWith a (some (.Name x p)) pos.line X.env = pure false := by rfl)
    (hf : X.fn x = true ∨ X.env.scope.names.lookup x = some .local := by first | exact .inl rfl | exact .inr rfl) : JS X ct β Ex (.Assign [.Name x p] a pos) (sSetN i f) := by
  refine PS.imp (ps_set hN hi hx ha hs hf) fun D σ H h => ?_
  obtain ⟨g, ρ, R, h⟩ := h
  refine ⟨g, ρ, R, okT_bind0 h fun p q g' H' e a vs hn na ho R' r => ?_⟩
  show D.nx (σ.set i (some (.ref a))) H'
  by_cases hj : i < p.2.length
  · exact okT_ret' q (ext_own1 e hn) _ (R'.take hj ho na r)
  · have q2 := okT_ret' q e
    rw [set_ge hj] at q2
    have : σ.set i (some (V.ref a)) = σ := List.set_eq_of_length_le (by rw [R'.len]; omega)
    rw [this]
    exact q2 σ R'.minus
def nLst (k : SemL) : SemN := fun ρ => (k ρ).bind fun p => if p.1.length ≤ big then .ret (p.1, p.2) else .bad
theorem jn_lst (h : JL X ct β Ex es m) : JN X ct β Ex (.List es pos) (nLst m) := by
  refine PE.imp (pe_lst h) fun σ H Q h => ?_
  obtain ⟨g, ρ, R, h⟩ := h
  refine ⟨g, ρ, R, okT_bind0 h fun p q g1 H1 e vs R1 rx => ?_⟩
  by_cases hl : p.1.length ≤ big
  · rw [if_pos hl] at q
    refine ⟨by rw [rx.length]; exact Nat.le_trans hl big_line, fun l hl => ?_⟩
    have s := same_upd (o := .lst vs) hl
    have hn : H l = none := none_back e hl
    exact okT_ret' q (e.trans (Ext.same s)) l vs hn (R1.freshAv hl) upd_same (R1.plus s hl (by rw [upd_same]; exact fun z => by cases z)) (reps_plus rx s hl)
  · rw [if_neg hl] at q
    exact (show False from q).elim
def nList (f : Sem) : SemN := fun ρ => (f ρ).bind fun p => (lift (rs p.1 p.2)).bind fun a => (lift (seqOf a)).bind fun xs => .ret (xs, p.2)
theorem seq_sq {c0 : Gc} {g : G} {H : Hp} {t : AV} {v : V} {xs : List AV} (h : RepR c0 g H t v) (e : seqOf t = some xs) : ∃ a vs, v = .ref a ∧ (SqL c0.K H a vs ∨ SqT c0.K H a vs) ∧ RepsG c0 g H xs vs := by
  cases t with
  | tup ys =>
    cases e
    obtain ⟨a, vs, rfl, q, r⟩ := h.tup
    exact ⟨a, vs, rfl, .inr q, r⟩
  | lst ys =>
    cases e
    obtain ⟨a, vs, rfl, q, r⟩ := h.lst
    exact ⟨a, vs, rfl, .inl q, r⟩
  | _ => cases e
end
section
variable {c0 : Gc} {β : BInv} {g : G} {H : Hp} {ρ : Env'} {σ : L2.St}
theorem Rel.ml {j : Nat} {xs : List AV} (R : Rel c0 β g ρ σ H) (h : ρ[j]? = some (.ml xs)) : ∃ p vs, g.own j = some p ∧ σ[j]? = some (some (.ref p)) ∧ H p = some (.lst vs) ∧ RepsG c0 g H xs vs := R.sl j _ h
theorem ext_upd {j : Nat} {p : Addr} {o : HO} (ho : g.own j = some p) : Ext g g H (upd H p o) := ⟨fun a ob h hn _ => by rw [upd_ne (fun e => hn j (by rw [e]; exact ho))]; exact h, fun a h => by
  by_cases e : a = p
  · rw [e, upd_same]; exact fun z => by cases z
  · rw [upd_ne e]; exact h, rfl, fun _ h => h, fun _ h => .inl h, fun _ h => h, fun i a h => .inl ⟨i, h⟩, rfl⟩
theorem Rel.upd {j : Nat} {p : Addr} {ys : List AV} {ws : List V} (R : Rel c0 β g ρ σ H) (hj : j < ρ.length) (ho : g.own j = some p) (hσ : σ[j]? = some (some (.ref p))) (r : RepsG c0 g H ys ws) : Rel c0 β g (ρ.set j (.ml ys)) σ (L2.upd H p (.lst ws)) := by
  have e : Ext g g H (L2.upd H p (.lst ws)) := ext_upd ho
  refine R.put e rfl (fun _ _ => rfl) hj (fun _ _ => rfl) (fun i a o hi h1 h2 => ?_) ?_ ?_ fun a h => ?_
  · rw [upd_ne (fun z => hi (R.inj i j a h1 (by rw [z]; exact ho)))]
    exact h2
  · refine β.frame R.box fun a h => ?_
    rw [upd_ne (fun z => (R.sep j p ho).2 (by rw [← z]; exact h))]
  · exact ⟨p, ws, ho, hσ, upd_same, e.reps r⟩
  · rw [ho] at h
    cases h
    exact ⟨(R.sep j p ho).1, (R.sep j p ho).2, fun i hi h => hi (R.inj i j p h ho)⟩
end
def isMl (ρ : Env') (j : Nat) : Option (List AV) := match ρ[j]? with
  | some (.ml xs) => some xs
  | _ => none
theorem isMl_eq {ρ : Env'} {j : Nat} {xs : List AV} (h : isMl ρ j = some xs) : ρ[j]? = some (.ml xs) := by
  unfold isMl at h
  cases e : ρ[j]? with
  | none => rw [e] at h; cases h
  | some s =>
    rw [e] at h
    cases s with
    | ml ys => cases h; rfl
    | _ => cases h
def fAppend (j : Nat) (f : Sem) : Sem := fun ρ => (lift (isMl ρ j)).bind fun _ => (f ρ).bind fun p => (frz p).bind fun q => (lift (isMl q.2 j)).bind fun xs => if xs.length < big then .ret (.val .non, q.2.set j (.ml (xs ++ [q.1]))) else .bad
def lstOf : AV → Option (List AV)
  | .lst xs => some xs
  | _ => none
def fExtend (j : Nat) (f : Sem) : Sem := fun ρ => (lift (isMl ρ j)).bind fun _ => (f ρ).bind fun p => (lift (rs p.1 p.2)).bind fun a => (lift (lstOf a)).bind fun ys => (lift (isMl p.2 j)).bind fun xs => if xs.length + ys.length ≤ big then .ret (.val .non, p.2.set j (.ml (xs ++ ys))) else .bad
def fPopAt (j : Nat) (f : Sem) : Sem := fun ρ => (lift (isMl ρ j)).bind fun _ => (f ρ).bind fun p => (lift (rs p.1 p.2)).bind fun a => (lift (intOf a)).bind fun i => (lift (isMl p.2 j)).bind fun xs => if 0 ≤ i ∧ below i 62 = true then (lift xs[i.toNat]?).bind fun t => .ret (.val t, p.2.set j (.ml (xs.eraseIdx i.toNat))) else .bad
def fPop (j : Nat) : Sem := fun ρ => (lift (isMl ρ j)).bind fun xs => (lift xs[xs.length - 1]?).bind fun t => .ret (.val t, ρ.set j (.ml xs.dropLast))
section
variable {X : Cx} {ct : CT} {β : BInv} {Ex : XK} {a : Expr} {f : Sem} {pos p apos : Pos} {x : Str}
theorem rh_non {c0 : Gc} {g : G} {σ : L2.St} {H : Hp} : RepH c0 g σ H (.val .non) .non := (rep_non : RepG c0 g H .non .non)
theorem rh_val {c0 : Gc} {g : G} {σ : L2.St} {H : Hp} {t : AV} {v : V} (h : RepG c0 g H t v) : RepH c0 g σ H (.val t) v := h
theorem tyV_ml {c0 : Gc} {H : Hp} {p : Addr} {vs : List V} (h : H p = some (.lst vs)) : tyV c0.K "list" (.ref p) H := .inl ⟨rfl, _, .of h⟩
theorem lt_of_ml {ρ : Env'} {j : Nat} {s : Slot} (h : ρ[j]? = some s) : j < ρ.length := (List.getElem?_eq_some_iff.mp h).1
theorem j_append (j : Nat) (ha : JE X ct β Ex a f) (hpe : ∀ te : TE, PE X a te → PE X (.Call (.Attribute (.Name x p) "append" apos) [a] [] pos) (tBM X.K "list" rAppend (tVar j) (tCons te tNil)) := by intro te he; exact pe_bm PySem.F.plainAttrs_list PySem.F.slot_list_append PySem.F.type_list_append mt_append (pv j) (pa_cons he pa_nil)) : JE X ct β Ex (.Call (.Attribute (.Name x p) "append" apos) [a] [] pos) (fAppend j f) := by
  refine PE.imp (hpe _ ha) fun σ H Q h => ?_
  obtain ⟨g, ρ, R, h⟩ := h
  obtain ⟨xs0, e0, h⟩ := okT_lift h
  obtain ⟨q0, vs0, _, hσ, ho0, _⟩ := R.ml (isMl_eq e0)
  refine ⟨.ref q0, hσ, tyV_ml (c0 := gc X ct) ho0, g, ρ, R, okT_mono (okT_bind h) fun g1 H1 q e1 h1 v R1 rv => ?_⟩
  obtain ⟨g2, s, e2, R2, rs, h2⟩ := frz_ok R1 rv h1
  obtain ⟨xs, ex, h3⟩ := okT_lift h2
  have hm := isMl_eq ex
  obtain ⟨q1, vs, hq, hσ1, ho, r⟩ := R2.ml hm
  rw [hσ] at hσ1
  cases hσ1
  by_cases hl : xs.length < big
  · rw [if_pos hl] at h3
    refine ⟨q0, vs, v, rfl, rfl, ho, by rw [r.length]; exact Nat.lt_of_lt_of_le hl big_line, ?_⟩
    exact okT_ret' h3 (ext_upd hq) _ (R2.upd (lt_of_ml hm) hq hσ (r.append (.one rs))) rh_non
  · rw [if_neg hl] at h3
    exact (show False from h3).elim
theorem j_extend (j : Nat) (ha : JE X ct β Ex a f) (hpe : ∀ te : TE, PE X a te → PE X (.Call (.Attribute (.Name x p) "extend" apos) [a] [] pos) (tBM X.K "list" rExtend (tVar j) (tCons te tNil)) := by intro te he; exact pe_bm PySem.F.plainAttrs_list PySem.F.slot_list_extend PySem.F.type_list_extend mt_extend (pv j) (pa_cons he pa_nil)) : JE X ct β Ex (.Call (.Attribute (.Name x p) "extend" apos) [a] [] pos) (fExtend j f) := by
  refine PE.imp (hpe _ ha) fun σ H Q h => ?_
  obtain ⟨g, ρ, R, h⟩ := h
  obtain ⟨xs0, e0, h⟩ := okT_lift h
  obtain ⟨q0, vs0, _, hσ, ho0, _⟩ := R.ml (isMl_eq e0)
  refine ⟨.ref q0, hσ, tyV_ml (c0 := gc X ct) ho0, g, ρ, R, okT_mono (okT_bind h) fun g1 H1 q e1 h1 v R1 rv => ?_⟩
  obtain ⟨u, eu, h2⟩ := okT_lift h1
  obtain ⟨ys, ey, h2⟩ := okT_lift h2
  obtain ⟨xs, ex, h3⟩ := okT_lift h2
  have hm := isMl_eq ex
  obtain ⟨q1, vs, hq, hσ1, ho, r⟩ := R1.ml hm
  rw [hσ] at hσ1
  cases hσ1
  cases u with
  | lst zs =>
    cases ey
    obtain ⟨b, ws, rfl, hb, rb⟩ := (rv.rs R1 eu).lst'
    by_cases hl : xs.length + ys.length ≤ big
    · rw [if_pos hl] at h3
      refine ⟨q0, b, vs, ws, rfl, rfl, ho, hb, by rw [r.length, rb.length]; exact Nat.le_trans hl big_line, ?_⟩
      exact okT_ret' h3 (ext_upd hq) _ (R1.upd (lt_of_ml hm) hq hσ (r.append rb)) rh_non
    · rw [if_neg hl] at h3
      exact (show False from h3).elim
  | _ => cases ey
end
end Dn
set_option Elab.async false
set_option linter.all false
set_option maxRecDepth 100000
namespace Dn
open PySem PySem.Spec PyProof.Rows L2
def noExc {α : Type} : T α → T α
  | .ret a => .ret a
  | .bad => .bad
  | .exc _ _ => .bad
  | .draw n k => .draw n fun r => noExc (k r)
def wipeE (ρ : Env') : List Nat → Env'
  | [] => ρ
  | v :: vs => (wipeE ρ vs).set v .un
def froOf : Option Slot → Slot
  | some (.fro t) => .fro t
  | _ => .un
def backE (ρ0 ρ : Env') : List Nat → Env'
  | [] => ρ
  | v :: vs => (backE ρ0 ρ vs).set v (froOf ρ0[v]?)
def lcL (vs : List Nat) (k : GSem) (tt : SemB) (el : Sem) : List AV → List AV → Env' → T (List AV × Env')
  | [], acc, ρ => .ret (acc, ρ)
  | x :: xs, acc, ρ => (noExc ((k x (wipeE ρ vs)).bind fun ρ1 => (tt ρ1).bind fun p => if p.1 then (el p.2).bind fun q => (frz q).bind fun s => .ret (acc ++ [s.1], s.2) else .ret (acc, p.2))).bind fun r => lcL vs k tt el xs r.1 r.2
def nLc (vs : List Nat) (it : SemI) (k : GSem) (tt : SemB) (el : Sem) : SemN := fun ρ => (it ρ).bind fun p => if p.1.length < big then (lcL vs k tt el p.1 [] p.2).bind fun r => .ret (r.1, backE p.2 r.2 vs) else .bad
theorem wipe_get {σ : L2.St} : ∀ {vs : List Nat} {i : Nat}, i ∉ vs → (wipe σ vs)[i]? = σ[i]?
  | [], _, _ => rfl
  | v :: vs, i, h => by
    unfold wipe
    rw [List.getElem?_set_ne (fun e => h (by simp [e]))]
    exact wipe_get fun z => h (List.mem_cons_of_mem _ z)
theorem wipe_none {σ : L2.St} : ∀ {vs : List Nat} {i : Nat}, i ∈ vs → i < σ.length → (wipe σ vs)[i]? = some none
  | [], _, h, _ => by simp at h
  | v :: vs, i, h, hl => by
    unfold wipe
    by_cases e : v = i
    · subst e
      rw [List.getElem?_set_self (by rw [wipe_length]; exact hl)]
    · rw [List.getElem?_set_ne e]
      exact wipe_none ((List.mem_cons.mp h).resolve_left fun z => e z.symm) hl
theorem wipe_agree {σ σ' : L2.St} {is vs : List Nat} (h : Agree is σ σ') (hs : ∀ i ∈ is, i ∈ vs) : wipe σ' vs = wipe σ vs := by
  refine List.ext_getElem? fun i => ?_
  by_cases hi : i ∈ vs
  · by_cases hl : i < σ.length
    · rw [wipe_none hi hl, wipe_none hi (by rw [h.1]; exact hl)]
    · rw [List.getElem?_eq_none (by rw [wipe_length, h.1]; omega), List.getElem?_eq_none (by rw [wipe_length]; omega)]
  · rw [wipe_get hi, wipe_get hi, h.2 i fun z => hi (hs i z)]
theorem wipe_wipe {σ : L2.St} {vs : List Nat} : wipe (wipe σ vs) vs = wipe σ vs :=
  wipe_agree (is := vs) ⟨wipe_length σ vs, fun i h => wipe_get h⟩ fun _ h => h
section
variable {c0 : Gc} {β : BInv} {g : G} {H : Hp} {ρ : Env'} {σ : L2.St}
theorem Rel.drop1 {j : Nat} {σ' : L2.St} (R : Rel c0 β g ρ σ H) (hl : σ'.length = σ.length) (hs : ∀ i, i ≠ j → σ'[i]? = σ[i]?) : Rel c0 β (g.no j) (ρ.set j .un) σ' H := by
  by_cases hj : j < ρ.length
  · refine R.put (ext_no g j H) hl hs hj (fun i hi => own_no_ne hi) (fun _ _ _ _ _ h => h) R.box ?_ fun a h => by rw [own_no] at h; cases h
    rw [own_no]
    rfl
  · have e1 : ρ.set j .un = ρ := set_ge hj
    have e2 : g.no j = g := by
      unfold G.no
      cases g
      congr 1
      funext i
      by_cases h : i = j
      · subst h
        rw [if_pos rfl]
        exact (R.out i (by omega)).symm
      · rw [if_neg h]
    have e3 : σ' = σ := by
      refine List.ext_getElem? fun i => ?_
      by_cases h : i = j
      · subst h
        rw [List.getElem?_eq_none (by rw [hl, R.len]; omega), List.getElem?_eq_none (by rw [R.len]; omega)]
      · exact hs i h
    rw [e1, e2, e3]
    exact R
def G.nos (g : G) : List Nat → G
  | [] => g
  | v :: vs => (g.nos vs).no v
theorem ext_nos (g : G) (H : Hp) : ∀ vs : List Nat, Ext g (g.nos vs) H H
  | [] => .refl g H
  | v :: vs => (ext_nos g H vs).trans (ext_no _ v H)
theorem Rel.wipe (R : Rel c0 β g ρ σ H) : ∀ vs : List Nat, Rel c0 β (g.nos vs) (wipeE ρ vs) (L2.wipe σ vs) H
  | [] => R
  | v :: vs => by
    unfold wipeE L2.wipe
    exact (R.wipe vs).drop1 (List.length_set ..) fun i hi => List.getElem?_set_ne (Ne.symm hi)
theorem Rel.slotFro {j : Nat} (R : Rel c0 β g ρ σ H) : slotOk c0 g H none σ[j]? (froOf ρ[j]?) := by
  cases h : ρ[j]? with
  | none => rfl
  | some s =>
    have q := R.sl j s h
    cases s with
    | fro t => exact ⟨rfl, q.2⟩
    | un => rfl
    | ml xs => rfl
    | md kd kvs => rfl
    | slf c fs => rfl
theorem Rel.back {g' : G} {H' : Hp} {ρ' : Env'} (R : Rel c0 β g ρ σ H) (e : Ext g g' H H') : ∀ (vs : List Nat) (σ' : L2.St), Rel c0 β g' ρ' σ' H' → σ'.length = σ.length → Rel c0 β (g'.nos vs) (backE ρ ρ' vs) (vs.foldr (fun v s => s.set v ((σ[v]?).getD none)) σ') H'
  | [], σ', R', _ => R'
  | v :: vs, σ', R', hl => by
    have ih := R.back e vs σ' R' hl
    have hl2 : (vs.foldr (fun v s => s.set v ((σ[v]?).getD none)) σ').length = σ.length := by
      clear ih
      induction vs with
      | nil => exact hl
      | cons w ws ih2 => rw [List.foldr_cons, List.length_set]; exact ih2
    show Rel c0 β ((g'.nos vs).no v) ((backE ρ ρ' vs).set v (froOf ρ[v]?)) ((vs.foldr (fun v s => s.set v ((σ[v]?).getD none)) σ').set v ((σ[v]?).getD none)) H'
    by_cases hv : v < (backE ρ ρ' vs).length
    · refine ih.put (ext_no _ v H') (List.length_set ..) (fun i hi => List.getElem?_set_ne (Ne.symm hi)) hv (fun i hi => own_no_ne hi) (fun _ _ _ _ _ h => h) ih.box ?_ fun a h => by rw [own_no] at h; cases h
      rw [own_no]
      have hvσ : v < σ.length := by rw [← hl2, ih.len]; exact hv
      rw [List.getElem?_set_self (by rw [hl2]; exact hvσ)]
      have q := R.slotFro (j := v)
      rw [List.getElem?_eq_getElem hvσ] at q ⊢
      exact slotOk_ext ((e.trans (ext_nos g' H' vs)).trans (ext_no _ v H')) (fun a o h _ => by cases h) q
    · have e1 : (backE ρ ρ' vs).set v (froOf ρ[v]?) = backE ρ ρ' vs := set_ge hv
      have e2 : (vs.foldr (fun v s => s.set v ((σ[v]?).getD none)) σ').set v ((σ[v]?).getD none) = vs.foldr (fun v s => s.set v ((σ[v]?).getD none)) σ' := List.set_eq_of_length_le (by rw [ih.len]; omega)
      have e3 : (g'.nos vs).no v = g'.nos vs := by
        unfold G.no
        generalize hg : g'.nos vs = gg
        rw [hg] at ih
        cases gg
        congr 1
        funext i
        by_cases h : i = v
        · subst h
          rw [if_pos rfl]
          exact (ih.out i (by omega)).symm
        · rw [if_neg h]
      rw [e1, e2, e3]
      exact ih
theorem restore_eq {σ : L2.St} : ∀ vs : List Nat, vs.foldr (fun v s => s.set v ((σ[v]?).getD none)) (L2.wipe σ vs) = σ := by
  intro vs
  refine List.ext_getElem? fun i => ?_
  have key : ∀ (ws : List Nat) (τ : L2.St), τ.length = σ.length → (∀ (i : Nat), i ∉ ws → τ[i]? = σ[i]?) → ∀ (i : Nat), (ws.foldr (fun v s => s.set v ((σ[v]?).getD none)) τ)[i]? = σ[i]? ∧ (ws.foldr (fun v s => s.set v ((σ[v]?).getD none)) τ).length = σ.length := by
    intro ws
    induction ws with
    | nil => intro τ hl h i; exact ⟨h i (by simp), hl⟩
    | cons w ws ih =>
      intro τ hl h i
      have lenA : ∀ (us : List Nat), (us.foldr (fun v s => s.set v ((σ[v]?).getD none)) τ).length = σ.length := by
        intro us
        induction us with
        | nil => exact hl
        | cons u us ih2 => rw [List.foldr_cons, List.length_set]; exact ih2
      have gen : ∀ (us : List Nat) (i : Nat), i ∈ us ∨ i ∉ us → (us.foldr (fun v s => s.set v ((σ[v]?).getD none)) τ)[i]? = if i ∈ us then σ[i]? else τ[i]? := by
        intro us
        induction us with
        | nil => intro i _; simp
        | cons u us ih2 =>
          intro i _
          rw [List.foldr_cons]
          by_cases hu : u = i
          · subst hu
            rw [if_pos (by simp)]
            by_cases hlt : u < σ.length
            · rw [List.getElem?_set_self (by rw [lenA]; exact hlt), List.getElem?_eq_getElem hlt]
              rfl
            · rw [List.getElem?_eq_none (by rw [List.length_set, lenA]; omega), List.getElem?_eq_none (by omega)]
          · rw [List.getElem?_set_ne hu, ih2 i (Classical.em _)]
            by_cases hm : i ∈ us
            · rw [if_pos hm, if_pos (List.mem_cons_of_mem _ hm)]
            · rw [if_neg hm, if_neg (fun z => (List.mem_cons.mp z).elim (fun e => hu e.symm) hm)]
      refine ⟨?_, lenA _⟩
      rw [gen _ i (Classical.em _)]
      by_cases hm : i ∈ w :: ws
      · rw [if_pos hm]
      · rw [if_neg hm]
        exact h i hm
  exact (key vs (L2.wipe σ vs) (wipe_length σ vs) (fun i h => wipe_get h) i).1
theorem nos_av {g : G} {a : Addr} : ∀ {vs : List Nat}, (g.nos vs).Av a → g.Av a
  | [], h => h
  | v :: vs, h => by
    refine nos_av (vs := vs) ?_
    rcases h with h | ⟨i, h⟩ | h
    · exact .inl h
    · unfold G.nos G.no at h
      simp only at h
      split at h
      · cases h
      · exact .inr (.inl ⟨i, h⟩)
    · exact .inr (.inr h)
theorem nos_M {g : G} : ∀ vs : List Nat, (g.nos vs).M = g.M
  | [] => rfl
  | v :: vs => by unfold G.nos G.no; exact nos_M vs
end
section
variable {c0 : Gc} {β : BInv} {g g' : G} {H H' : Hp} {ρ : Env'} {σ : L2.St} {D : Addr}
theorem rep_updD {o : HO} {t : AV} {v : V} (hM : g.M D) (h : RepG c0 g (upd H D o) t v) : RepG c0 g H t v := h.imp (fun a ob q na => ⟨by
  by_cases e : a = D
  · subst e; exact absurd (.inl hM) na
  · rw [upd_ne e] at q; exact q, na⟩) fun _ h => h
theorem upd_av {o : HO} (hM : g.M D) : ∀ (a : Addr) (ob : HO), H a = some ob → ¬ g.Av a → upd H D o a = some ob ∧ ¬ g.Av a := fun a ob q na => ⟨by
  by_cases e : a = D
  · subst e; exact absurd (.inl hM) na
  · rw [upd_ne e]; exact q, na⟩
theorem rep_updL {o : HO} {t : List AV} {v : List V} (hM : g.M D) (h : RepsG c0 g H t v) : RepsG c0 g (upd H D o) t v := h.imp (upd_av hM) fun _ h => h
theorem Rel.updM {o : HO} (R : Rel c0 β g ρ σ H) (hM : g.M D) (ht : ∀ ws, o ≠ .tup ws := by exact fun _ z => by cases z) : Rel c0 β g ρ σ (L2.upd H D o) where
  len := R.len
  sl := fun i s hs => by
    have q := R.sl i s hs
    have hi := upd_av (H := H) (o := o) hM
    have hp : ∀ (p : Addr) (ob : HO), g.own i = some p → H p = some ob → L2.upd H D o p = some ob := fun p ob h1 h2 => by
      rw [upd_ne (fun e => (R.sep i p h1).1 (by rw [e]; exact hM))]; exact h2
    cases s with
    | un => exact q
    | fro t => obtain ⟨a, v, b, c⟩ := q; exact ⟨a, v, b, Rep.imp hi (fun _ h => h) c⟩
    | ml xs => obtain ⟨p, vs, e1, e2, e3, e4⟩ := q; exact ⟨p, vs, e1, e2, hp p _ e1 e3, RepL.imp hi (fun _ h => h) e4⟩
    | md kd kvs =>
      obtain ⟨p, ws, e1, e2, e3, e4⟩ := q
      refine ⟨p, ws, e1, e2, e3.imp hi fun _ h => h, ?_⟩
      rcases e4 with ⟨us, e4, e5⟩ | ⟨us, e4, e5⟩
      · exact .inl ⟨us, hp p _ e1 e4, e5⟩
      · exact .inr ⟨us, hp p _ e1 e4, e5⟩
    | slf c fs => obtain ⟨p, C, dx, vs, e1, e2, e3, e4, e5, e6, e7⟩ := q; exact ⟨p, C, dx, vs, e1, e2, e3, hp p _ e1 e4, e5, RepL.imp hi (fun _ h => h) e6, e7⟩
  out := R.out
  inj := R.inj
  alive := fun b h => by
    by_cases e : b = D
    · rw [e, upd_same]; exact fun z => by cases z
    · rw [upd_ne e]; exact R.alive b h
  nt := fun b h vs z => by
    by_cases e : b = D
    · rw [e, upd_same] at z; cases z; exact ht vs rfl
    · rw [upd_ne e] at z; exact R.nt b h vs z
  sep := R.sep
  mb := R.mb
  box := β.frame R.box fun b h => by rw [upd_ne (fun e => R.mb D hM (by rw [← e]; exact h))]
theorem ext_updB {o : HO} (e : Ext g g' H H') (hD : H D ≠ none) : Ext g g' (upd H D o) (upd H' D o) where
  keep := fun a ob h h1 h2 => by
    by_cases ea : a = D
    · rw [ea, upd_same] at h ⊢; exact h
    · rw [upd_ne ea] at h ⊢; exact e.keep a ob h h1 h2
  live := fun a h => by
    by_cases ea : a = D
    · rw [ea, upd_same]; exact fun z => by cases z
    · rw [upd_ne ea] at h ⊢; exact e.live a h
  m := e.m
  bsub := e.bsub
  bnew := fun a h => (e.bnew a h).imp id fun z => by rw [upd_ne (fun ea => hD (by rw [← ea]; exact z))]; exact z
  dsub := e.dsub
  own := fun i a h => (e.own i a h).imp id fun z => by rw [upd_ne (fun ea => hD (by rw [← ea]; exact z))]; exact z
  s := e.s
theorem ext_of_plusD {H1 : Hp} (e : Ext (g.plus D) g' (upd H1 D (.lst [])) (upd H' D (.lst []))) (hl : H' D ≠ none) (nD : H1 D = none) : Ext g (g'.setM g.M) H1 H' where
  keep := fun a o h h1 h2 => by
    have ne : a ≠ D := fun ea => by rw [ea, nD] at h; cases h
    have q := e.keep a o (by rw [upd_ne ne]; exact h) h1 h2
    rw [upd_ne ne] at q
    exact q
  live := fun a h => by
    by_cases ea : a = D
    · rw [ea]; exact hl
    · have q := e.live a (by rw [upd_ne ea]; exact h)
      rw [upd_ne ea] at q
      exact q
  m := rfl
  bsub := e.bsub
  bnew := fun a h => (e.bnew a h).imp id fun z => by
    by_cases ea : a = D
    · rw [ea]; exact nD
    · rw [upd_ne ea] at z; exact z
  dsub := e.dsub
  own := fun i a h => (e.own i a h).imp id fun z => by
    by_cases ea : a = D
    · rw [ea]; exact nD
    · rw [upd_ne ea] at z; exact z
  s := e.s
theorem nos_plus {H1 : Hp} (e : g'.M = (g.plus D).M) (vs : List Nat) : ((g'.setM g.M).nos vs).plus D = g'.nos vs := by
  have h1 : ∀ vs : List Nat, ((g'.setM g.M).nos vs).own = (g'.nos vs).own ∧ ((g'.setM g.M).nos vs).B = (g'.nos vs).B ∧ ((g'.setM g.M).nos vs).D = (g'.nos vs).D ∧ ((g'.setM g.M).nos vs).S = (g'.nos vs).S := by
    intro vs
    induction vs with
    | nil => exact ⟨rfl, rfl, rfl, rfl⟩
    | cons v vs ih =>
      unfold G.nos G.no
      exact ⟨by simp only [ih.1], ih.2.1, ih.2.2.1, ih.2.2.2⟩
  obtain ⟨h1, h2, h3, h6⟩ := h1 vs
  have h4 : ((g'.setM g.M).nos vs).M = g.M := nos_M vs
  have h5 : (g'.nos vs).M = (g.plus D).M := (nos_M vs).trans e
  generalize (g'.setM g.M).nos vs = x at *
  generalize g'.nos vs = y at *
  cases x
  cases y
  simp only at h1 h2 h3 h4 h5 h6
  subst h1 h2 h3 h4 h5 h6
  rfl
theorem backE_set {ρ0 : Env'} : ∀ (vs : List Nat) (ρ : Env') (w : Nat) (s : Slot), w ∈ vs → backE ρ0 (ρ.set w s) vs = backE ρ0 ρ vs
  | [], _, _, _, h => by simp at h
  | v :: vs, ρ, w, s, h => by
    unfold backE
    by_cases hw : w ∈ vs
    · rw [backE_set vs ρ w s hw]
    · have e : w = v := (List.mem_cons.mp h).resolve_right hw
      subst e
      have out : ∀ (us : List Nat) (ρ : Env'), w ∉ us → backE ρ0 (ρ.set w s) us = (backE ρ0 ρ us).set w s := by
        intro us
        induction us with
        | nil => intro ρ _; rfl
        | cons u us ih =>
          intro ρ hu
          unfold backE
          rw [ih ρ fun z => hu (List.mem_cons_of_mem _ z), List.set_comm _ _ (fun e => hu (by simp [e]))]
      rw [out vs ρ hw, List.set_set]
theorem backE_wipe {ρ0 : Env'} (vs : List Nat) (ρ : Env') : backE ρ0 (wipeE ρ vs) vs = backE ρ0 ρ vs := by
  have gen : ∀ us : List Nat, (∀ u ∈ us, u ∈ vs) → backE ρ0 (wipeE ρ us) vs = backE ρ0 ρ vs := by
    intro us
    induction us with
    | nil => intro _; rfl
    | cons u us ih =>
      intro h
      unfold wipeE
      rw [backE_set vs _ u _ (h u (by simp)), ih fun w hw => h w (List.mem_cons_of_mem _ hw)]
  exact gen vs fun _ h => h
theorem Rel.backD {g0 : G} {H0 : Hp} {σ' : L2.St} {ρ' : Env'} {o : HO} (R : Rel c0 β g0 ρ σ (L2.upd H0 D o)) (e : Ext g0 g' (L2.upd H0 D o) (L2.upd H' D o)) (R' : Rel c0 β g' ρ' σ' H') (hl : σ'.length = σ.length) (vs : List Nat) (hM : g'.M D) (ho : H' D ≠ none) (ht : ∀ ws, o ≠ .tup ws := by exact fun _ z => by cases z) :
    Rel c0 β (g'.nos vs) (backE ρ ρ' vs) (vs.foldr (fun v s => s.set v ((σ[v]?).getD none)) σ') H' := by
  have h1 := R.back e vs σ' (R'.updM hM ht) hl
  cases q : H' D with
  | none => exact absurd q ho
  | some ob =>
    have h2 := h1.updM (D := D) (o := ob) (by rw [nos_M]; exact hM) (fun ws z => R'.nt D hM ws (by rw [q, z]))
    rw [upd_upd] at h2
    have e : L2.upd H' D ob = H' := by
      funext b
      by_cases hb : b = D
      · subst hb; rw [upd_same, q]
      · rw [upd_ne hb]
    rw [e] at h2
    exact h2
def okD {α : Type} (D : Addr) (g : G) (H : Hp) (m : T α) (Q : G → Hp → α → Prop) : Prop := m.all (fun a => ∀ g' H', Ext g g' (upd H D (.lst [])) (upd H' D (.lst [])) → Q g' H' a) fun _ _ => False
def NoE {α : Type} (m : T α) : Prop := ∀ (Q : α → Prop) (E : Nat → List AV → Prop), m.all Q E → m.all Q fun _ _ => False
theorem noE_noExc {α : Type} (m : T α) : NoE (noExc m) := by
  intro Q E h
  induction m with
  | ret a => exact h
  | bad => exact h
  | exc c xs => exact h
  | draw n k ih => exact fun r hr => ih r (h r hr)
theorem NoE.bind {α γ : Type} {m : T α} {k : α → T γ} (h : NoE m) (hk : ∀ a, NoE (k a)) : NoE (m.bind k) := fun Q E q =>
  T.all_bind.mpr (T.all_mono (h _ _ (T.all_bind.mp q)) (fun a q => hk a Q E q) fun _ _ z => z)
theorem noE_ret {α : Type} (a : α) : NoE (T.ret a) := fun _ _ h => h
theorem lcL_noExc (vs : List Nat) (k : GSem) (tt : SemB) (el : Sem) : ∀ (xs acc : List AV) (ρ : Env'), NoE (lcL vs k tt el xs acc ρ)
  | [], _, _ => noE_ret _
  | _ :: xs, _, _ => (noE_noExc _).bind fun r => lcL_noExc vs k tt el xs r.1 r.2
theorem okD_of {Ex : XK} {α γ : Type} {g1 : G} {H1 : Hp} {m : T α} {k : α → T γ} {Q : G → Hp → γ → Prop} {R : G → Hp → α → Prop} (hn : NoE m) (h : okT c0 β Ex g H (m.bind k) Q)
    (hR : ∀ a, okT c0 β Ex g H (k a) Q → ∀ g' H', Ext g1 g' (upd H1 D (.lst [])) (upd H' D (.lst [])) → R g' H' a) : okD D g1 H1 m R :=
  T.all_mono (hn _ _ (T.all_bind.mp h)) (fun a q => hR a q) fun _ _ z => z
theorem okD_ext {α : Type} {g2 : G} {H2 : Hp} {m : T α} {Q : G → Hp → α → Prop} (h : okD D g H m Q) (e : Ext g g2 (upd H D (.lst [])) (upd H2 D (.lst []))) : okD D g2 H2 m Q :=
  T.all_mono h (fun a q g' H' e' => q g' H' (e.trans e')) fun _ _ z => z
theorem okD_ret {α : Type} {a : α} {Q : G → Hp → α → Prop} (h : okD D g H (.ret a) Q) : Q g H a := h g H (Ext.refl _ _)
theorem okT_of_noExc {Ex : XK} {α : Type} {m : T α} {Q : α → Prop} (h : (noExc m).all Q fun _ _ => False) {R : G → Hp → α → Prop} (hR : ∀ a, Q a → ∀ g' H', Ext g g' H H' → R g' H' a) : okT c0 β Ex g H m R := by
  induction m with
  | ret a => exact hR a h
  | bad => exact h
  | exc c xs => exact (show False from h).elim
  | draw n k ih => exact fun r hr => ih r (h r hr)
theorem okD_turn {Ex : XK} {α γ : Type} {m : T α} {k : α → T γ} {Q : G → Hp → γ → Prop} (h : okD D g H ((noExc m).bind k) Q) (hD : H D ≠ none) : okT c0 β Ex g H m fun g' H' a => okD D g' H' (k a) Q :=
  okT_of_noExc (T.all_bind.mp h) fun a q g' H' e => T.all_mono q (fun b q g2 H2 e2 => q g2 H2 ((ext_updB e hD).trans e2)) fun _ _ z => z
end
def JTs (X : Cx) (ct : CT) (β : BInv) (Ex : XK) (e : List Expr) (f : SemB) : Prop := PTs X e (rdB (gc X ct) β Ex f)
def fYes : SemB := fun ρ => .ret (true, ρ)
section
variable {X : Cx} {ct : CT} {β : BInv} {Ex : XK} {a c elt tg iter : Expr} {ifs : List Expr} {f : SemI} {k : GSem} {tt : SemB} {el : Sem} {pos : Pos} {scope : Scope} {own : List (Str × Nat)} {is : List Nat}
theorem jts_nil : JTs X ct β Ex [] fYes := ⟨fun pins s σ H Q I h => pts_nil.run pins s σ H Q I (by
  obtain ⟨g, ρ, R, h⟩ := h
  exact okT_ret h R)⟩
theorem lc_ok {σ : L2.St} {H : Hp} {Q : VK} {vs : List Nat} (hown : ∀ i ∈ is, i ∈ vs) (h : rdN (gc X ct) β Ex (nLc vs f k tt el) σ H Q) : tLc (rdI (gc X ct) β Ex f) (rdG (gc X ct) β E0 is k) (rdB (gc X ct) β E0 tt) (rdE (gc X ct) β E0 el) vs σ H Q := by
  obtain ⟨g, ρ, R, h⟩ := h
  refine ⟨g, ρ, R, okT_bind0 h fun p q g1 H1 e1 J R1 wk D nD => ?_⟩
  obtain ⟨xs, ρ1⟩ := p
  have sD := same_upd (o := .lst []) nD
  have lD : (upd H1 D (.lst [])) D ≠ none := by rw [upd_same]; exact fun z => by cases z
  by_cases hbig : xs.length < big
  · have q : okT (gc X ct) β Ex g H ((lcL vs k tt el xs [] ρ1).bind fun r => .ret (r.1, backE ρ1 r.2 vs)) fun g' H' p => ∀ a vs, H a = none → ¬ g'.Av a → H' a = some (.lst vs) → Rel (gc X ct) β (g'.plus a) p.2 σ H' → RepsG (gc X ct) (g'.plus a) H' p.1 vs → Q (.ref a) H' := by
      have q' : okT (gc X ct) β Ex g H (if xs.length < big then _ else _) _ := q
      rw [if_pos hbig] at q'
      exact q'
    have RD : Rel (gc X ct) β (g1.plus D) ρ1 σ (upd H1 D (.lst [])) := R1.plus sD nD lD
    -- what the end asks, from the block's own point of view
    have start : okD D (g1.plus D) (upd H1 D (.lst [])) (lcL vs k tt el xs [] ρ1) (fun g' H' r => ∀ ws', H' D = some (.lst ws') → Rel (gc X ct) β g' (wipeE r.2 vs) (wipe σ vs) H' → RepsG (gc X ct) g' H' r.1 ws' → Q (.ref D) H') := by
      refine okD_of (lcL_noExc vs k tt el xs [] ρ1) q fun r hr g' H' e ws' hw R' r' => ?_
      have e := (show Ext (g1.plus D) g' (upd H1 D (.lst [])) (upd H' D (.lst [])) by rw [upd_upd] at e; exact e)
      have hl' : H' D ≠ none := by rw [hw]; exact fun z => by cases z
      have M' : g'.M D := by rw [e.m]; exact .inr rfl
      have e' : Ext g1 (g'.setM g1.M) H1 H' := ext_of_plusD e hl' nD
      have e2 : Ext g ((g'.setM g1.M).nos vs) H H' := (e1.trans e').trans (ext_nos _ _ vs)
      have gp : ((g'.setM g1.M).nos vs).plus D = g'.nos vs := nos_plus (H1 := H1) e.m vs
      refine okT_ret' hr e2 D ws' (none_back e1 nD) (fun z => ?_) hw ?_ ?_
      · rcases nos_av z with z | ⟨i, z⟩ | z
        · exact R1.alive D z nD
        · rcases e.own i D z with ⟨j, hj⟩ | hj
          · exact R1.ownLive (i := j) hj nD
          · exact lD hj
        · rcases e.bnew D z with z | z
          · exact β.live R1.box z nD
          · exact lD z
      · rw [gp]
        have hb := RD.backD e R' (wipe_length σ vs) vs M' hl'
        rw [restore_eq, backE_wipe] at hb
        exact hb
      · rw [gp]
        exact (ext_nos g' H' vs).reps r'
    refine ⟨fun i m H2 => m = xs.length - i ∧ i ≤ xs.length ∧ ∃ g2 ρ2 acc ws, Ext (g1.plus D) g2 (upd H1 D (.lst [])) (upd H2 D (.lst [])) ∧ Rel (gc X ct) β g2 (wipeE ρ2 vs) (wipe σ vs) H2 ∧ H2 D = some (.lst ws) ∧ RepsG (gc X ct) g2 H2 acc ws ∧ acc.length ≤ i ∧
      okD D g2 H2 (lcL vs k tt el (xs.drop i) acc ρ2) (fun g' H' r => ∀ ws', H' D = some (.lst ws') → Rel (gc X ct) β g' (wipeE r.2 vs) (wipe σ vs) H' → RepsG (gc X ct) g' H' r.1 ws' → Q (.ref D) H'),
      ⟨xs.length, by simp, Nat.zero_le _, (g1.plus D).nos vs, ρ1, [], [], by rw [upd_upd]; exact ext_nos _ _ vs, RD.wipe vs, upd_same, .nil, Nat.le_refl _, okD_ext start (by rw [upd_upd]; exact ext_nos _ _ vs)⟩, ?_⟩
    rintro i m H2 ⟨rfl, hi, g2, ρ2, acc, ws, e2, R2, hw, ra, hlen, h2⟩
    have M2 : g2.M D := by rw [e2.m]; exact .inr rfl
    have kp : Keeps (gc X ct) g1 g2 H1 H2 := fun t v r => rep_updD M2 (e2.rep (rep_plus r sD nD))
    by_cases hlt : i < xs.length
    · refine .inr ⟨wk.go _ _ _ kp hlt, _, fun H' n => ⟨xs.length - (i + 1), by omega, n⟩, fun x H3 hy => ?_⟩
      have ex : xs[i]? = some xs[i] := List.getElem?_eq_getElem hlt
      obtain ⟨sm, rx⟩ := wk.yld _ _ _ _ _ _ kp (fun _ h => R2.avLive h) ex hy
      rw [List.drop_eq_getElem_cons hlt] at h2
      have hD2 : H2 D ≠ none := by rw [hw]; exact fun z => by cases z
      have hD3 : H3 D = some (.lst ws) := sm D _ hw
      have hD3' : H3 D ≠ none := by rw [hD3]; exact fun z => by cases z
      have h3 := okD_turn (c0 := gc X ct) (β := β) (Ex := E0) (okD_ext h2 (ext_updB (Ext.same sm) hD2)) hD3'
      refine ⟨g2, wipeE ρ2 vs, xs[i], R2.same sm, rx, okT_mono (okT_bind h3) fun g4 H4 ρ4 e4 h4 σ4 ag R4 => ⟨(wipe_agree ag hown).trans wipe_wipe, g4, ρ4, R4, okT_mono (okT_bind h4) fun g5 H5 p e5 h5 R5 => ?_⟩⟩
      have e35 : Ext g2 g5 H3 H5 := e4.trans e5
      have eD : ∀ {g6 : G} {H6 : Hp}, Ext g2 g6 H3 H6 → H6 D = some (.lst ws) := fun e => e.keep D _ hD3 (fun i z => (R2.sep i D z).1 M2) (R2.mb D M2)
      have eT : ∀ {g6 : G} {H6 : Hp} (o : HO), Ext g2 g6 H3 H6 → Ext (g1.plus D) g6 (upd H1 D (.lst [])) (upd (upd H6 D o) D (.lst [])) := fun {g6 H6} o e => by
        rw [upd_upd]
        exact e2.trans ((ext_updB (Ext.same sm) hD2).trans (ext_updB e hD3'))
      by_cases hp : p.1 = true
      · dsimp only
        rw [if_pos hp] at h5 ⊢
        refine ⟨g5, p.2, R5, okT_mono (okT_bind h5) fun g6 H6 s e6 h6 y R6 ry => ?_⟩
        obtain ⟨g7, z, e7, R7, rz, h7⟩ := frz_ok R6 ry h6
        have e37 : Ext g2 g7 H3 H6 := (e35.trans e6).trans e7
        have M7 : g7.M D := by rw [e37.m]; exact M2
        refine ⟨ws, eD e37, ?_, rfl, hlt, g7.nos vs, z.2, acc ++ [z.1], ws ++ [y], (eT _ e37).trans (ext_nos _ _ vs), ?_, upd_same, ?_, by rw [List.length_append]; simp; omega, ?_⟩
        · have := ra.length
          have := big_line
          omega
        · have R8 := (R7.updM (o := .lst (ws ++ [y])) M7).wipe vs
          rw [wipe_agree ag hown, wipe_wipe] at R8
          exact R8
        · exact (ext_nos g7 _ vs).reps (rep_updL M7 ((((Ext.same sm).trans e37).reps ra).append (.one rz)))
        · exact okD_ext (okT_ret h7) (by rw [upd_upd]; exact ext_nos _ _ vs)
      · dsimp only
        rw [if_neg hp] at h5 ⊢
        refine ⟨rfl, hlt, g5.nos vs, p.2, acc, ws, ?_, ?_, eD e35, ?_, by omega, ?_⟩
        · have := eT (.lst ws) e35
          rw [upd_upd] at this
          exact this.trans (ext_nos _ _ vs)
        · have R8 := R5.wipe vs
          rw [wipe_agree ag hown, wipe_wipe] at R8
          exact R8
        · exact (ext_nos g5 _ vs).reps (((Ext.same sm).trans e35).reps ra)
        · exact okD_ext (okT_ret h5) (ext_nos _ _ vs)
    · have e : i = xs.length := by omega
      subst e
      rw [List.drop_length] at h2
      exact .inl ⟨wk.stop _ _ _ kp (Nat.le_refl _), okD_ret h2 ws hw R2 ra⟩
  · have q' : okT (gc X ct) β Ex g H (if xs.length < big then _ else _) _ := q
    rw [if_neg hbig] at q'
    exact (show False from q').elim
theorem jn_lc (hc : X.calm = true) (hN : X.N.Nodup) (ok : BlkOk X.N X.env.scope scope own) (hown : ∀ i ∈ is, i ∈ own.map (·.2)) (hi : JI X ct β Ex tg iter f)
    (hg : ∀ (s : Shared) (H : Hp) (C : Addr) (cl : List (Str × Addr)) (fp : List Addr), JG (X.blk s H scope (compEnvC scope cl C X.env) fp) ct β E0 tg is k) (ht : ∀ (s : Shared) (H : Hp) (C : Addr) (cl : List (Str × Addr)) (fp : List Addr), JTs (X.blk s H scope (compEnvC scope cl C X.env) fp) ct β E0 ifs tt)
    (he : ∀ (s : Shared) (H : Hp) (C : Addr) (cl : List (Str × Addr)) (fp : List Addr), JE (X.blk s H scope (compEnvC scope cl C X.env) fp) ct β E0 elt el) (hs : ∀ x, foldedSetIterable iter X.env x = pure x := by intro _; rfl) :
    JN X ct β Ex (.ListComp elt [⟨tg, iter, ifs, 0⟩] scope pos) (nLc (own.map (·.2)) f k tt el) := by
  exact PE.imp (pe_lc (g := rdG (gc X ct) β E0 is k) (tt := rdB (gc X ct) β E0 tt) (te := rdE (gc X ct) β E0 el) hc hN hi ok hg ht he hs) fun σ H Q h => lc_ok hown h
end
end Dn
set_option Elab.async false
set_option linter.all false
set_option maxRecDepth 100000
namespace PySem
namespace TrS
open PySem PySem.Spec PyProof.Rows SrtO
section
variable {prog : Program} {w : World} {A : Around} {E : Value → Shared → Prop} {s : Shared}
theorem collect_tup {t : Addr} {us : List Value} {Q : List Value → Shared → Prop} (ht : s.heap.IsTuple t us.toArray) (hz : us.length ≤ sizeLine)
    (hQ : Q us { s with heap := (s.heap.push (seqObj "list" #[] 0)).update s.heap.objs.size (Obj.mapSeq (· ++ us.toArray)) }) : wpAny (model prog w) A (collect (.ref t)) Q E s := by
  obtain ⟨o, ho, hc, n, hd⟩ := ht
  have ho2 : (s.heap.push (seqObj "list" #[] 0)).get? t = some o := Heap.get?_push_of_some _ ho
  have hn : (s.heap.push (seqObj "list" #[] 0)).get? s.heap.objs.size = some (seqObj "list" #[] 0) := Heap.get?_push_size _ rfl
  have two : (Value.type "tuple" == Value.type "list") = false := by decide +kernel
  have one : (Value.type "tuple" == Value.type "tuple") = true := by rfl
  have room : (#[] ++ us.toArray).size ≤ sizeLine + 1 := by
    simp only [Array.size_append, List.size_toArray, List.length_nil]
    omega
  unfold collect
  apply wpAny_bind
  apply wpAny_runValue
  apply codeAny_builtin entry_proto_collect'
  show wpAny _ _ (do again (.builtin "list.__iadd__" ⟨[← newList [], .ref t], []⟩)) _ _ s
  apply wpAny_bind
  refine wpAny_newList ?_ (Nat.zero_le _)
  refine wpAny_pure ⟨Code.quiet_builtin _ (by decide +kernel), codeAny_builtin entry_list_iadd' ?_⟩
  show wpAny _ _ (Builtin.List.listExtendWith (.ref s.heap.objs.size) (.ref t) (.ref s.heap.objs.size)) _ _ { s with heap := s.heap.push (seqObj "list" #[] 0) }
  unfold Builtin.List.listExtendWith
  apply wpAny_bind
  refine wpAny_typeOf (T := "tuple") ⟨o, ho2, hc⟩ ?_
  rw [if_pos (by rw [two, one]; simp)]
  apply wpAny_bind
  apply listItems_at ho2 hd
  apply wpAny_bind
  apply listItems_at (xs := #[]) (n := 0) hn rfl
  rw [if_neg (by simp)]
  apply wpAny_bind
  refine listUpdate_at (xs := #[]) (n := 0) hn rfl ?_ (Nat.zero_le _) room
  apply wpAny_pure
  show wpAny (model prog w) A (do
      match (← load s.heap.objs.size).data with
      | .seq xs _ => pure xs.toList
      | _ => unsupported "internal:collect") Q E { s with heap := (s.heap.push (seqObj "list" #[] 0)).update s.heap.objs.size (Obj.mapSeq (· ++ us.toArray)) }
  apply wpAny_bind
  apply wpAny_load (get?_update_seq hn _)
  show wpAny _ _ (pure ((#[] : Array Value) ++ us.toArray).toList) Q E _
  rw [show ((#[] : Array Value) ++ us.toArray).toList = us by simp]
  exact wpAny_pure hQ
theorem sorted_tup {t : Addr} {us : List Value} {lt : Value → Value → Bool} {Q : Value → Shared → Prop} (O : Swo lt) (ht : s.heap.IsTuple t us.toArray) (hz : us.length ≤ sizeLine)
    (hS : 2 ≤ us.length → ∀ (h₁ : Heap) (a : Addr), SortableO prog w A.in1.in1 { s with heap := h₁ } a us lt)
    (hQ : ∀ out : List Value, Srtd lt out → Stb lt out us → Q (.ref (s.heap.objs.size + 1)) { s with heap := sortedAll s.heap us out.toArray }) : wpAny (model prog w) A (call (.builtin "sorted") [.ref t]) Q E s := by
  apply Calls.call_function_entry kind_sorted plain_sorted entry_sorted (args_sorted1 _)
  unfold Builtin.«sorted»
  apply wpAny_bind (m := checkCount "sorted" 1 1 _)
  apply wpAny_pure
  apply wpAny_bind
  apply collect_tup ht hz
  apply wpAny_bind
  refine wpAny_newList ?_ hz
  have n1 : ((s.heap.push (seqObj "list" #[] 0)).update s.heap.objs.size (Obj.mapSeq (· ++ us.toArray))).objs.size = s.heap.objs.size + 1 := by rw [Heap.size_update, size_push']
  have at1 : (((s.heap.push (seqObj "list" #[] 0)).update s.heap.objs.size (Obj.mapSeq (· ++ us.toArray))).push (seqObj "list" us.toArray 0)).get? (s.heap.objs.size + 1) = some (seqObj "list" us.toArray 0) := by
    rw [← n1]
    exact Heap.get?_push_size _ rfl
  show wpAny _ _ _ _ _ { s with heap := ((s.heap.push (seqObj "list" #[] 0)).update s.heap.objs.size (Obj.mapSeq (· ++ us.toArray))).push (seqObj "list" us.toArray 0) }
  rw [n1]
  apply wpAny_bind
  apply wpAny_holding
  refine wpAny_call_entry slot_list_sort ⟨_, at1, rfl⟩ entry_list_sort (list_sort_ord O at1 hz (fun h2 => hS h2 _ _) fun out hs hb => ⟨_, rfl, ?_⟩) (args_list_sort _)
  exact wpAny_pure ⟨_, rfl, hQ out hs hb⟩
end
end TrS
end PySem
namespace Dn
open PySem PySem.Spec PyProof.Rows L2
def ins (x : Int) : List Int → List Int
  | [] => [x]
  | y :: r => if x ≤ y then x :: y :: r else y :: ins x r
def isort : List Int → List Int
  | [] => []
  | x :: r => ins x (isort r)
theorem ins_perm (x : Int) : ∀ l : List Int, (ins x l).Perm (x :: l)
  | [] => List.Perm.refl _
  | y :: r => by
    unfold ins
    split
    · exact List.Perm.refl _
    · exact (List.Perm.cons y (ins_perm x r)).trans (List.Perm.swap x y r)
theorem isort_perm : ∀ l : List Int, (isort l).Perm l
  | [] => List.Perm.refl _
  | x :: r => (ins_perm x (isort r)).trans (List.Perm.cons x (isort_perm r))
theorem ins_sorted (x : Int) : ∀ {l : List Int}, l.Pairwise (· ≤ ·) → (ins x l).Pairwise (· ≤ ·)
  | [], _ => List.pairwise_singleton _ _
  | y :: r, h => by
    have h1 := List.pairwise_cons.mp h
    unfold ins
    split
    · rename_i hx
      refine List.pairwise_cons.mpr ⟨fun z hz => ?_, h⟩
      rcases List.mem_cons.mp hz with e | e
      · rw [e]
        exact hx
      · exact Int.le_trans hx (h1.1 z e)
    · rename_i hx
      refine List.pairwise_cons.mpr ⟨fun z hz => ?_, ins_sorted x h1.2⟩
      rcases List.mem_cons.mp ((ins_perm x r).mem_iff.mp hz) with e | e
      · rw [e]
        omega
      · exact h1.1 z e
theorem isort_sorted : ∀ l : List Int, (isort l).Pairwise (· ≤ ·)
  | [] => List.Pairwise.nil
  | x :: r => ins_sorted x (isort_sorted r)
theorem isort_uniq : ∀ {l m : List Int}, l.Perm m → l.Pairwise (· ≤ ·) → m.Pairwise (· ≤ ·) → l = m
  | [], m, p, _, _ => by rw [List.nil_perm] at p; exact p.symm
  | x :: l, [], p, _, _ => by rw [List.perm_nil] at p; exact p
  | x :: l, y :: m, p, h1, h2 => by
    have a := List.pairwise_cons.mp h1
    have b := List.pairwise_cons.mp h2
    have e : x = y := by
      have hx := p.mem_iff.mp (List.mem_cons_self (a := x) (l := l))
      have hy := p.mem_iff.mpr (List.mem_cons_self (a := y) (l := m))
      rcases List.mem_cons.mp hx with e | e
      · exact e
      · rcases List.mem_cons.mp hy with e' | e'
        · exact e'.symm
        · have := a.1 y e'
          have := b.1 x e
          omega
    subst e
    rw [isort_uniq p.cons_inv a.2 b.2]
theorem cr_sortedT {X : Cx} : CallR X (.builtin "sorted") (fun vs H Q => ∃ (a : Addr) (ns : List Int), vs = [V.ref a] ∧ SqT X.K H a (ns.map V.int) ∧ ∀ (ns' : List Int) (p : Addr), ns'.Perm ns → ns'.Pairwise (· ≤ ·) → H p = none → Q (.ref p) (upd H p (.lst (ns'.map V.int)))) := by
  intro pins s σ H vs us Q I r h
  obtain ⟨a, ns, rfl, hs, q⟩ := h
  obtain ⟨its, rv, ht, hz⟩ := I.tuple hs
  rw [Vals.ref1 r]
  have hi := rv.ints
  have hlz : its.length ≤ sizeLine := by
    rw [← rv.length]
    exact hz
  refine PySem.TrS.sorted_tup SrtO.swo_int (show s.heap.IsTuple a its.toArray from ht) hlz (fun h2 h₁ a' => SrtO.ints_sortable hi h2) fun out h1 h2 => ?_
  obtain ⟨k1, k2, k3⟩ := SrtO.ints_out hi h1 h2
  obtain ⟨ep, at1⟩ := PyProof.Rows.sortedAll_at s.heap its out.toArray
  have hl : ((out.map SrtO.iv).map V.int).length ≤ sizeLine := by
    have z := hz
    rw [List.length_map] at z ⊢
    rw [k2.length_eq]
    exact z
  have J : L2.Inv X pins σ (upd H (s.heap.objs.size + 1) (.lst ((out.map SrtO.iv).map V.int))) { s with heap := sortedAll s.heap its out.toArray } := I.laid (t' := s.toks) (fun _ _ => PyProof.Rows.sortedAll_old (vs := its) (out := out.toArray)) (Nat.le_succ _) ⟨hl, out, ep, vals_of_ints k1, at1⟩
  exact ⟨.ref _, upd H (s.heap.objs.size + 1) (.lst ((out.map SrtO.iv).map V.int)), J, rfl, q _ _ k2 k3 (I.hok.fresh (Nat.le_succ _))⟩
def tLenSetT (K : PySem.W.Frag) (ta : TE) : TE := fun σ H Q => ta σ H fun x H1 => ∃ (l : Addr) (ns : List Int), x = .ref l ∧ SqT K H1 l (ns.map V.int) ∧ ns.Nodup ∧ ns.length ≤ 1000 ∧ Q (.int (ns.length : Nat)) H1
def rLenOwn (C : Addr) (sp : Sp) (E : XK) : List V → Hp → VK → Prop := fun xs H Q => ∃ a dx fs, xs = [V.ref a] ∧ H a = some (.ins C dx fs) ∧ sp [.ref a] H (fun z H' => ∃ i, z = .int i ∧ (0 ≤ i ∧ i < 2 ^ 63) ∧ Q (.int i) H') E
def tyName : AV → Option String
  | .non => some "NoneType"
  | .bl _ => some "bool"
  | .int _ => some "int"
  | .str _ => some "str"
  | .tup _ => some "tuple"
  | .lst _ => some "list"
  | _ => none
def subTy (t u : String) : Bool := t == u || (t == "bool" && u == "int")
def pIsi (u : String) (a : AV) : Option AV := (tyName a).map fun t => .bl (subTy t u)
def pIsi2 (u v : String) (a : AV) : Option AV := (tyName a).map fun t => .bl (subTy t u || subTy t v)
section
variable {X : Cx} {ct : CT} {β : BInv} {Ex : XK} {a b c e : Expr} {f k : Sem} {pos p p2 p3 p4 : Pos} {x : Str} {u v : String}
theorem tyX_of {c0 : Gc} {g : G} {H : Hp} {t : AV} {w : V} {n : String} (h : RepR c0 g H t w) (e : tyName t = some n) : TyX c0.K H w (.type n) := by
  cases t with
  | non => cases e; rw [h.non]; exact .base .non
  | bl b => cases e; rw [h.bl]; exact .base (.bl b)
  | int i => cases e; rw [h.int]; exact .base (.int i)
  | str s => cases e; rw [h.str]; exact .base (.str s)
  | tup xs =>
    cases e
    obtain ⟨q, vs, rfl, hs, _⟩ := h.tup
    rcases hs with (hs | ⟨o, hs⟩) | ⟨o, its, n, hs, hc, _⟩
    · exact .base (.tup hs)
    · exact .fTuple hs
    · exact .kTuple hs hc
  | lst xs =>
    cases e
    obtain ⟨q, vs, rfl, hs, _⟩ := h.lst'
    exact .base (.lst hs)
  | _ => cases e
def Kinds (u : String) : Prop := ∀ t ∈ ["NoneType", "bool", "int", "str", "tuple", "list"], kitB t u = some (subTy t u)
instance : Decidable (Kinds u) := by unfold Kinds; infer_instance
theorem kinds_int : Kinds "int" := by decide +kernel
theorem kinds_bool : Kinds "bool" := by decide +kernel
theorem kinds_list : Kinds "list" := by decide +kernel
theorem kinds_tuple : Kinds "tuple" := by decide +kernel
theorem tyName_in {t : AV} {n : String} (e : tyName t = some n) : n ∈ ["NoneType", "bool", "int", "str", "tuple", "list"] := by
  cases t <;> cases e <;> simp
theorem j_isi (K : Kinds u) (hg : Gl X "isinstance") (hm : X.mg "isinstance" = none) (hg2 : Gl X u) (hm2 : X.mg u = none) (hv : bootBuiltins (u : Str) = some (.type u)) (ha : JE X ct β Ex a f) (hn : (u : Str) ≠ "__name__" := by decide +kernel) (hdb : ((u : Str) == ("__debug__" : Str)) = false := by decide +kernel)
    (he : starEach [a, .Name u p2] X.env = (false, eval a X.env) :: starEach [.Name u p2] X.env := by rfl) (hpl : (backTo pos (starEach [.Name u p2] X.env)).any (·.1) = false := by rfl) : JE X ct β Ex (.Call (.Name "isinstance" p) [a, .Name u p2] [] pos) (fUn (pIsi u) f) := by
  refine PE.imp (pe_callB call_isi hg hm (by decide +kernel) (pa_cons ha (pa_cons (pe_bltn (v := .ty u) hg2 hm2 hv rfl hn hdb) pa_nil) he) (by decide +kernel) (by decide +kernel) he hpl) fun σ H Q h => ?_
  refine fUn_ok' (r := fun x H Q => rIsi X.K [x, .ty u] H Q) (fun g H a z x Q _ ra e q => ?_) h
  obtain ⟨n, en, rfl⟩ := map_some (o := tyName a) e
  exact ⟨x, .ty u, _, _, _, rfl, .ty u, tyX_of ra en, kit_ty (K n (tyName_in en)), q _ H (Same.refl H) rep_bl⟩
theorem j_isi2 (Ku : Kinds u) (Kv : Kinds v) (hg : Gl X "isinstance") (hm : X.mg "isinstance" = none) (hg2 : Gl X u) (hm2 : X.mg u = none) (hv2 : bootBuiltins (u : Str) = some (.type u)) (hg3 : Gl X v) (hm3 : X.mg v = none) (hv3 : bootBuiltins (v : Str) = some (.type v)) (ha : JE X ct β Ex a f) {kk : Nat}
    (hn : (u : Str) ≠ "__name__" := by decide +kernel) (hdb : ((u : Str) == ("__debug__" : Str)) = false := by decide +kernel) (hn3 : (v : Str) ≠ "__name__" := by decide +kernel) (hdb3 : ((v : Str) == ("__debug__" : Str)) = false := by decide +kernel)
    (he : starEach [a, .Tuple [.Name u p2, .Name v p3] kk p4] X.env = (false, eval a X.env) :: starEach [.Tuple [.Name u p2, .Name v p3] kk p4] X.env := by rfl) (hpl : (backTo pos (starEach [.Tuple [.Name u p2, .Name v p3] kk p4] X.env)).any (·.1) = false := by rfl) :
    JE X ct β Ex (.Call (.Name "isinstance" p) [a, .Tuple [.Name u p2, .Name v p3] kk p4] [] pos) (fUn (pIsi2 u v) f) := by
  refine PE.imp (pe_callB call_isiT hg hm (by decide +kernel) (pa_cons ha (pa_cons (pe_tup (pa_cons (pe_bltn (v := .ty u) hg2 hm2 hv2 rfl hn hdb) (pa_cons (pe_bltn (v := .ty v) hg3 hm3 hv3 rfl hn3 hdb3) pa_nil))) pa_nil) he) (by decide +kernel) (by decide +kernel) he hpl) fun σ H Q h => ?_
  obtain ⟨g, ρ, R, h⟩ := h
  refine ⟨g, ρ, R, okT_mono (okT_bind h) fun g1 H1 q e1 h1 x R1 rx => ?_⟩
  obtain ⟨t, et, h3⟩ := okT_lift h1
  obtain ⟨z, ez, h5⟩ := okT_lift h3
  obtain ⟨n, en, rfl⟩ := map_some (o := tyName t) ez
  refine ⟨by show 2 ≤ sizeLine; decide, fun l hl => ?_⟩
  have s := same_upd (o := .tup [V.ty u, V.ty v]) hl
  have rt : RepR (gc X ct) g1 (upd H1 l (.tup [V.ty u, V.ty v])) t x := by
    rcases rx.rs R1 et with r | ⟨xs, p, vs, e1, e2, e3, e4, e5⟩
    · exact .inl ((Ext.same s).rep r)
    · exact .inr ⟨xs, p, vs, e1, e2, e3, s _ _ e4, (Ext.same s).reps e5⟩
  refine ⟨x, l, [.ty u, .ty v], .type n, [.type u, .type v], _, rfl, upd_same, .cons (.ty u) (.cons (.ty v) .nil), tyX_of rt en, ?_, okT_ret' h5 (Ext.same s) _ (R1.same s) (rh_val (rep_bl (b := subTy n u || subTy n v)))⟩
  have k1 := kit_ty (K := X.K) (Ku n (tyName_in en))
  have k2 := kit_ty (K := X.K) (Kv n (tyName_in en))
  cases hu : subTy n u with
  | true => rw [hu] at k1; exact kitAny_cons (b := true) k1 (fun z => nomatch z) fun _ => rfl
  | false =>
    rw [hu] at k1
    refine kitAny_cons (b := false) k1 (fun _ => ?_) fun z => nomatch z
    cases hv : subTy n v with
    | true => rw [hv] at k2; exact kitAny_cons (b := true) k2 (fun z => nomatch z) fun _ => rfl
    | false => rw [hv] at k2; exact kitAny_cons (b := false) k2 (fun _ => rfl) fun z => nomatch z
def pLenSet (a : AV) : Option AV := (seqOf a).bind fun xs => (intsOf xs).bind fun ns => if ns.Nodup ∧ ns.length ≤ 1000 then some (.int ns.length) else none
def pSorted (a : AV) : Option AV := (seqOf a).bind fun xs => (intsOf xs).bind fun ns => if ns.length ≤ big then some (.lst ((isort ns).map AV.int)) else none
def tLenSetA (K : PySem.W.Frag) (ta : TE) : TE := fun σ H Q => ta σ H fun x H1 => ∃ (l : Addr) (ns : List Int), x = .ref l ∧ (SqL K H1 l (ns.map V.int) ∨ SqT K H1 l (ns.map V.int)) ∧ ns.Nodup ∧ ns.length ≤ 1000 ∧ Q (.int (ns.length : Nat)) H1
theorem cr_sortedA {X : Cx} : CallR X (.builtin "sorted") (fun vs H Q => ∃ (a : Addr) (ns : List Int), vs = [V.ref a] ∧ (SqL X.K H a (ns.map V.int) ∨ SqT X.K H a (ns.map V.int)) ∧ ∀ (ns' : List Int) (p : Addr), ns'.Perm ns → ns'.Pairwise (· ≤ ·) → H p = none → Q (.ref p) (upd H p (.lst (ns'.map V.int)))) := by
  intro pins s σ H vs us Q I r h
  obtain ⟨a, ns, e, hs | hs, q⟩ := h
  · exact cr_sortedI pins s σ H vs us Q I r ⟨a, ns, e, hs, q⟩
  · exact cr_sortedT pins s σ H vs us Q I r ⟨a, ns, e, hs, q⟩
theorem o_sorted : Op1' X ct (fun x H Q => ∃ (a : Addr) (ns : List Int), [x] = [V.ref a] ∧ (SqL X.K H a (ns.map V.int) ∨ SqT X.K H a (ns.map V.int)) ∧ ∀ (ns' : List Int) (p : Addr), ns'.Perm ns → ns'.Pairwise (· ≤ ·) → H p = none → Q (.ref p) (upd H p (.lst (ns'.map V.int)))) pSorted := by
  intro g H a z x Q live ra e q
  unfold pSorted at e
  cases e1 : seqOf a with
  | none => rw [e1] at e; cases e
  | some xs =>
    rw [e1] at e
    cases e2 : intsOf xs with
    | none => simp [e2] at e
    | some ns =>
      have e3 : (if ns.length ≤ big then some (AV.lst ((isort ns).map AV.int)) else none) = some z := by simpa [e2] using e
      obtain ⟨h, rfl⟩ := ifp_some e3
      obtain ⟨l, vs, rfl, hs, r⟩ := seq_sq ra e1
      rw [intsOf_eq e2] at r
      have ev := reps_ints r
      subst ev
      refine ⟨l, ns, rfl, hs, fun ns' p hp hq hn => ?_⟩
      have e4 : ns' = isort ns := isort_uniq (hp.trans (isort_perm ns).symm) hq (isort_sorted ns)
      subst e4
      have s := same_upd (o := .lst ((isort ns).map V.int)) hn
      exact q _ _ s (rep_lst_new (fun z => live p z hn) upd_same (.ints' _))
def nListRange (f : Sem) : SemN := fun ρ => (f ρ).bind fun p => (lift (rs p.1 p.2)).bind fun a => (lift (intOf a)).bind fun j => if 0 ≤ j ∧ below j 24 = true then .ret (rangeL 0 j.toNat, p.2) else .bad
def idxOf (i : Int) : List Int → Option Nat
  | [] => none
  | x :: xs => if x = i then some 0 else (idxOf i xs).map (· + 1)
def fIndex (f k : Sem) : Sem := fun ρ => (f ρ).bind fun p => (lift (rs p.1 p.2)).bind fun a0 => (lift (lstOf a0)).bind fun _ => (k p.2).bind fun q => (lift (rs p.1 q.2)).bind fun a => (lift (lstOf a)).bind fun xs => (lift (rs q.1 q.2)).bind fun b => (lift (intOf b)).bind fun i =>
  (lift (intsOf xs)).bind fun ns => (lift (idxOf i ns)).bind fun j => .ret (.val (.int j), q.2)
def sBad : SSem := fun _ => .bad
end
end Dn
set_option Elab.async false
set_option linter.all false
set_option maxRecDepth 100000
namespace Dn
open PySem PySem.Spec PyProof.Rows L2
section
variable {c0 : Gc} {β : BInv} {g : G} {H : Hp} {ρ : Env'} {σ : L2.St}
theorem set_over {j : Nat} {v : Option V} (h : ¬ j < ρ.length) (R : Rel c0 β g ρ σ H) : σ.set j v = σ := List.set_eq_of_length_le (by rw [R.len]; omega)
theorem Rel.nil {j : Nat} {p : Addr} (R : Rel c0 β (g.plus p) ρ σ H) (hp : H p = some (.lst [])) (na : ¬ g.Av p) (hj : j < ρ.length) : Rel c0 β (g.own1 j p) (ρ.set j (.ml [])) (σ.set j (some (.ref p))) H := R.take hj hp na .nil
end
def sPar (i j : Nat) (m : SemL) : SSem := fun ρ => (m ρ).bind fun p => match p.1 with
  | [t, u] => .ret (.nx ((p.2.set i (.fro t)).set j (.fro u)))
  | _ => .bad
def sPar3 (i j l : Nat) (m : SemL) : SSem := fun ρ => (m ρ).bind fun p => match p.1 with
  | [t, u, w] => .ret (.nx (((p.2.set i (.fro t)).set j (.fro u)).set l (.fro w)))
  | _ => .bad
def sParE (i j : Nat) (f : Sem) : SSem := fun ρ => (f ρ).bind fun p => (frz p).bind fun q => if i < q.2.length ∧ j < q.2.length then .ret (.nx ((q.2.set i (.fro q.1)).set j (.ml []))) else .bad
def sParN (i j : Nat) (f : SemN) : SSem := fun ρ => (f ρ).bind fun q => if i < q.2.length ∧ j < q.2.length then .ret (.nx ((q.2.set i (.ml q.1)).set j (.ml []))) else .bad
def sParNN (i j l : Nat) (f : SemN) : SSem := fun ρ => (f ρ).bind fun q => if i < q.2.length ∧ j < q.2.length ∧ l < q.2.length then .ret (.nx (((q.2.set i (.ml q.1)).set j (.ml [])).set l (.ml []))) else .bad
section
variable {X : Cx} {ct : CT} {β : BInv} {Ex : XK} {a b c : Expr} {f k : Sem} {fn : SemN} {m : SemL} {pos px py pz pt pt2 pl pl2 : Pos} {kt k2 : Nat} {x y z : Str} {i j l : Nat}
theorem Rel.setFro' {c0 : Gc} {g : G} {ρ : Env'} {σ : L2.St} {H : Hp} {j : Nat} {t : AV} {v : V} (R : Rel c0 β g ρ σ H) (r : RepG c0 g H t v) : ∃ g', Ext g g' H H ∧ Rel c0 β g' (ρ.set j (.fro t)) (σ.set j (some v)) H := by
  by_cases hj : j < ρ.length
  · exact ⟨_, ext_no g j H, R.setFro r hj⟩
  · rw [set_ge hj, set_over hj R]
    exact ⟨g, .refl g H, R⟩
theorem js_par (i j : Nat) (hc : X.calm = true) (hN : X.N.Nodup) (ha : JL X ct β Ex [a, b] m) (hi : X.N[i]? = some x := by rfl) (hj : X.N[j]? = some y := by rfl) (hij : i ≠ j := by decide) (hx : X.env.scope.names.lookup x = some .local := by rfl) (hy : X.env.scope.names.lookup y = some .local := by rfl)
    (hw : swappedStores [.Tuple [.Name x px, .Name y py] kt pt] (.Tuple [a, b] k2 pt2) X.env = pure (some [x, y]) := by rfl) (hs : swapsWithSole [.Tuple [.Name x px, .Name y py] kt pt] (.Tuple [a, b] k2 pt2) pos.line X.env = pure false := by rfl) :
    JS X ct β Ex (.Assign [.Tuple [.Name x px, .Name y py] kt pt] (.Tuple [a, b] k2 pt2) pos) (sPar i j m) := by
  refine PS.imp (ps_par hc hN hi hj hij hx hy ha hw hs) fun D σ H h => ?_
  obtain ⟨g, ρ, R, h⟩ := h
  refine ⟨g, ρ, R, okT_mono (okT_bind h) fun g1 H1 p e1 h1 vs R1 rv => ?_⟩
  obtain ⟨ts, ρ1⟩ := p
  match ts, rv, h1 with
  | [t, u], rv, h1 =>
    rw [RepsG, RepL] at rv
    obtain ⟨v, r1, rfl, rt, rv⟩ := rv
    rw [RepL] at rv
    obtain ⟨w, r2, rfl, ru, rv⟩ := rv
    rw [RepL] at rv
    subst rv
    refine ⟨v, w, rfl, ?_⟩
    obtain ⟨g2, e2, R2⟩ := R1.setFro' (j := i) rt
    obtain ⟨g3, e3, R3⟩ := R2.setFro' (j := j) (e2.rep ru)
    exact okT_ret' h1 (e2.trans e3) _ R3
  | [], _, h1 => exact (show False from h1).elim
  | [_], _, h1 => exact (show False from h1).elim
  | _ :: _ :: _ :: _, _, h1 => exact (show False from h1).elim
def Wants2 (X : Cx) (ct : CT) (β : BInv) (Ex : XK) (i j : Nat) (t : TA) (s : SSem) : Prop := ∀ (D : Ends) (σ : L2.St) (H : Hp), rdS (gc X ct) β Ex s D σ H → t σ H fun vs H1 => ∃ v w, vs = [v, w] ∧ ∀ H2, Same H1 H2 → D.nx ((σ.set i (some v)).set j (some w)) H2
end
end Dn
set_option Elab.async false
set_option linter.all false
set_option maxRecDepth 100000
namespace Dn
open PySem PySem.Spec PyProof.Rows L2
def sFldSet (j c i : Nat) (f : Sem) : SSem := fun ρ => (f ρ).bind fun p => (frz p).bind fun q => match q.2[j]? with
  | some (.slf c' fs) => if c' = c ∧ fs.length = i then .ret (.nx (q.2.set j (.slf c (fs ++ [q.1])))) else .bad
  | _ => .bad
section
variable {c0 : Gc} {β : BInv} {g : G} {H : Hp} {ρ : Env'} {σ : L2.St}
end
section
variable {X : Cx} {ct : CT} {β : BInv} {Ex : XK} {a b e : Expr} {es : List Expr} {f k : Sem} {m : SemL} {pos p p2 : Pos} {x n : Str} {j c i : Nat}
end
def outI (c nf : Nat) : Out → T AV
  | .nx ρ => match (ρ[0]? : Option Slot) with
    | some (Slot.slf c' fs) => if c' = c ∧ fs.length = nf then .ret (.ins c fs) else .bad
    | _ => .bad
  | _ => .bad
def fnInit (np n c nf : Nat) (body : SSem) : List AV → T AV := fun ts => if ts.length = np then (body (.slf c [] :: (ts.map Slot.fro ++ List.replicate (n - (np + 1)) .un))).bind (outI c nf) else .bad
def G.self (g : G) (a : Addr) : G := { g with own := fun i => if i = 0 then some a else none, S := some a }
def spI (c0 : Gc) (β : BInv) (n c : Nat) (fn : List AV → T AV) : Sp := fun vs H Q E => ∃ (g : G) (ts : List AV) (a C dx : Addr) (ws : List V), vs = .ref a :: ws ∧ H a = some (.ins C dx []) ∧ c0.mg (c0.ct c).1 = some (.ref C) ∧ (∀ i, g.own i = none) ∧ (∀ b, g.M b → H b ≠ none ∧ ∀ ws, H b ≠ some (.tup ws)) ∧ (∀ b, g.M b → ¬ g.B b) ∧ β.I g.B g.D H ∧ ¬ g.Av a ∧ RepsG c0 (g.plus a) H ts ws ∧ ts.length = n ∧
  okT c0 β E (g.self a) H (fn ts) fun g' H' t => ∀ g2 : G, g2 = { g' with own := fun i => if i = 0 then none else g'.own i } → β.I g'.B g'.D H' → RepG c0 g2 H' t (.ref a) → Q .non H'
section
variable {P : Program} {w : World} {K : PySem.W.Frag} {mg : Str → Option Value} {base : Heap} {ct : CT} {β : BInv}
end
end Dn
set_option Elab.async false
set_option linter.all false
set_option maxRecDepth 100000
namespace Dn
open PySem PySem.Spec PyProof.Rows L2
theorem passE0 {P : Program} {w : World} {X : Cx} : Passes (L2.CX P w) X E0 := fun _ _ _ _ _ _ _ h => by
  obtain ⟨_, _, _, _, _, _, _, _, _, _, _, _, z⟩ := h
  exact z.elim
structure Df (P : Program) (w : World) (K : PySem.W.Frag) (mg : Str → Option Value) (base : Heap) (ct : CT) (β : BInv) (lv : Nat) (x : Str) (n : Nat) (ps : List Str) (fn : List AV → T AV) : Prop where
  ex : ∃ fa fd, FnOk P w K mg base (L2.CX P w) lv fa fd ps (spM ⟨K, mg, ct⟩ β n fn) ∧ mg x = some (.ref fa) ∧ PySem.W.keepIn K (.ref fa) = true ∧ Binds K fd ps []
  len : ∀ ts : List AV, T.all (fun _ => True) (fun _ _ => True) (fn ts) → ts.length = n
section
variable {P : Program} {w : World} {K : PySem.W.Frag} {mg : Str → Option Value} {base : Heap} {ct : CT} {β : BInv} {lv n : Nat} {x : Str} {ps : List Str} {fn : List AV → T AV}
theorem imp0 {fa : Addr} {fd : FuncData} {sp sp' : Sp} (F : FnOk P w K mg base CX0 lv fa fd ps sp) (h : ∀ vs H Q E, sp' vs H Q E → sp vs H Q E0) : FnOk P w K mg base (L2.CX P w) lv fa fd ps sp' :=
  ⟨fun vs H Q E q => F.len vs H Q E0 (h _ _ _ _ q), fun A outer s H args us vs Q E hr e b v q => codeAny_mono (F.run A outer s H args us vs Q E0 hr e b v (h _ _ _ _ q)) fun r s' z => by
    cases r with
    | error e => exact (show False from z).elim
    | ok f => cases f <;> exact z⟩
theorem deft0 {c0 : Gc} : Deft c0 [] [] := fun _ _ => .nil
end
section
variable {X : Cx} {ct : CT} {β : BInv} {Ex : XK} {e : Expr} {es : List Expr} {m : SemL} {pos p : Pos} {x : Str} {lv n c : Nat} {ps : List Str} {fn : List AV → T AV}
theorem j_callD (D : Df X.prog X.w X.K X.mg X.base ct β lv x n ps fn) (hr : Room lv X.A) (hx : Passes (L2.CX X.prog X.w) X Ex) (ha : JL X ct β Ex (e :: es) m) (hg : Gl X x := by rfl) (hdb : (x == ("__debug__" : Str)) = false := by decide +kernel)
    (he : starEach (e :: es) X.env = (false, eval e X.env) :: starEach es X.env := by rfl) (hpl : (backTo pos (starEach es X.env)).any (·.1) = false := by rfl) : JE X ct β Ex (.Call (.Name x p) (e :: es) [] pos) (fCall fn [] m) := by
  obtain ⟨fa, fd, F, h1, h2, h3⟩ := D.ex
  exact j_call F D.len hr h1 h2 h3 .nil deft0 hx ha hg hdb he hpl
def fMake (fn : List AV → T AV) (k : SemL) : Sem := fun ρ => (k ρ).bind fun p => (fn p.1).bind fun t => .ret (.val t, p.2)
structure Cf (P : Program) (w : World) (K : PySem.W.Frag) (mg : Str → Option Value) (base : Heap) (ct : CT) (β : BInv) (lv : Nat) (x : Str) (c n : Nat) (ps : List Str) (fn : List AV → T AV) : Prop where
  ex : ∃ C fa fd, Mk K C fa ∧ FnOk P w K mg base (L2.CX P w) lv fa fd ps (spI ⟨K, mg, ct⟩ β n c fn) ∧ mg x = some (.ref C) ∧ Binds K fd ps []
  nm : (ct c).1 = x
  len : ∀ ts : List AV, T.all (fun _ => True) (fun _ _ => True) (fn ts) → ts.length = n
end
def sParE3 (i j l : Nat) (f : Sem) : SSem := fun ρ => (f ρ).bind fun p => (frz p).bind fun q => if i < q.2.length ∧ j < q.2.length ∧ l < q.2.length ∧ j ≠ l then .ret (.nx (((q.2.set i (.fro q.1)).set j (.ml [])).set l (.ml []))) else .bad
def Wants3 (X : Cx) (ct : CT) (β : BInv) (Ex : XK) (i j l : Nat) (t : TA) (s : SSem) : Prop := ∀ (D : Ends) (σ : L2.St) (H : Hp), rdS (gc X ct) β Ex s D σ H → t σ H fun vs H1 => ∃ u v w, vs = [u, v, w] ∧ ∀ H2, Same H1 H2 → D.nx (((σ.set i (some u)).set j (some v)).set l (some w)) H2
section
variable {X : Cx} {ct : CT} {β : BInv} {Ex : XK} {a b c : Expr} {f : Sem} {pos px py pz pt pt2 pl pl2 : Pos} {kt k2 : Nat} {x y z : Str} {i j l : Nat}
end
section
variable {X : Cx} {ct : CT} {β : BInv} {Ex : XK} {elt tg iter : Expr} {ifs : List Expr} {f : SemI} {k : GSem} {tt : SemB} {el : Sem} {pos spos py : Pos} {scope : Scope} {own : List (Str × Nat)} {is : List Nat} {i : Nat} {y : Str}
end
end Dn
set_option Elab.async false
set_option linter.all false
set_option maxRecDepth 100000
namespace Dn
open PySem PySem.Spec PyProof.Rows L2
abbrev NoX : Nat → List AV → Prop := fun _ _ => False
theorem bind_ret' {α γ : Type} {a : α} {f : α → T γ} : (T.ret a).bind f = f a := rfl
theorem lift_some {α : Type} {a : α} : lift (some a) = T.ret a := rfl
theorem forL_all {k : GSem} {body : SSem} {Q : Out → Prop} {E : Nat → List AV → Prop} (I : Nat → Env' → Prop) {xs : List AV} {ρ : Env'} (h0 : I 0 ρ)
    (step : ∀ (i : Nat) (x : AV) (ρ : Env'), xs[i]? = some x → I i ρ → (k x ρ).all (fun ρ1 => (body ρ1).all (fun o => match o with | .nx ρ' => I (i + 1) ρ' | .ct ρ' => I (i + 1) ρ' | .bk ρ' => Q (.nx ρ') | .rt t => Q (.rt t)) E) E)
    (hend : ∀ ρ, I xs.length ρ → Q (.nx ρ)) : (forL k body xs ρ).all Q E := by
  have key : ∀ (n i : Nat) (ρ : Env'), xs.length - i = n → i ≤ xs.length → I i ρ → (forL k body (xs.drop i) ρ).all Q E := by
    intro n
    induction n with
    | zero =>
      intro i ρ hn hi h
      have e : i = xs.length := by omega
      subst e
      rw [List.drop_length]
      exact hend ρ h
    | succ n ih =>
      intro i ρ hn hi h
      have hlt : i < xs.length := by omega
      rw [List.drop_eq_getElem_cons hlt]
      show ((k xs[i] ρ).bind _).all Q E
      refine T.all_bind.mpr (T.all_mono (step i xs[i] ρ (List.getElem?_eq_getElem hlt) h) (fun ρ1 h1 => ?_) fun _ _ z => z)
      refine T.all_bind.mpr (T.all_mono h1 (fun o h2 => ?_) fun _ _ z => z)
      cases o with
      | nx ρ' => exact ih (i + 1) ρ' (by omega) (by omega) h2
      | ct ρ' => exact ih (i + 1) ρ' (by omega) (by omega) h2
      | bk ρ' => exact h2
      | rt t => exact h2
  have := key xs.length 0 ρ rfl (Nat.zero_le _) h0
  rwa [List.drop_zero] at this
theorem backE_eq {ρ0 r : Env'} (vs : List Nat) (h : wipeE r vs = wipeE ρ0 vs) : backE ρ0 r vs = backE ρ0 ρ0 vs := by
  rw [← backE_wipe vs r, h, backE_wipe]
end Dn
set_option Elab.async false
set_option linter.all false
set_option maxRecDepth 100000
namespace Dn
open PySem PySem.Spec PyProof.Rows L2
def maxL (x : Int) (r : List Int) : Int := r.foldl max x
def minL (x : Int) (r : List Int) : Int := r.foldl min x
theorem maxL_spec : ∀ (r : List Int) (x : Int), maxL x r ∈ x :: r ∧ ∀ y ∈ x :: r, y ≤ maxL x r
  | [], x => by simp [maxL]
  | z :: r, x => by
    have h := maxL_spec r (max x z)
    have e : maxL x (z :: r) = maxL (max x z) r := rfl
    rw [e]
    refine ⟨?_, fun y hy => ?_⟩
    · rcases List.mem_cons.mp h.1 with q | q
      · rw [q]
        rcases Int.le_total x z with c | c
        · rw [Int.max_eq_right c]; simp
        · rw [Int.max_eq_left c]; simp
      · simp [q]
    · have h0 := h.2 (max x z) (by simp)
      rcases List.mem_cons.mp hy with q | q
      · subst q; omega
      · rcases List.mem_cons.mp q with q | q
        · subst q; omega
        · exact h.2 y (by simp [q])
def pMax1 (a : AV) : Option AV := match a with
  | .lst xs => match intsOf xs with
    | some (x :: r) => some (.int (maxL x r))
    | _ => none
  | _ => none
def pMin1 (a : AV) : Option AV := match a with
  | .lst xs => match intsOf xs with
    | some (x :: r) => some (.int (minL x r))
    | _ => none
  | _ => none
def pLcm (a b : AV) : Option AV := match a, b with
  | .int i, .int j => if 0 ≤ i ∧ below i 63 = true ∧ 0 ≤ j ∧ below j 63 = true then some (.int ((Nat.lcm i.natAbs j.natAbs : Nat) : Int)) else none
  | _, _ => none
section
variable {X : Cx} {ct : CT} {β : BInv} {Ex : XK} {a b e tg : Expr} {f k : Sem} {pos p p2 apos tpos : Pos} {x : Str} {id : String}
theorem o_max1 : Op1' X ct (fun x H Q => rMax X.K [x] H Q) pMax1 := by
  intro g H a z x Q live ra e q
  cases a with
  | lst xs =>
    cases e1 : intsOf xs with
    | none => simp [pMax1, e1] at e
    | some ns =>
      cases ns with
      | nil => simp [pMax1, e1] at e
      | cons n r =>
        simp [pMax1, e1] at e
        subst e
        rw [intsOf_eq e1] at ra
        obtain ⟨p, vs, rfl, h1, r1⟩ := ra.lst
        rw [reps_ints r1] at h1
        refine ⟨p, n :: r, rfl, h1, by simp, fun m hm hy => ?_⟩
        have s := maxL_spec r n
        have e2 : m = maxL n r := Int.le_antisymm (s.2 m hm) (hy _ s.1)
        rw [e2]
        exact q _ H (Same.refl H) rep_int
  | _ => cases e
end
theorem reps_flat {c0 : Gc} {A D : Addr → Prop} {H : Hp} {xs : List AV} {vs : List V} (r : RepL c0 A D H xs vs) : ∀ k : Nat, RepL c0 A D H (List.replicate k xs).flatten (List.replicate k vs).flatten
  | 0 => .nil
  | k + 1 => by
    rw [List.replicate_succ, List.replicate_succ, List.flatten_cons, List.flatten_cons]
    exact r.append (reps_flat r k)
abbrev rMulA (K : PySem.W.Frag) : R2 := fun x y H Q => ((rI CMulX fun i j => .int (i * j)) x y H Q ∨ rRep x y H Q) ∨ rRepT K x y H Q
section
variable {X : Cx} {ct : CT} {β : BInv} {Ex : XK}
theorem op_mulA : OpR X (binaryOp .Mult) (rMulA X.K) := (op_mulX.or op_rep).or op_repT
theorem o_mul : Op2' X ct (rMulA X.K) pMul := by
  intro g H a b z x y Q live ra rb e q
  cases a <;> cases b <;> first | (simp [pMul] at e; done) | skip
  · obtain ⟨h, rfl⟩ := ifp_some e
    refine .inl (.inl ⟨_, _, ra.int, rb.int, mulx_ok Nat.lt_log2_self Nat.lt_log2_self (by omega), q _ H (Same.refl H) rep_int⟩)
  · rename_i xs i
    obtain ⟨h, rfl⟩ := ifp_some e
    obtain ⟨a', vs, rfl, h1, r1⟩ := ra.tup
    refine .inr ⟨a', _, vs, rfl, rb.int, h1, fun z => ?_, h.2.1, h.2.2.1, by rw [r1.length]; exact h.2.2.2, fun p hp => ?_⟩
    · have := reps_nil r1 z
      rw [this] at h
      exact absurd h.1 (by simp)
    · have s := same_upd (o := .tup (List.replicate i.toNat vs).flatten) hp
      exact q _ _ s (rep_tup_new (fun z => live p z hp) upd_same ((Ext.same s).reps (reps_flat r1 _)))
  · rename_i xs i
    obtain ⟨h, rfl⟩ := ifp_some e
    obtain ⟨a', vs, rfl, h1, r1⟩ := ra.lst'
    refine .inl (.inr ⟨a', _, vs, rfl, rb.int, h1, by omega, by omega, by rw [r1.length]; exact Nat.le_trans h.2.1 big_line, fun p hp => ?_⟩)
    have s := same_upd (o := .lst (List.replicate i.toNat vs).flatten) hp
    exact q _ _ s (rep_lst_new (fun z => live p z hp) upd_same ((Ext.same s).reps (reps_flat r1 _)))
end
def DR (c0 : Gc) (A D : Addr → Prop) (H : Hp) : List (AV × AV) → List (Key × V) → Prop := Paired fun a u => keyOf1 a.1 = some u.1 ∧ Rep c0 A D H a.2 u.2
def dFind (kvs : List (AV × AV)) (k : Key) : Option AV := (kvs.find? fun q => decide (keyOf1 q.1 = some k)).map (·.2)
def dPut (kvs : List (AV × AV)) (ka : AV) (k : Key) (v : AV) : List (AV × AV) :=
  if (kvs.any fun q => decide (keyOf1 q.1 = some k)) = true then kvs.map (fun q => if keyOf1 q.1 = some k then (q.1, v) else q) else kvs ++ [(ka, v)]
def dDrop (kvs : List (AV × AV)) (k : Key) : List (AV × AV) := kvs.filter fun q => decide (keyOf1 q.1 ≠ some k)
section
variable {c0 : Gc} {A D A' D' : Addr → Prop} {H H' : Hp}
theorem dr_of : ∀ {kvs : List (AV × AV)} {ws : List (AV × V)} {us : List (Key × V)}, KVs c0 A D H kvs ws → DicK ws us → DR c0 A D H kvs us
  | [], ws, us, h, h' => by
    have e : ws = [] := h
    subst e
    cases h'
    exact .nil
  | (ka, xa) :: r, ws, us, h, h' => by
    obtain ⟨v, ws', e, h1, h2⟩ := h
    subst e
    cases h' with
    | cons q t =>
      refine .cons ⟨q.1, ?_⟩ (dr_of h2 t)
      have e2 := q.2
      rw [← e2]
      exact h1
theorem of_dr : ∀ {kvs : List (AV × AV)} {us : List (Key × V)}, DR c0 A D H kvs us → ∃ ws, KVs c0 A D H kvs ws ∧ DicK ws us
  | [], us, h => by
    cases h
    exact ⟨[], rfl, .nil⟩
  | (ka, xa) :: r, us, h => by
    cases h with
    | @cons _ u _ us' q t =>
      obtain ⟨ws, h1, h2⟩ := of_dr t
      exact ⟨(ka, u.2) :: ws, ⟨u.2, ws, rfl, q.2, h1⟩, .cons ⟨q.1, rfl⟩ h2⟩
theorem DR.length {kvs : List (AV × AV)} {us : List (Key × V)} (h : DR c0 A D H kvs us) : kvs.length = us.length := Paired.length h
theorem DR.val {kvs : List (AV × AV)} {us : List (Key × V)} (r : DR c0 A D H kvs us) (k : Key) : (dFind kvs k = none ∧ valV us k = none) ∨ ∃ t v, dFind kvs k = some t ∧ valV us k = some v ∧ Rep c0 A D H t v := by
  unfold DR at r
  induction r with
  | nil => exact .inl ⟨rfl, rfl⟩
  | @cons q u ps us h t ih =>
    by_cases e : u.1 = k
    · refine .inr ⟨q.2, u.2, ?_, valV_pos e, h.2⟩
      unfold dFind
      rw [List.find?_cons, show decide (keyOf1 q.1 = some k) = true from decide_eq_true (by rw [h.1, e])]
      rfl
    · have e2 : dFind (q :: ps) k = dFind ps k := by
        unfold dFind
        rw [List.find?_cons, show decide (keyOf1 q.1 = some k) = false from decide_eq_false (by rw [h.1]; exact fun z => e (Option.some.inj z))]
      rw [e2, valV_neg e]
      exact ih
theorem dAny (k : Key) : ∀ kvs : List (AV × AV), (kvs.any fun q => decide (keyOf1 q.1 = some k)) = (dFind kvs k).isSome
  | [] => rfl
  | q :: r => by
    unfold dFind
    rw [List.any_cons, List.find?_cons]
    by_cases e : keyOf1 q.1 = some k
    · rw [show decide (keyOf1 q.1 = some k) = true from decide_eq_true e]; rfl
    · rw [show decide (keyOf1 q.1 = some k) = false from decide_eq_false e, Bool.false_or]; exact dAny k r
theorem DR.put {kvs : List (AV × AV)} {us : List (Key × V)} {ka va : AV} {k : Key} {v : V} (r : DR c0 A D H kvs us) (hk : keyOf1 ka = some k) (rv : Rep c0 A D H va v) : DR c0 A D H (dPut kvs ka k va) (putK us k v) := by
  have e : (kvs.any fun q => decide (keyOf1 q.1 = some k)) = (us.any fun u => decide (u.1 = k)) := by
    rw [dAny, valV_any]
    rcases r.val k with ⟨h1, h2⟩ | ⟨t, w, h1, h2, _⟩
    · rw [h1, h2]; rfl
    · rw [h1, h2]; rfl
  unfold dPut putK
  rw [e]
  by_cases q : (us.any fun u => decide (u.1 = k)) = true
  · rw [if_pos q, if_pos q]
    clear q e
    unfold DR at r ⊢
    induction r with
    | nil => exact .nil
    | @cons q u ps us h t ih =>
      rw [List.map_cons, List.map_cons]
      refine .cons ?_ ih
      by_cases e : u.1 = k
      · rw [if_pos e, if_pos (by rw [h.1, e])]; exact ⟨h.1, rv⟩
      · rw [if_neg e, if_neg (by rw [h.1]; exact fun z => e (Option.some.inj z))]; exact h
  · rw [if_neg q, if_neg q]
    exact Paired.snoc r ⟨hk, rv⟩
theorem DR.drop {kvs : List (AV × AV)} {us : List (Key × V)} (k : Key) (r : DR c0 A D H kvs us) : DR c0 A D H (dDrop kvs k) (dropK us k) := by
  unfold DR at r ⊢
  unfold dDrop dropK
  induction r with
  | nil => exact .nil
  | @cons q u ps us h t ih =>
    rw [List.filter_cons, List.filter_cons]
    by_cases e : u.1 = k
    · rw [if_neg (show ¬ decide (keyOf1 q.1 ≠ some k) = true by simp [h.1, e]), if_neg (show ¬ decide (u.1 ≠ k) = true by simp [e])]
      exact ih
    · rw [if_pos (show decide (keyOf1 q.1 ≠ some k) = true by simp [h.1, e]), if_pos (show decide (u.1 ≠ k) = true by simp [e])]
      exact .cons h ih
theorem rep_key {g : G} {t : AV} {k : Key} (h : keyOf1 t = some k) : RepG c0 g H t (kV k) := by
  cases t with
  | int i => cases h; exact rep_int
  | str s => cases h; exact rep_str
  | _ => cases h
theorem key_rep {g : G} {t : AV} {k : Key} {v : V} (h : keyOf1 t = some k) (r : RepR c0 g H t v) : v = kV k := by
  cases t with
  | int i => cases h; exact r.int
  | str s => cases h; exact r.str
  | _ => cases h
theorem DR.keys {g : G} {kvs : List (AV × AV)} {us : List (Key × V)} (r : DR c0 A D H kvs us) : RepsG c0 g H' (kvs.map (·.1)) (us.map fun u => kV u.1) := by
  unfold DR at r
  induction r with
  | nil => exact .nil
  | cons h t ih => exact .cons (rep_key h.1) ih
end
def isMd (ρ : Env') (j : Nat) : Option (List (AV × AV)) := match ρ[j]? with
  | some (.md true kvs) => some kvs
  | _ => none
theorem isMd_eq {ρ : Env'} {j : Nat} {kvs : List (AV × AV)} (h : isMd ρ j = some kvs) : ρ[j]? = some (.md true kvs) := by
  unfold isMd at h
  split at h
  · rename_i q e
    cases h
    exact e
  · cases h
section
variable {c0 : Gc} {β : BInv} {g : G} {H : Hp} {ρ : Env'} {σ : L2.St} {a : Addr}
theorem Rel.md {j : Nat} {kvs : List (AV × AV)} (R : Rel c0 β g ρ σ H) (h : ρ[j]? = some (.md true kvs)) : ∃ p us, g.own j = some p ∧ σ[j]? = some (some (.ref p)) ∧ H p = some (.dK us) ∧ DR c0 g.Av g.D H kvs us := by
  obtain ⟨p, ws, e1, e2, e3, e4⟩ := R.sl j _ h
  rcases e4 with ⟨us, e4, e5, _⟩ | ⟨_, _, _, e⟩
  · exact ⟨p, us, e1, e2, e4, dr_of e3 e5⟩
  · cases e
theorem DR.ext {g' : G} {H' : Hp} {kvs : List (AV × AV)} {us : List (Key × V)} (e : Ext g g' H H') (r : DR c0 g.Av g.D H kvs us) : DR c0 g'.Av g'.D H' kvs us := Paired.mapP r fun _ _ q => ⟨q.1, q.2.imp (fun _ _ q n => e.av q n) e.dsub⟩
theorem Rel.updD {j : Nat} {p : Addr} {kvs : List (AV × AV)} {us : List (Key × V)} (R : Rel c0 β g ρ σ H) (hj : j < ρ.length) (ho : g.own j = some p) (hσ : σ[j]? = some (some (.ref p))) (r : DR c0 g.Av g.D H kvs us) : Rel c0 β g (ρ.set j (.md true kvs)) σ (L2.upd H p (.dK us)) := by
  have e : Ext g g H (L2.upd H p (.dK us)) := ext_upd ho
  refine R.put e rfl (fun _ _ => rfl) hj (fun _ _ => rfl) (fun i a o hi h1 h2 => ?_) ?_ ?_ fun a h => ?_
  · rw [upd_ne (fun z => hi (R.inj i j a h1 (by rw [z]; exact ho)))]
    exact h2
  · refine β.frame R.box fun a h => ?_
    rw [upd_ne (fun z => (R.sep j p ho).2 (by rw [← z]; exact h))]
  · obtain ⟨ws, h1, h2⟩ := of_dr (r.ext e)
    exact ⟨p, ws, ho, hσ, h1, .inl ⟨us, upd_same, h2, rfl⟩⟩
  · rw [ho] at h
    cases h
    exact ⟨(R.sep j p ho).1, (R.sep j p ho).2, fun i hi h => hi (R.inj i j p h ho)⟩
theorem Rel.takeD {j : Nat} (R : Rel c0 β (g.plus a) ρ σ H) (hj : j < ρ.length) (ho : H a = some (.dK [])) (na : ¬ g.Av a) : Rel c0 β (g.own1 j a) (ρ.set j (.md true [])) (σ.set j (some (.ref a))) H where
  len := by rw [List.length_set, List.length_set]; exact R.len
  sl := fun i s hs => by
    by_cases hi : i = j
    · subst hi
      rw [List.getElem?_set_self hj] at hs
      cases hs
      rw [own1_same, List.getElem?_set_self (by rw [R.len]; exact hj)]
      exact ⟨a, [], rfl, rfl, rfl, .inl ⟨[], ho, .nil, rfl⟩⟩
    · rw [List.getElem?_set_ne (Ne.symm hi)] at hs
      rw [own1_ne hi, List.getElem?_set_ne (Ne.symm hi)]
      exact slot_weak (fun b h => own1_av h) rfl rfl (R.sl i s hs)
  out := fun i hi => by
    rw [List.length_set] at hi
    rw [own1_ne (by omega)]
    exact R.out i hi
  inj := fun i k b h1 h2 => by
    have nobody : ∀ i, (g.plus a).own i ≠ some a := fun i h => na (.inr (.inl ⟨i, h⟩))
    by_cases hi : i = j
    · by_cases hk : k = j
      · rw [hi, hk]
      · subst hi
        rw [own1_same] at h1
        cases h1
        rw [own1_ne hk] at h2
        exact absurd h2 (nobody k)
    · by_cases hk : k = j
      · subst hk
        rw [own1_same] at h2
        cases h2
        rw [own1_ne hi] at h1
        exact absurd h1 (nobody i)
      · rw [own1_ne hi] at h1
        rw [own1_ne hk] at h2
        exact R.inj i k b h1 h2
  alive := fun b h => R.alive b (.inl h)
  nt := fun b h => R.nt b (.inl h)
  sep := fun i b h => by
    by_cases hi : i = j
    · subst hi
      rw [own1_same] at h
      cases h
      exact ⟨fun z => na (.inl z), fun z => na (.inr (.inr z))⟩
    · rw [own1_ne hi] at h
      exact ⟨fun z => (R.sep i b h).1 (.inl z), (R.sep i b h).2⟩
  mb := fun b h => R.mb b (.inl h)
  box := R.box
end
def nAdd (f k : Sem) : SemN := fun ρ => (f ρ).bind fun p => (k p.2).bind fun q => (lift (rs p.1 q.2)).bind fun a => (lift (lstOf a)).bind fun xs => (lift (rs q.1 q.2)).bind fun b => (lift (lstOf b)).bind fun ys => if xs.length + ys.length ≤ big then .ret (xs ++ ys, q.2) else .bad
section
variable {X : Cx} {ct : CT} {β : BInv} {Ex : XK} {a b : Expr} {f k : Sem} {pos : Pos}
end
def sDnew (i : Nat) : SSem := fun ρ => .ret (.nx (ρ.set i (.md true [])))
def tDin (j : Nat) (f : Sem) : SemB := fun ρ => (f ρ).bind fun p => (lift (rs p.1 p.2)).bind fun a => (lift (keyOf1 a)).bind fun k => (lift (isMd p.2 j)).bind fun kvs => .ret ((dFind kvs k).isSome, p.2)
def tDnotIn (j : Nat) (f : Sem) : SemB := fun ρ => (f ρ).bind fun p => (lift (rs p.1 p.2)).bind fun a => (lift (keyOf1 a)).bind fun k => (lift (isMd p.2 j)).bind fun kvs => .ret (!(dFind kvs k).isSome, p.2)
def sDput (j : Nat) (fk fv : Sem) : SSem := fun ρ => (fv ρ).bind fun p => (frz p).bind fun q => (lift (isMd q.2 j)).bind fun _ => (fk q.2).bind fun r => (lift (rs r.1 r.2)).bind fun a => (lift (keyOf1 a)).bind fun k => (lift (isMd r.2 j)).bind fun kvs =>
  if kvs.length < big then .ret (.nx (r.2.set j (.md true (dPut kvs a k q.1)))) else .bad
def fDget (j : Nat) (fk : Sem) : Sem := fun ρ => (lift (isMd ρ j)).bind fun _ => (fk ρ).bind fun r => (lift (rs r.1 r.2)).bind fun a => (lift (keyOf1 a)).bind fun k => (lift (isMd r.2 j)).bind fun kvs => (lift (dFind kvs k)).bind fun v => .ret (.val v, r.2)
def sDdel (j : Nat) (fk : Sem) : SSem := fun ρ => (lift (isMd ρ j)).bind fun _ => (fk ρ).bind fun r => (lift (rs r.1 r.2)).bind fun a => (lift (keyOf1 a)).bind fun k => (lift (isMd r.2 j)).bind fun kvs => (lift (dFind kvs k)).bind fun _ => .ret (.nx (r.2.set j (.md true (dDrop kvs k))))
def fDlist (j : Nat) : Sem := fun ρ => (lift (isMd ρ j)).bind fun kvs => .ret (.val (.lst (kvs.map (·.1))), ρ)
section
variable {X : Cx} {ct : CT} {β : BInv} {Ex : XK} {a b e tg value : Expr} {f k fk fv : Sem} {pos pos' p p2 apos tpos : Pos} {x : Str} {id : String}
theorem js_dnew (i : Nat) (hN : X.N.Nodup) (hi : X.N[i]? = some x := by rfl) (hx : Loc X.env.scope x := by first | exact Or.inl rfl | exact Or.inr rfl) (hs : swapsWith (.Dict [] [] p2) (some (.Name x p)) pos.line X.env = pure false := by rfl)
    (hf : X.fn x = true ∨ X.env.scope.names.lookup x = some .local := by first | exact .inl rfl | exact .inr rfl) : JS X ct β Ex (.Assign [.Name x p] (.Dict [] [] p2) pos) (sDnew i) := by
  refine PS.imp (ps_set hN hi hx pe_dnewK hs hf) fun D σ H h => ?_
  obtain ⟨g, ρ, R, h⟩ := h
  intro l hl
  show D.nx (σ.set i (some (.ref l))) _
  have s := same_upd (o := .dK []) hl
  have R2 : Rel (gc X ct) β (g.plus l) ρ σ (L2.upd H l (.dK [])) := R.plus s hl (by rw [upd_same]; exact fun z => by cases z)
  by_cases hj : i < ρ.length
  · exact okT_ret' h (ext_own1 (Ext.same s) hl) _ (R2.takeD hj upd_same (R.freshAv hl))
  · have q2 := okT_ret' h (Ext.same s)
    rw [set_ge hj] at q2
    have : σ.set i (some (V.ref l)) = σ := List.set_eq_of_length_le (by rw [R.len]; omega)
    rw [this]
    exact q2 σ (R.same s)
theorem jt_din (j : Nat) (hu : X.A.units + 1 < cLine) (ha : JE X ct β Ex a f) (hv : PE X (.Name x p) (tVar j)) (h1 : behindInMarks .In (.Name x p) = false := by rfl) : JT X ct β Ex (.Compare a [.In] [.Name x p] pos) (tDin j f) := by
  refine PT.imp (pt_cmp (pc_din hu ha hv) h1) fun σ H Q h => ?_
  obtain ⟨g, ρ, R, h⟩ := h
  refine ⟨g, ρ, R, okT_mono (okT_bind h) fun g1 H1 q e1 h1 v R1 rv => ?_⟩
  obtain ⟨u, eu, h2⟩ := okT_lift h1
  obtain ⟨kk, ek, h3⟩ := okT_lift h2
  obtain ⟨kvs, em, h4⟩ := okT_lift h3
  obtain ⟨d, us, _, hσ, hd, r⟩ := R1.md (isMd_eq em)
  have ev := key_rep ek (rv.rs R1 eu)
  subst ev
  refine ⟨_, hσ, d, valV us kk, rfl, .k hd, (valV us kk).isSome, rfl, ?_⟩
  have e3 : (dFind kvs kk).isSome = (valV us kk).isSome := by
    rcases r.val kk with ⟨h1, h2⟩ | ⟨_, _, h1, h2, _⟩ <;> rw [h1, h2] <;> rfl
  rw [← e3]
  exact okT_ret h4 R1
theorem js_dput (j : Nat) (hu : X.A.units + 1 < cLine) (hv : PE X (.Name x p) (tVar j)) (hk : JE X ct β Ex a fk) (he : JE X ct β Ex value fv) (hs : swapsWith value (some (.Subscript (.Name x p) a pos')) pos.line X.env = pure false := by rfl) :
    JS X ct β Ex (.Assign [.Subscript (.Name x p) a pos'] value pos) (sDput j fk fv) := by
  refine PS.imp (ps_dput hu hv hk he hs) fun D σ H h => ?_
  obtain ⟨g, ρ, R, h⟩ := h
  refine ⟨g, ρ, R, okT_mono (okT_bind h) fun g1 H1 q e1 h1 v R1 rv => ?_⟩
  obtain ⟨g2, s, e2, R2, rs, h2⟩ := frz_ok R1 rv h1
  obtain ⟨kvs0, em0, h3⟩ := okT_lift h2
  obtain ⟨d, us0, _, hσ, hd0, _⟩ := R2.md (isMd_eq em0)
  refine ⟨.ref d, hσ, g2, s.2, R2, okT_mono (okT_bind h3) fun g3 H3 r e3 h4 y R3 ry => ?_⟩
  obtain ⟨u, eu, h5⟩ := okT_lift h4
  obtain ⟨kk, ek, h6⟩ := okT_lift h5
  obtain ⟨kvs, em, h7⟩ := okT_lift h6
  obtain ⟨d', us, ho, hσ', hd, rd⟩ := R3.md (isMd_eq em)
  rw [hσ] at hσ'
  cases hσ'
  have ev := key_rep ek (ry.rs R3 eu)
  subst ev
  by_cases hl : kvs.length < big
  · rw [if_pos hl] at h7
    refine ⟨d, _, rfl, .k hd (by rw [← rd.length]; exact Nat.lt_of_lt_of_le hl big_line), ?_⟩
    exact okT_ret' h7 (ext_upd ho) σ (R3.updD (lt_of_ml (isMd_eq em)) ho hσ (rd.put ek (e3.rep rs)))
  · rw [if_neg hl] at h7
    exact (show False from h7).elim
theorem j_dlist (j : Nat) (hc : X.calm = true) (hg : Gl X "list") (hm : X.mg "list" = none) (hv : PE X (.Name x p) (tVar j)) (he : starEach [.Name x p] X.env = (false, eval (.Name x p) X.env) :: starEach [] X.env := by rfl) : JE X ct β Ex (.Call (.Name "list" p2) [.Name x p] [] pos) (fDlist j) := by
  refine PE.imp (pe_callTy (call_list_dK hc) hg hm (by decide +kernel) (pa_cons hv pa_nil he) (by decide +kernel) (by decide +kernel) he) fun σ H Q h => ?_
  obtain ⟨g, ρ, R, h⟩ := h
  obtain ⟨kvs, em, h3⟩ := okT_lift h
  obtain ⟨d, us, _, hσ, hd, r⟩ := R.md (isMd_eq em)
  refine ⟨.ref d, hσ, d, us, rfl, hd, fun l hl => ?_⟩
  have s := same_upd (o := .lst (us.map fun kv => kV kv.1)) hl
  exact okT_ret' h3 (Ext.same s) _ (R.same s) (show RepG (gc X ct) g _ _ (.ref l) from rep_lst_new (R.freshAv hl) upd_same r.keys)
end
section
variable {X : Cx} {ct : CT} {β : BInv} {Ex : XK} {a b e tg value : Expr} {f k fk fv : Sem} {pos pos' p p2 apos tpos : Pos} {x : Str} {id : String}
def rLcm : List V → Hp → VK → Prop := fun vs H Q => ∃ a b : Int, vs = [.int a, .int b] ∧ (0 ≤ a ∧ a < 2 ^ 63) ∧ (0 ≤ b ∧ b < 2 ^ 63) ∧ Q (.int ((Nat.lcm a.natAbs b.natAbs : Nat) : Int)) H
theorem lcm_small {a b : Nat} (ha : a < 2 ^ 63) (hb : b < 2 ^ 63) : (Nat.lcm a b).log2 < bitsLine := by
  have h1 : Nat.lcm a b ≤ a * b := by
    rcases Nat.eq_zero_or_pos a with e | e
    · subst e; simp
    · rcases Nat.eq_zero_or_pos b with e2 | e2
      · subst e2; simp
      · exact Nat.le_of_dvd (Nat.mul_pos e e2) (Nat.lcm_dvd (Nat.dvd_mul_right a b) (Nat.dvd_mul_left b a))
  have h2 : a * b < 2 ^ 126 := by
    have : a * b < 2 ^ 63 * 2 ^ 63 := Nat.mul_lt_mul'' ha hb
    have e : (2 : Nat) ^ 63 * 2 ^ 63 = 2 ^ 126 := by decide
    omega
  have h3 : (126 : Nat) ≤ bitsLine := by decide +kernel
  by_cases hz : Nat.lcm a b = 0
  · rw [hz]
    have : Nat.log2 0 = 0 := by decide
    omega
  · have := (Nat.log2_lt hz (k := 126)).mpr (by omega)
    omega
theorem cr_lcm : CallR X (.builtin "math.lcm") rLcm := by
  intro pins s σ H vs us Q I r h
  obtain ⟨a, b, rfl, ⟨a0, a1⟩, ⟨b0, b1⟩, q⟩ := h
  obtain ⟨t, u, rfl⟩ := Vals.int2 r
  have e : ((Nat.lcm 1 a.natAbs).lcm b.natAbs : Nat) = Nat.lcm a.natAbs b.natAbs := by simp
  refine PySem.W.mg_lcm_v (c := ((Nat.lcm a.natAbs b.natAbs : Nat) : Int)) (by omega) (by omega) (by rw [e]) ?_ ⟨.int _, H, I.tok _, ⟨_, rfl⟩, q⟩
  rw [Int.natAbs_natCast]
  exact lcm_small (by omega) (by omega)
theorem o_lcm : Op2' X ct (fun x y H Q => rLcm [x, y] H Q) pLcm := by
  intro g H a b z x y Q live ra rb e q
  cases a with
  | int i =>
    cases b with
    | int j =>
      obtain ⟨h, rfl⟩ := ifp_some (show (if 0 ≤ i ∧ below i 63 = true ∧ 0 ≤ j ∧ below j 63 = true then some (AV.int ((Nat.lcm i.natAbs j.natAbs : Nat) : Int)) else none) = some z from e)
      exact ⟨i, j, by rw [ra.int, rb.int], ⟨h.1, by have := below_iff.mp h.2.1; omega⟩, ⟨h.2.2.1, by have := below_iff.mp h.2.2.2; omega⟩, q _ H (Same.refl H) rep_int⟩
    | _ => cases e
  | _ => cases e
theorem j_callFun2 {r : List V → Hp → VK → Prop} {o : AV → AV → Option AV} (hc : CallR X (.builtin id) r) (hop : Op2' X ct (fun x y H Q => r [x, y] H Q) o) (hg : Gl X x) (hm : X.mg x = some (.builtin id)) (ha : JE X ct β Ex a f) (hb : JE X ct β Ex b k)
    (hdb : (x == ("__debug__" : Str)) = false := by decide +kernel) (he : starEach [a, b] X.env = (false, eval a X.env) :: starEach [b] X.env := by rfl) (he2 : starEach [b] X.env = (false, eval b X.env) :: starEach [] X.env := by rfl)
    (hpl : (backTo pos (starEach [b] X.env)).any (·.1) = false := by rfl) : JE X ct β Ex (.Call (.Name x p) [a, b] [] pos) (fBin o f k) := by
  refine PE.imp (pe_callBfun hc hg hm (pa_cons ha (pa_cons hb pa_nil he2) he) hdb he hpl) fun σ H Q h => ?_
  exact fBin_ok' hop h
end
def enumL : Nat → List AV → List AV
  | _, [] => []
  | i, x :: xs => .tup [.int (i : Nat), x] :: enumL (i + 1) xs
theorem enumL_length : ∀ (i : Nat) (xs : List AV), (enumL i xs).length = xs.length
  | _, [] => rfl
  | i, _ :: xs => by rw [enumL, List.length_cons, List.length_cons, enumL_length]
theorem enumL_get : ∀ (xs : List AV) (i j : Nat) (t : AV), (enumL i xs)[j]? = some t → ∃ x, xs[j]? = some x ∧ t = .tup [.int ((i + j : Nat) : Int), x]
  | [], i, j, t, h => by simp [enumL] at h
  | x :: xs, i, 0, t, h => by
    rw [enumL, List.getElem?_cons_zero] at h
    cases h
    exact ⟨x, rfl, rfl⟩
  | x :: xs, i, j + 1, t, h => by
    rw [enumL, List.getElem?_cons_succ] at h
    obtain ⟨y, e1, e2⟩ := enumL_get xs (i + 1) j t h
    exact ⟨y, by simpa using e1, by rw [e2, show i + 1 + j = i + (j + 1) by omega]⟩
theorem wk_enum {c0 : Gc} {g : G} {H : Hp} {a : Addr} {xs : List AV} (h : RepG c0 g H (.lst xs) (.ref a)) : Wk c0 g H (Ite c0.K a) (enumL 0 xs) := by
  have at_ : ∀ (g' : G) (H' : Hp), Keeps c0 g g' H H' → ∃ vs, H' a = some (.lst vs) ∧ RepsG c0 g' H' xs vs := fun g' H' k => by
    have q := k _ _ h
    rw [RepG, Rep] at q
    obtain ⟨a', vs, e, ⟨na, ho⟩, r⟩ := q
    cases e
    exact ⟨vs, ho, r⟩
  refine ⟨fun g' H' i e hi => ?_, fun g' H' H2 i x v e lv hx hy => ?_, fun g' H' i e hi => ?_⟩
  · obtain ⟨vs, ho, r⟩ := at_ g' H' e
    rw [enumL_length] at hi
    exact ⟨vs, vs[i]'(by rw [r.length]; exact hi), .of ho, List.getElem?_eq_getElem _⟩
  · obtain ⟨T, y, rfl, hT, e1, hy⟩ := hy
    subst e1
    obtain ⟨vs, ho, r⟩ := at_ g' _ e
    obtain ⟨z, ez, rfl⟩ := enumL_get xs 0 i x hx
    obtain ⟨w, ew, rw'⟩ := r.get (hy vs (.of ho))
    rw [ez] at ew
    cases ew
    have s : Same H' (upd H' T (.tup [.int (i : Nat), y])) := same_upd hT
    refine ⟨s, rep_tup_new (fun z => lv T z hT) upd_same (.cons ?_ (.one ((Ext.same s).rep rw')))⟩
    rw [Nat.zero_add]
    exact rep_int
  · obtain ⟨vs, ho, r⟩ := at_ g' H' e
    rw [enumL_length] at hi
    exact ⟨vs, .of ho, by rw [r.length]; exact hi⟩
def iEnumL (f : Sem) : SemI := fun ρ => (f ρ).bind fun p => (frz p).bind fun q => (lift (lstOf q.1)).bind fun xs => .ret (enumL 0 xs, q.2)
section
variable {X : Cx} {ct : CT} {β : BInv} {Ex : XK} {e : Expr} {f : Sem} {p pos tpos : Pos} {elts : List Expr} {kk : Nat}
end
end Dn
namespace Dn
open PySem PySem.Spec PyProof.Rows L2
section
variable {X : Cx} {ct : CT} {β : BInv} {Ex : XK} {e : Expr} {es : List Expr} {m : SemL} {pos p : Pos} {x : Str} {lv n c : Nat} {ps : List Str} {fn : List AV → T AV}
end
def g0 : G := ⟨fun _ => False, fun _ => none, fun _ => False, fun _ => False, none⟩
def spLaw (K : PySem.W.Frag) : Sp := fun vs H Q _ => ∃ (a : Addr) (ns : List Int), vs = [.ref a] ∧ SqL K H a (ns.map V.int) ∧ ns.length ≤ 63 ∧ ∀ H', Q (.bl true) H'
end Dn
namespace Dn
open PySem PySem.Spec PyProof.Rows L2
def isTrue : T AV → Bool
  | .ret (.bl b) => b
  | _ => false
end Dn
namespace Dn
open PySem PySem.Spec PyProof.Rows L2
theorem cx_none {P : Program} (w : World) (H : Hp) (s : Shared) (e : Value) (s' : Shared) (h : L2.CX P w [] H s (fun _ _ _ => False) e s') : False := by
  obtain ⟨_, _, _, _, _, _, _, _, _, _, _, _, z⟩ := h
  exact z
end Dn
set_option Elab.async false
set_option linter.all false
set_option maxRecDepth 100000
namespace Dn
open PySem PySem.Spec PyProof.Rows L2
def BoxI (ok : List V → Prop) : BInv where
  I := fun B D H => (∀ a, B a → ∃ vs, H a = some (.lst vs) ∧ ok vs) ∧ ∀ a, D a → B a
  live := fun h b => by
    obtain ⟨vs, e, _⟩ := h.1 _ b
    rw [e]
    exact fun z => by cases z
  nt := fun h b ws z => by
    obtain ⟨vs, e, _⟩ := h.1 _ b
    rw [e] at z
    cases z
  top := fun h d => h.2 _ d
  frame := fun h k => ⟨fun a b => by
    obtain ⟨vs, e, q⟩ := h.1 a b
    exact ⟨vs, by rw [k a b]; exact e, q⟩, h.2⟩
def sRetBox (test : List AV → Bool) (f : SemN) : SSem := fun ρ => (f ρ).bind fun p => if test p.1 then .ret (.rt .box) else .bad
section
variable {X : Cx} {ct : CT} {ok : List V → Prop} {Ex : XK} {a : Expr} {f : SemN} {pos : Pos} {test : List AV → Bool}
theorem js_retBox (ht : ∀ {c0 : Gc} {A D : Addr → Prop} {H : Hp} {xs : List AV} {vs : List V}, test xs = true → RepL c0 A D H xs vs → ok vs) (ha : JN X ct (BoxI ok) Ex a f) : JS X ct (BoxI ok) Ex (.Return (some a) pos) (sRetBox test f) := by
  refine PS.imp (ps_ret ha) fun D σ H h => ?_
  obtain ⟨g, ρ, R, h⟩ := h
  refine ⟨g, ρ, R, okT_bind0 h fun p q g' H' e d vs hn na ho R' r => ?_⟩
  by_cases hp : test p.1 = true
  · rw [if_pos hp] at q
    have e2 : Ext g { g' with B := fun b => g'.B b ∨ b = d, D := fun b => g'.D b ∨ b = d } H H' :=
      { keep := e.keep, live := e.live, m := e.m, bsub := fun b z => .inl (e.bsub b z), dsub := fun b z => .inl (e.dsub b z), own := e.own, s := e.s,
        bnew := fun b z => z.elim (e.bnew b) fun z => .inr (by rw [z]; exact hn) }
    refine okT_ret' q e2 (.ref d) ⟨fun b z => ?_, fun b z => z.elim (fun z => .inl (R'.box.2 b z)) .inr⟩ ?_
    · rcases z with z | z
      · exact R'.box.1 b z
      · rw [z]
        exact ⟨vs, ho, ht hp r⟩
    · rw [RepG, Rep]
      exact ⟨d, rfl, .inr rfl⟩
  · rw [if_neg hp] at q
    exact (show False from q).elim
end
def spDraw (ok : List V → Prop) : Sp := fun vs H Q _ => ∃ (D : Addr) (b : Int) (l : List V), vs = [.ref D, .int b] ∧ H D = some (.lst l) ∧ ok l ∧ 1 ≤ b ∧ b < 2 ^ 64 ∧ ∀ (digit : Int) (l' : List V), 0 ≤ digit → digit < b → ok l' → Q (.int digit) (upd H D (.lst l'))
def fDraw : List AV → T AV
  | [.box, .int b] => if 1 ≤ b ∧ below b 64 = true then .draw b.toNat fun r => .ret (.int r) else .bad
  | _ => .bad
theorem fDraw_len (ts : List AV) (h : T.all (fun _ => True) (fun _ _ => True) (fDraw ts)) : ts.length = 2 := by
  unfold fDraw at h
  split at h
  · rfl
  · exact h.elim
theorem draw_of {P : Program} {w : World} {K : PySem.W.Frag} {mg : Str → Option Value} {base : Heap} {ct : CT} {ok : List V → Prop} {lv : Nat} {fa : Addr} {fd : FuncData} {ps : List Str} (F : FnOk P w K mg base CX0 lv fa fd ps (spDraw ok)) :
    FnOk P w K mg base (L2.CX P w) lv fa fd ps (spM ⟨K, mg, ct⟩ (BoxI ok) 2 fDraw) := by
  refine imp0 F fun vs H Q E h => ?_
  obtain ⟨g, ts, ho, hm, hmb, hb, r, hl, h⟩ := h
  have done : ∀ {ts : List AV}, okT ⟨K, mg, ct⟩ (BoxI ok) E g H (fDraw ts) (fun g' H' t => ∀ v, (BoxI ok).I g'.B g'.D H' → RepG ⟨K, mg, ct⟩ g' H' t v → Q v H') → ∃ b, ts = [.box, .int b] ∧ 1 ≤ b ∧ b < 2 ^ 64 ∧ ∀ r, r < b.toNat → ∀ g' H', Ext g g' H H' → ∀ v, (BoxI ok).I g'.B g'.D H' → RepG ⟨K, mg, ct⟩ g' H' (.int r) v → Q v H' := fun {ts} h => by
    unfold fDraw at h
    split at h
    · rename_i b
      by_cases hb : 1 ≤ b ∧ below b 64 = true
      · rw [if_pos hb] at h
        exact ⟨b, rfl, hb.1, by have := below_iff.mp hb.2; omega, h⟩
      · rw [if_neg hb] at h
        exact (show False from h).elim
    · exact (show False from h).elim
  obtain ⟨b, rfl, h1, h2, h3⟩ := done h
  rw [RepsG, RepL] at r
  obtain ⟨v, r1, rfl, hv, r⟩ := r
  rw [RepL] at r
  obtain ⟨v2, r2, rfl, hv2, r⟩ := r
  rw [RepL] at r
  subst r
  have hv : ∃ a, v = .ref a ∧ g.D a := by
    rw [Rep] at hv
    exact hv
  have hv2 : v2 = .int b := by
    rw [Rep] at hv2
    exact hv2
  obtain ⟨D, rfl, hD⟩ := hv
  subst hv2
  have hB := (BoxI ok).top hb hD
  obtain ⟨l, el, ol⟩ := hb.1 D hB
  refine ⟨D, b, l, rfl, el, ol, h1, h2, fun digit l' d0 d1 o' => ?_⟩
  have lD : H D ≠ none := by rw [el]; exact fun z => by cases z
  have e : Ext g g H (upd H D (.lst l')) := ⟨fun a o q _ nb => by rw [upd_ne (fun z => nb (by rw [z]; exact hB))]; exact q, fun a q => by
    by_cases z : a = D
    · rw [z, upd_same]; exact fun z => by cases z
    · rw [upd_ne z]; exact q, rfl, fun _ h => h, fun _ h => .inl h, fun _ h => h, fun i a h => .inl ⟨i, h⟩, rfl⟩
  have ed : ((digit.toNat : Nat) : Int) = digit := by omega
  have := h3 digit.toNat (by omega) g _ e (.int digit) ⟨fun a ha => ?_, hb.2⟩ (by rw [ed]; exact rep_int)
  · exact this
  · by_cases z : a = D
    · exact ⟨l', by rw [z, upd_same], o'⟩
    · rw [upd_ne z]
      exact hb.1 a ha
def okB (vs : List V) : Prop := ∃ c s : Int, vs = [.int c, .int s] ∧ 0 ≤ c ∧ 0 ≤ s ∧ s ≤ 2147483647
def testB : List AV → Bool
  | [.int c, .int s] => decide (0 ≤ c ∧ 0 ≤ s ∧ s ≤ 2147483647)
  | _ => false
theorem testB_ok {c0 : Gc} {A D : Addr → Prop} {H : Hp} {xs : List AV} {vs : List V} (h : testB xs = true) (r : RepL c0 A D H xs vs) : okB vs := by
  unfold testB at h
  split at h
  · rename_i c s
    have h := of_decide_eq_true h
    rw [RepL] at r
    obtain ⟨v, r1, rfl, hv, r⟩ := r
    rw [RepL] at r
    obtain ⟨v2, r2, rfl, hv2, r⟩ := r
    rw [RepL] at r
    subst r
    have hv : v = .int c := by
      rw [Rep] at hv
      exact hv
    have hv2 : v2 = .int s := by
      rw [Rep] at hv2
      exact hv2
    subst hv hv2
    exact ⟨c, s, rfl, h⟩
  · cases h
end Dn
namespace Dn
open PySem PySem.Spec PyProof.Rows L2
def pRepr (a : AV) : Option AV := match a with
  | .int i => if i.natAbs.log2 < 1920 then some (.str (toString i)) else none
  | _ => none
end Dn
set_option Elab.async false
set_option linter.all false
set_option maxRecDepth 100000
namespace PySem
namespace TrE
open Sem (wp)
open AutoSeq1 (wpAny_loadPart')
theorem enum_tup_new (tp : Addr) (us : Array Value) (m : Nat) (dx : Option Addr) (ss : Array (Option Value)) :
    Meets (Builtin.«enumerate.__new__» ⟨[.type "enumerate", .ref tp], []⟩) (fun _ R st => st.heap.get? tp = some { cls := .type "tuple", dict := dx, data := .seq us m, slots := ss } ∧
      R (.ok (.ret (.ref (st.heap.push { cls := .type "tuple_iterator", data := .fields #[.ref tp, .int 0 0] }).objs.size)))
        { st with heap := (st.heap.push { cls := .type "tuple_iterator", data := .fields #[.ref tp, .int 0 0] }).push { cls := .type "enumerate", data := .fields #[.none, .bool false, .ref st.heap.objs.size, rawInt 0, .none, .none] } }) :=
  .of_wp fun pg wd Ar R st hh => by
    obtain ⟨hp, gg, dd, tt, oo⟩ := st
    obtain ⟨hl, hr⟩ := hh
    have hsub := sub_enumerate
    have hT : Heap.IsTuple (Shared.heap ⟨hp, gg, dd, tt, oo⟩) tp us := ⟨_, hl, rfl, m, rfl⟩
    wp_walk using wpAny_loadPart' hl
    refine wpAny_stack_any fun _ => wpAny_pure ?_
    split
    · rename_i kk _ _ _ _ _
      cases (kk == Value.type "enumerate") <;> (wp_walk using wpAny_loadPart' hl, wpAny_pyIter_tuple hT; exact ⟨_, rfl, hr⟩)
    · wp_walk using wpAny_loadPart' hl, wpAny_pyIter_tuple hT; exact ⟨_, rfl, hr⟩
theorem call_enum_tup {pg : Program} {wd : World} {Ar : Around} {Er : Value → Shared → Prop} {st : Shared} {tp : Addr} {us : Array Value} {Q : Value → Shared → Prop} (hT : st.heap.IsTuple tp us)
    (hq : ∀ h2, IsEnum h2 (st.heap.objs.size + 1) st.heap.objs.size 0 .none → h2.IsTupleIter st.heap.objs.size tp 0 → (∀ b o, st.heap.get? b = some o → h2.get? b = some o) → Q (.ref (st.heap.objs.size + 1)) { st with heap := h2 }) :
    wpAny (model pg wd) Ar (call (.type "enumerate") [.ref tp]) Q Er st := by
  obtain ⟨⟨cc, dx, dt, ss⟩, hl, hc, m, hd⟩ := hT
  have hc2 : cc = .type "tuple" := hc
  have hd2 : dt = .seq us m := hd
  subst hc2 hd2
  refine callType_new F.called_enumerate (by decide) (F.typeCall_enumerate_1 _) (F.newCall_enumerate_1 _) (fun _ => F.args_object_init_2 _ _) F.entry_enumerate_new (enum_tup_new tp us m dx ss) ⟨hl, ?_⟩
  generalize hn : ({ cls := .type "tuple_iterator", data := .fields #[.ref tp, .int 0 0] } : Obj) = n1
  have z1 : (st.heap.push n1).objs.size = st.heap.objs.size + 1 := Heap.size_push ..
  show _ ∧ _
  rw [z1]
  generalize hm2 : ({ cls := .type "enumerate", data := .fields #[.none, .bool false, .ref st.heap.objs.size, rawInt 0, .none, .none] } : Obj) = n2
  have e2 : ((st.heap.push n1).push n2).get? (st.heap.objs.size + 1) = some n2 := by
    have q := Heap.get?_push_size (st.heap.push n1) (o := n2) (by rw [← hm2]; rfl)
    rwa [z1] at q
  have e1 : ((st.heap.push n1).push n2).get? st.heap.objs.size = some n1 := Heap.get?_push_of_some _ (Heap.get?_push_size _ (by rw [← hn]; rfl))
  refine ⟨⟨_, e2, by rw [← hm2]⟩, hq _ (by rw [← hm2] at e2 ⊢; exact e2) ⟨n1, e1, by rw [← hn], by rw [← hn]; rfl⟩ fun b o x => Heap.get?_push_of_some _ (Heap.get?_push_of_some _ x)⟩
end TrE
end PySem
namespace Dn
open PySem PySem.Spec PyProof.Rows L2
def IteT (K : PySem.W.Frag) (a : Addr) (n : Nat) : It :=
  ⟨fun i H => ∃ (xs : List V) (x : V), SqT K H a xs ∧ xs.length = n ∧ xs[i]? = some x, fun i H v H' => ∃ p x, v = .ref p ∧ H p = none ∧ H' = upd H p (.tup [.int (i : Nat), x]) ∧ ∀ xs, SqT K H a xs → xs[i]? = some x, fun i H => (∃ xs : List V, SqT K H a xs ∧ xs.length = n) ∧ n ≤ i⟩
theorem turn_enumT {P : Program} {w : World} {K : PySem.W.Frag} {elts : List Expr} {kk : Nat} {tpos : Pos} (a e it : Addr) (n : Nat) :
    Turn P w K (.Tuple elts kk tpos) (IteT K a n) [e, it] e (fun i h => i ≤ n ∧ (∃ old, IsEnum h e it ((i : Nat) : Int) old) ∧ h.IsTupleIter it a i ∧ e ≠ it) where
  mem := by simp
  obj := fun i h st b hb => by
    obtain ⟨_, ⟨old, he⟩, ⟨o, ho, hc, hd⟩, _⟩ := st
    rcases (show b = e ∨ b = it by simpa using hb) with z | z
    · subst z; exact ⟨_, he, fun v q => nomatch q⟩
    · subst z; exact ⟨o, ho, fun v q => by rw [hd] at q; cases q⟩
  keep := fun i h h' st k => ⟨st.1, ⟨st.2.1.choose, k e (by simp) _ st.2.1.choose_spec⟩, st.2.2.1.at fun o q => k it (by simp) o q, st.2.2.2⟩
  item := by
    intro X hP hw hK hc i pins s σ H E I hf st hg
    subst hP hw hK
    obtain ⟨hin, ⟨old, he⟩, hit, hne⟩ := st
    obtain ⟨xs, x, hq, hxl, hx⟩ := hg
    obtain ⟨us, rv, p, hz⟩ := I.tuple hq
    obtain ⟨u, hu, ru⟩ := rv.get hx
    have hel : e < s.heap.objs.size := Heap.lt_size he
    have hil : it < s.heap.objs.size := by
      obtain ⟨_, q, _⟩ := hit
      exact Heap.lt_size q
    have hae : a ≠ e := fun z => by
      obtain ⟨o, q, hcl, _⟩ := p
      rw [z] at q
      have q2 := he
      unfold IsEnum at q2
      rw [q] at q2
      have q3 := Option.some.inj q2
      rw [q3] at hcl
      exact absurd (Value.type.inj hcl) (by decide)
    have hai : a ≠ it := fun z => by
      obtain ⟨o, q, hcl, _⟩ := p
      obtain ⟨o', q', hcl', _⟩ := hit
      rw [z, q'] at q
      cases q
      rw [hcl'] at hcl
      exact absurd (Value.type.inj hcl) (by decide)
    have hlt : i < us.toArray.size := by
      rw [List.size_toArray]
      exact (List.getElem?_eq_some_iff.mp hu).1
    refine wpAny_pyNext_enum_itemD (Draws.tuple (A := X.A.in1) (I.ok.hd hc) it a hai us.toArray) he ⟨hit, p⟩ hlt hne (by simp [hne, Ne.symm hae]) fun y h' tk hy ho hst hT hsz hk => ?_
    have ey : y = u := by
      have q1 : us[i]? = some y := by simpa using hy
      rw [hu] at q1
      exact (Option.some.inj q1).symm
    subst ey
    refine ⟨_, rfl, wpAny_letOwnedTupleGo_enum (s := { s with heap := h', toks := tk + 1 }) ho fun h2 he' sb => ?_⟩
    have hT2 : h2.get? s.heap.objs.size = some { cls := .type "tuple", data := .seq #[.int i tk, y] } := (sb.2 _ (Nat.ne_of_gt hel)).trans hT
    have I1 : Inv X pins σ (upd H s.heap.objs.size (.tup [.int (i : Nat), x])) { s with heap := h2, toks := tk + 1 } :=
      I.turnedNew (ch := [e, it]) (fun b ob hb q => (sb.2 b (fun z => hb (by simp [z]))).trans (hk b ob (fun z => hb (by simp [z])) (fun z => hb (by simp [z])) q)) hf (Nat.le_refl _)
        ⟨by show 2 ≤ sizeLine; decide, [.int i tk, y], .cons ⟨_, rfl⟩ (.cons ru .nil), ⟨_, hT2, rfl, _, rfl⟩⟩
    refine ⟨.ref s.heap.objs.size, _, I1, rfl, ⟨_, x, rfl, I.hok.fresh (Nat.le_refl _), rfl, fun ys hy => by rw [I.tuple_inj hy hq]; exact hx⟩, ⟨(by rw [← hxl]; exact (List.getElem?_eq_some_iff.mp hx).1), ⟨y, ?_⟩, hst.1.at fun o q => (sb.2 it (Ne.symm hne)).trans q, hne⟩, fun b hb => ?_⟩
    · rw [show ((i + 1 : Nat) : Int) = (i : Int) + 1 by omega]
      exact he'
    · have hb' : b < s.heap.objs.size := by
        rcases (show b = e ∨ b = it by simpa using hb) with z | z
        · rw [z]; exact hel
        · rw [z]; exact hil
      rw [upd_ne (Nat.ne_of_lt hb')]
      exact (hf b hb).1
  done := by
    intro X hP hw hK hc i pins s σ H E I hf st hg
    subst hP hw hK
    obtain ⟨hin, ⟨old, he⟩, hit, hne⟩ := st
    obtain ⟨⟨xs, hq, hxl⟩, hni⟩ := hg
    have ei : i = n := by omega
    subst ei
    obtain ⟨us, rv, p, hz⟩ := I.tuple hq
    obtain ⟨f0, f1, f2, f3, f4, f5⟩ := hf it (by simp)
    have hai : a ≠ it := fun z => by
      obtain ⟨o, q, hcl, _⟩ := p
      obtain ⟨o', q', hcl', _⟩ := hit
      rw [z, q'] at q
      cases q
      rw [hcl'] at hcl
      exact absurd (Value.type.inj hcl) (by decide)
    have ez : us.toArray.size = i := by rw [List.size_toArray, ← rv.length, hxl]
    refine wpAny_pyNext_enum_endD (Draws.tuple (A := X.A.in1) (I.ok.hd hc) it a hai us.toArray) he (by rw [ez]; exact ⟨hit, p⟩) fun h' eb => ?_
    exact ⟨rfl, I.turned (t' := s.toks) (fun b o hb q => eb b o hb q) f0 f1 f3 f4 f5⟩
  self := fun A i s Q E st h => let ⟨_, ⟨_, he⟩, _⟩ := st; wpAny_pyIter_enum he h
def iEnA (K : PySem.W.Frag) (ta : TA) : TI := fun σ H R => ta σ H fun vs H1 => ∃ a xs, vs = [.ref a] ∧ ((SqL K H1 a xs ∧ R (Ite K a) H1) ∨ (SqT K H1 a xs ∧ R (IteT K a xs.length) H1))
theorem pi_enumA {X : Cx} {e : Expr} {ta : TA} {p pos tpos : Pos} {elts : List Expr} {kk : Nat} (hg : Gl X "enumerate") (hm : X.mg "enumerate" = none) (ha : PA X [e] ta) (hs : starEach [e] X.env = [(false, eval e X.env)] := by rfl) :
    PI X (.Tuple elts kk tpos) (.Call (.Name "enumerate" p) [e] [] pos) (iEnA X.K ta) := by
  constructor
  intro pins s σ H R I h
  refine Call_ (ld_blt I hg hm boot_enumerate (PyProof.Rows.callWith_type1 (thn (ha.run pos pins s σ H _ I h) fun us s1 ⟨vs, H1, I1, r1, q1⟩ => ?_) hs rfl))
  obtain ⟨a, xs, ex, q⟩ := q1
  subst ex
  obtain ⟨u, rfl, ru⟩ := vals1 r1
  cases (show u = Value.ref a from ru)
  have two : ∀ b : Addr, b ∈ [s1.heap.objs.size + 1, s1.heap.objs.size] → FpOk X pins H1 b := fun b hb => by
    have hle : s1.heap.objs.size ≤ b := by
      rcases (show b = s1.heap.objs.size + 1 ∨ b = s1.heap.objs.size by simpa using hb) with z | z
      · rw [z]; exact Nat.le_add_right _ _
      · rw [z]; exact Nat.le_refl _
    exact I1.fpOk hle (I1.hok.fresh hle)
  rcases q with ⟨hq, q⟩ | ⟨hq, q⟩
  · obtain ⟨its, rv, pl, _⟩ := I1.list hq
    refine call_enumerate_list pl.isList fun h' he hit hsz hk => wpAny_pyIter_enum he ?_
    exact ⟨s1.heap.objs.size + 1, [s1.heap.objs.size + 1, s1.heap.objs.size], _, _, H1, rfl, I1.kept (t' := s1.toks) hk, turn_enum a _ _, ⟨⟨.none, he⟩, hit, Nat.succ_ne_self _⟩, two, q⟩
  · obtain ⟨its, rv, pt, _⟩ := I1.tuple hq
    refine PySem.TrE.call_enum_tup (show s1.heap.IsTuple a its.toArray from pt) fun h' he hit hk => wpAny_pyIter_enum he ?_
    exact ⟨s1.heap.objs.size + 1, [s1.heap.objs.size + 1, s1.heap.objs.size], _, _, H1, rfl, I1.kept (t' := s1.toks) hk, turn_enumT a _ _ xs.length, ⟨Nat.zero_le _, ⟨.none, he⟩, hit, Nat.succ_ne_self _⟩, two, q⟩
theorem wk_enumT {c0 : Gc} {g : G} {H : Hp} {a : Addr} {xs : List AV} (h : RepG c0 g H (.tup xs) (.ref a)) : Wk c0 g H (IteT c0.K a xs.length) (enumL 0 xs) := by
  have at_ : ∀ (g' : G) (H' : Hp), Keeps c0 g g' H H' → ∃ vs, SqT c0.K H' a vs ∧ RepsG c0 g' H' xs vs := fun g' H' k => by
    have q := k _ _ h
    rw [RepG, Rep] at q
    obtain ⟨a', vs, e, ho, r⟩ := q
    cases e
    exact ⟨vs, ho.sq, r⟩
  refine ⟨fun g' H' i e hi => ?_, fun g' H' H2 i x v e lv hx hy => ?_, fun g' H' i e hi => ?_⟩
  · obtain ⟨vs, ho, r⟩ := at_ g' H' e
    rw [enumL_length] at hi
    exact ⟨vs, vs[i]'(by rw [r.length]; exact hi), ho, r.length, List.getElem?_eq_getElem _⟩
  · obtain ⟨T, y, rfl, hT, e1, hy⟩ := hy
    subst e1
    obtain ⟨vs, ho, r⟩ := at_ g' _ e
    obtain ⟨z, ez, rfl⟩ := enumL_get xs 0 i x hx
    obtain ⟨w, ew, rw'⟩ := r.get (hy vs ho)
    rw [ez] at ew
    cases ew
    have s : Same H' (upd H' T (.tup [.int (i : Nat), y])) := same_upd hT
    refine ⟨s, rep_tup_new (fun z => lv T z hT) upd_same (.cons ?_ (.one ((Ext.same s).rep rw')))⟩
    rw [Nat.zero_add]
    exact rep_int
  · obtain ⟨vs, ho, r⟩ := at_ g' H' e
    rw [enumL_length] at hi
    exact ⟨⟨vs, ho, r.length⟩, hi⟩
def iEnum (f : Sem) : SemI := fun ρ => (f ρ).bind fun p => (frz p).bind fun q => (lift (seqOf q.1)).bind fun xs => .ret (enumL 0 xs, q.2)
theorem ji_enumA {X : Cx} {ct : CT} {β : BInv} {Ex : XK} {e : Expr} {f : Sem} {p pos tpos : Pos} {elts : List Expr} {kk : Nat} (hg : Gl X "enumerate") (hm : X.mg "enumerate" = none) (ha : JE X ct β Ex e f) (hs : starEach [e] X.env = [(false, eval e X.env)] := by rfl) (he : starEach [e] X.env = (false, eval e X.env) :: starEach [] X.env := by rfl) :
    JI X ct β Ex (.Tuple elts kk tpos) (.Call (.Name "enumerate" p) [e] [] pos) (iEnum f) := by
  refine PI.imp (pi_enumA hg hm (pa_cons ha pa_nil he) hs) fun σ H R h => ?_
  obtain ⟨g, ρ, Rl, h⟩ := h
  refine ⟨g, ρ, Rl, okT_mono (okT_bind h) fun g1 H1 p e1 h1 x R1 rx => ?_⟩
  obtain ⟨g2, s, e2, R2, rs, h2⟩ := frz_ok R1 rx h1
  obtain ⟨xs, ex, h3⟩ := okT_lift h2
  obtain ⟨t, ρ2⟩ := s
  cases t with
  | lst ys =>
    cases ex
    have rs0 := rs
    rw [RepG, Rep] at rs
    obtain ⟨q, vs, rfl, hq, _⟩ := rs
    exact ⟨q, vs, rfl, .inl ⟨hq.sq, okT_ret h3 _ R2 (wk_enum rs0)⟩⟩
  | tup ys =>
    cases ex
    have rs0 := rs
    rw [RepG, Rep] at rs
    obtain ⟨q, vs, rfl, hq, r⟩ := rs
    refine ⟨q, vs, rfl, .inr ⟨hq.sq, okT_ret h3 _ R2 ?_⟩⟩
    rw [r.length]
    exact wk_enumT rs0
  | _ => cases ex
end Dn
set_option Elab.async false
set_option linter.all false
set_option maxRecDepth 100000
namespace Dn
open PySem PySem.Spec PyProof.Rows L2
section
variable {Q : Out → Prop} {E : Nat → List AV → Prop} {ρ : Env'} {f k : SSem} {fe : Sem} {fn : SemN} {fb : SemB} {i : Nat}
def Nx (R : Env' → Prop) (Q : Out → Prop) : Out → Prop
  | .nx ρ => R ρ
  | o => Q o
theorem range_len (lo : Int) (n : Nat) : (rangeL lo n).length = n := by
  unfold rangeL
  rw [List.length_map, List.length_range]
theorem range_get {lo : Int} {n i : Nat} {x : AV} (h : (rangeL lo n)[i]? = some x) : i < n ∧ x = .int (lo + (i : Int)) := by
  unfold rangeL at h
  rw [List.getElem?_map] at h
  by_cases hi : i < n
  · rw [List.getElem?_range hi] at h
    cases h
    exact ⟨hi, rfl⟩
  · rw [List.getElem?_eq_none (by rw [List.length_range]; omega)] at h
    cases h
theorem fnOf_all {np n : Nat} {body : SSem} {ts : List AV} {R : AV → Prop} (hl : ts.length = np) (h : (body (ts.map Slot.fro ++ List.replicate (n - np) .un)).all (fun o => match o with | .rt t => R t | .nx _ => R .non | _ => False) E) : (fnOf np n body ts).all R E := by
  unfold fnOf
  rw [if_pos hl]
  refine T.all_bind.mpr (T.all_mono h (fun o q => ?_) fun _ _ z => z)
  cases o <;> exact q
def NxI (I : Env' → Prop) : Out → Prop
  | .nx ρ => I ρ
  | _ => False
end
end Dn
set_option Elab.async false
set_option linter.all false
set_option maxRecDepth 100000
namespace Dn
open PySem PySem.Spec PyProof.Rows L2
@[irreducible] def T.Al {α : Type} (m : T α) (Q : α → Prop) (E : Nat → List AV → Prop) : Prop := m.all Q E
theorem al_iff {α : Type} {m : T α} {Q : α → Prop} {E : Nat → List AV → Prop} : m.Al Q E ↔ m.all Q E := by
  unfold T.Al
  exact Iff.rfl
section
variable {α γ : Type} {Q : Out → Prop} {E : Nat → List AV → Prop} {ρ : Env'} {f k : SSem} {fe : Sem} {fn : SemN} {fb : SemB} {i : Nat}
theorem al_mono {m : T α} {P P' : α → Prop} (h : m.Al P E) (hp : ∀ a, P a → P' a) : m.Al P' E := al_iff.mpr (T.all_mono (al_iff.mp h) hp fun _ _ z => z)
theorem al_bind {m : T α} {g : α → T γ} {P : α → Prop} {R : γ → Prop} (h : m.Al P E) (h2 : ∀ a, P a → (g a).Al R E) : (m.bind g).Al R E := al_iff.mpr (T.all_bind.mpr (T.all_mono (al_iff.mp h) (fun a z => al_iff.mp (h2 a z)) fun _ _ z => z))
theorem aFn {np n : Nat} {body : SSem} {ts : List AV} {R : AV → Prop} (hl : ts.length = np) (h : (body (ts.map Slot.fro ++ List.replicate (n - np) .un)).Al (fun o => match o with | .rt t => R t | .nx _ => R .non | _ => False) E) : (fnOf np n body ts).Al R E := al_iff.mpr (fnOf_all hl (al_iff.mp h))
end
end Dn
namespace Dn
open PySem PySem.Spec PyProof.Rows L2
def pIs (a b : AV) : Option AV := match b with
  | .non => pIsN a .non
  | .bl k => match a with
    | .bl j => some (.bl (decide (j = k)))
    | _ => none
  | _ => none
def pNotIs (a b : AV) : Option AV := match b with
  | .non => pNotN a .non
  | .bl k => match a with
    | .bl j => some (.bl (!decide (j = k)))
    | _ => none
  | _ => none
section
variable {X : Cx} {ct : CT}
theorem op_isA : OpR X (compareOp .Is) (fun x y H Q => (y = .non ∧ Q (.bl (decide (x = .non))) H) ∨ (∃ a b, x = .bl a ∧ y = .bl b ∧ Q (.bl (decide (a = b))) H)) := op_isN.or op_is_bl
theorem o_isA : Op2p X ct (fun x y H Q => (y = .non ∧ Q (.bl (decide (x = .non))) H) ∨ (∃ a b, x = .bl a ∧ y = .bl b ∧ Q (.bl (decide (a = b))) H)) pIs := by
  intro g H a b z x y Q ra rb e q
  cases b with
  | non => exact .inl (o_isN g H a .non z x y Q ra rb e q)
  | bl k =>
    cases a with
    | bl j =>
      cases e
      exact .inr ⟨j, k, ra.bl, rb.bl, q _ rep_bl⟩
    | _ => cases e
  | _ => cases e
def rRepS : List V → Hp → VK → Prop := fun xs H Q => (∃ i, xs = [.int i] ∧ i.natAbs.log2 < 1920 ∧ Q (.str (toString i)) H) ∨ (∃ b, xs = [.bl b] ∧ Q (.str (if b then "True" else "False")) H) ∨ (xs = [.non] ∧ Q (.str "None") H)
def pReprS (a : AV) : Option AV := match a with
  | .int i => if i.natAbs.log2 < 1920 then some (.str (toString i)) else none
  | .bl b => some (.str (if b then "True" else "False"))
  | .non => some (.str "None")
  | _ => none
end
end Dn
set_option Elab.async false
set_option linter.all false
set_option maxRecDepth 100000
namespace Dn
open PySem PySem.Spec PyProof.Rows L2
structure FnG (P : Program) (w : World) (K : PySem.W.Frag) (mg : Str → Option Value) (base : Heap) (cx : CXT) (lv : Nat) (fa : Addr) (fd : FuncData) (ps : List Str) (sp : Sp) : Prop where
  len : ∀ vs H Q E, sp vs H Q E → vs.length = ps.length
  go : ∀ (A : Around), A.guards = some [] → Room lv A → ∀ (out : List Env) (s : Shared) (H : Hp) (ar : Args) (us : List Value) (vs : List V) (Q : VK) (E : XK), Env0 P w K mg base A out s H → BindsTo s fd ar (ps.zip us) → Vals vs us → sp vs H Q E → codeAny (model P w) A (.call (.ref fa) ar) (CR cx out P w H s Q E) s
section
variable {P : Program} {w : World} {K : PySem.W.Frag} {mg : Str → Option Value} {base : Heap} {cx : CXT} {lv : Nat} {fa : Addr} {fd : FuncData} {ps : List Str} {sp sp' : Sp}
theorem FnG.of (F : FnOk P w K mg base cx lv fa fd ps sp) : FnG P w K mg base cx lv fa fd ps sp := ⟨F.len, fun A _ r out s H ar us vs Q E e b v q => F.run A out s H ar us vs Q E r e b v q⟩
theorem FnG.imp (F : FnG P w K mg base cx lv fa fd ps sp) (h : ∀ vs H Q E, sp' vs H Q E → sp vs H Q E) : FnG P w K mg base cx lv fa fd ps sp' := ⟨fun vs H Q E q => F.len vs H Q E (h _ _ _ _ q), fun A g r out s H ar us vs Q E e b v q => F.go A g r out s H ar us vs Q E e b v (h _ _ _ _ q)⟩
end
section
variable {X : Cx} {cx : CXT} {lv : Nat} {fa : Addr} {fd : FuncData} {ps : List Str} {sp : Sp} {dvs : List V} {ds : List Value} {E : XK} {x : Str} {p pos : Pos} {e : Expr} {es : List Expr} {t : TA}
end
end Dn
set_option Elab.async false
set_option linter.all false
set_option maxRecDepth 100000
namespace Dn
open PySem PySem.Spec PyProof.Rows L2
section
variable {P : Program} {w : World} {K : PySem.W.Frag} {mg mb : Str → Option Value} {cx : CXT} {lv : Nat} {fa a : Addr} {fd : FuncData} {x : Str} {sp : Sp} {s1 : Shared} {us : List Value} {ns : List Int}
end
end Dn
set_option Elab.async false
set_option linter.all false
set_option maxRecDepth 100000
namespace Dn
open PySem PySem.Spec PyProof.Rows L2
structure DfG (P : Program) (w : World) (K : PySem.W.Frag) (mg : Str → Option Value) (base : Heap) (ct : CT) (β : BInv) (lv : Nat) (x : Str) (n : Nat) (ps : List Str) (fn : List AV → T AV) : Prop where
  ex : ∃ fa fd, FnG P w K mg base (L2.CX P w) lv fa fd ps (spM ⟨K, mg, ct⟩ β n fn) ∧ mg x = some (.ref fa) ∧ PySem.W.keepIn K (.ref fa) = true ∧ Binds K fd ps []
  len : ∀ ts : List AV, T.all (fun _ => True) (fun _ _ => True) (fn ts) → ts.length = n
section
variable {P : Program} {w : World} {K : PySem.W.Frag} {mg : Str → Option Value} {base : Heap} {ct : CT} {β : BInv}
theorem Df.g {lv n : Nat} {x : Str} {ps : List Str} {fn : List AV → T AV} (D : Df P w K mg base ct β lv x n ps fn) : DfG P w K mg base ct β lv x n ps fn := by
  obtain ⟨fa, fd, F, h1, h2, h3⟩ := D.ex
  exact ⟨⟨fa, fd, FnG.of F, h1, h2, h3⟩, D.len⟩
end
section
variable {X : Cx} {ct : CT} {β : BInv} {Ex : XK} {e : Expr} {es : List Expr} {m : SemL} {pos p : Pos} {x : Str} {lv n c : Nat} {ps : List Str} {fn : List AV → T AV}
end
def rReprD (K : PySem.W.Frag) : List V → Hp → VK → Prop := fun xs H Q => ∃ x d, xs = [x] ∧ Dp K H x d ∧ d.canLay0 = true ∧ d.depth ≤ 12 ∧ d.showable = true ∧ d.shown.length ≤ sizeLine ∧ Q (.str d.shown) H
def pReprD (a : AV) : Option AV := if dat DEP a && (toD DEP a).showable && decide ((toD DEP a).shown.length ≤ big) then some (.str (toD DEP a).shown) else none
end Dn
set_option Elab.async false
set_option linter.all false
set_option maxRecDepth 100000
namespace Dn
open PySem PySem.Spec PyProof.Rows L2
def sDrop (j : Nat) (s : SSem) : SSem := fun ρ => (s ρ).bind fun o => match o with
  | .nx ρ' => .ret (.nx (ρ'.set j .un))
  | o => .ret o
def boxV (c s t : Int) : List V := [.int c, .int s, .int t]
structure BoxIs (c s t : Int) : Prop where
  c0 : 0 ≤ c
  s1 : 1 ≤ s
  s2 : s ≤ 2147483629
def okA (vs : List V) : Prop := ∃ c s t : Int, vs = boxV c s t ∧ BoxIs c s t
def spBoxS (K : PySem.W.Frag) (ok : List V → Prop) : Sp := fun vs H Q _ => ∃ (a : Addr) (k o : Int) (ns : List Int), vs = [.ref a, .int k, .int o] ∧ SqL K H a (ns.map V.int) ∧ 0 ≤ k ∧ 0 ≤ o ∧ ∀ (D : Addr) (H' : Hp), H D = none → Same H H' → (∃ l, H' D = some (.lst l) ∧ ok l) → Q (.ref D) H'
def fBox : List AV → T AV
  | [.scr _, .int k, .int o] => if 0 ≤ k ∧ 0 ≤ o then .ret .box else .bad
  | _ => .bad
structure Mf (P : Program) (w : World) (K : PySem.W.Frag) (mg : Str → Option Value) (base : Heap) (ct : CT) (β : BInv) (lv : Nat) (c : Nat) (x : Str) (n : Nat) (ps : List Str) (fn : List AV → T AV) : Prop where
  ex : ∃ C fa fd, FnOk P w K mg base (L2.CX P w) lv fa fd ps (spM ⟨K, mg, ct⟩ β n fn) ∧ Binds K fd ps [] ∧ Cls K C ∧ Meth K C x fa ∧ mg (ct c).1 = some (.ref C)
  no : x ∉ (ct c).2
  len : ∀ ts : List AV, T.all (fun _ => True) (fun _ _ => True) (fn ts) → ts.length = n
section
variable {X : Cx} {ct : CT} {β : BInv} {Ex : XK} {a e : Expr} {es : List Expr} {f : Sem} {m : SemL} {pos p apos : Pos} {mt : Str} {lv n c : Nat} {ps : List Str} {fn : List AV → T AV}
def rLenO (C : Addr) (sp : Sp) (E : XK) : List V → Hp → VK → Prop := fun xs H Q => ∃ a dx fs, xs = [V.ref a] ∧ H a = some (.ins C dx fs) ∧ sp [.ref a] H (fun z H' => ∃ i, z = .int i ∧ (0 ≤ i ∧ i < 2 ^ 63) ∧ Q (.int i) H') E
def intU : AV → Option Int
  | .int i => if 0 ≤ i ∧ below i 62 = true then some i else none
  | _ => none
def fLenOwn (c : Nat) (fn : List AV → T AV) (f : Sem) : Sem := fun ρ => (f ρ).bind fun q => (frz q).bind fun s => match s.1 with
  | .ins c' xs => if c' = c then (fn [.ins c' xs]).bind fun t => (lift (intU t)).bind fun i => .ret (.val (.int i), s.2) else .bad
  | _ => .bad
end
noncomputable def isTrueD (t : T AV) : Bool := T.rec (motive := fun _ => Bool) (fun a => match a with | .bl b => b | _ => false) false (fun _ _ => false) (fun n _ ih => (List.range n).all ih) t
end Dn
set_option Elab.async false
set_option linter.all false
set_option maxRecDepth 100000
namespace Dn
open PySem PySem.Spec PyProof.Rows L2
def lcL2 (vs vs1 : List Nat) (k : GSem) (tt : SemB) (it1 : SemI) (k1 : GSem) (tt1 : SemB) (el : Sem) : List AV → List AV → Env' → T (List AV × Env')
  | [], acc, ρ => .ret (acc, ρ)
  | x :: xs, acc, ρ => (noExc ((k x (wipeE ρ vs)).bind fun ρ1 => (tt ρ1).bind fun p => if p.1 then (it1 p.2).bind fun q => if acc.length + q.1.length < big then lcL vs1 k1 tt1 el q.1 acc q.2 else .bad else .ret (acc, p.2))).bind fun r => lcL2 vs vs1 k tt it1 k1 tt1 el xs r.1 r.2
def nLc2 (vs vs1 : List Nat) (it : SemI) (k : GSem) (tt : SemB) (it1 : SemI) (k1 : GSem) (tt1 : SemB) (el : Sem) : SemN := fun ρ => (it ρ).bind fun p => (lcL2 vs vs1 k tt it1 k1 tt1 el p.1 [] p.2).bind fun r => .ret (r.1, backE p.2 r.2 vs)
section
variable {X : Cx} {ct : CT} {β : BInv} {Ex : XK} {a c elt tg iter tg1 iter1 : Expr} {ifs ifs1 : List Expr} {f it1 : SemI} {k k1 : GSem} {tt tt1 : SemB} {el : Sem} {pos : Pos} {scope : Scope} {own : List (Str × Nat)} {is is1 : List Nat}
end
end Dn
set_option Elab.async false
set_option linter.all false
set_option maxRecDepth 100000
namespace Dn
open PySem PySem.Spec PyProof.Rows L2
mutual
def eqA : AV → AV → Bool
  | .non, .non => true
  | .bl a, .bl b => a == b
  | .int a, .int b => decide (a = b)
  | .str a, .str b => decide (a = b)
  | .tup a, .tup b => eqAs a b
  | .lst a, .lst b => eqAs a b
  | .ins c a, .ins d b => decide (c = d) && eqAs a b
  | .box, .box => true
  | .any, .any => true
  | _, _ => false
def eqAs : List AV → List AV → Bool
  | [], [] => true
  | a :: as, b :: bs => eqA a b && eqAs as bs
  | _, _ => false
end
mutual
theorem eqA_eq : ∀ (a b : AV), eqA a b = true → a = b
  | .non, b, h => by cases b <;> first | rfl | (unfold eqA at h; cases h)
  | .bl x, b, h => by
    cases b with
    | bl y => rw [eqA] at h; rw [eq_of_beq h]
    | _ => unfold eqA at h; cases h
  | .int x, b, h => by
    cases b with
    | int y => rw [eqA] at h; rw [of_decide_eq_true h]
    | _ => unfold eqA at h; cases h
  | .str x, b, h => by
    cases b with
    | str y => rw [eqA] at h; rw [of_decide_eq_true h]
    | _ => unfold eqA at h; cases h
  | .tup x, b, h => by
    cases b with
    | tup y => rw [eqA] at h; rw [eqAs_eq x y h]
    | _ => unfold eqA at h; cases h
  | .lst x, b, h => by
    cases b with
    | lst y => rw [eqA] at h; rw [eqAs_eq x y h]
    | _ => unfold eqA at h; cases h
  | .ins c x, b, h => by
    cases b with
    | ins d y => rw [eqA, Bool.and_eq_true] at h; rw [of_decide_eq_true h.1, eqAs_eq x y h.2]
    | _ => unfold eqA at h; cases h
  | .box, b, h => by cases b <;> first | rfl | (unfold eqA at h; cases h)
  | .any, b, h => by cases b <;> first | rfl | (unfold eqA at h; cases h)
  | .scr ns, b, h => by cases b <;> (unfold eqA at h; cases h)
theorem eqAs_eq : ∀ (a b : List AV), eqAs a b = true → a = b
  | [], b, h => by cases b with
    | nil => rfl
    | cons _ _ => unfold eqAs at h; cases h
  | x :: xs, b, h => by cases b with
    | nil => unfold eqAs at h; cases h
    | cons y ys => rw [eqAs, Bool.and_eq_true] at h; rw [eqA_eq x y h.1, eqAs_eq xs ys h.2]
end
def eqP : List (AV × AV) → List (AV × AV) → Bool
  | [], [] => true
  | (a, b) :: xs, (c, d) :: ys => eqA a c && (eqA b d && eqP xs ys)
  | _, _ => false
def eqS : Slot → Slot → Bool
  | .un, .un => true
  | .fro a, .fro b => eqA a b
  | .ml a, .ml b => eqAs a b
  | .md a b, .md c d => a == c && eqP b d
  | _, _ => false
def eqE : Env' → Env' → Bool
  | [], [] => true
  | a :: as, b :: bs => eqS a b && eqE as bs
  | _, _ => false
def nxIs (m : T Out) (ρ : Env') : Bool := match m with
  | .ret (.nx ρ') => eqE ρ' ρ
  | _ => false
def eachB (k : Nat → T Out) : List Env' → Nat → Bool
  | [], _ => true
  | ρ :: ρs, i => nxIs (k i) ρ && eachB k ρs (i + 1)
def drIs (m : T Out) (ρs : List Env') : Bool := match m with
  | .draw n k => decide (n = ρs.length) && eachB k ρs 0
  | _ => false
def AllT (m : T Out) : Prop := (m.bind outV).Al (fun t => t = .bl true) NoX
end Dn
set_option Elab.async false
set_option linter.all false
set_option maxRecDepth 100000
set_option maxHeartbeats 0
namespace Dn
open PySem PySem.Spec PyProof.Rows L2
theorem lg {i : Int} (h : i.natAbs < 2 ^ 200) : i.natAbs.log2 < 200 := by
  by_cases z : i.natAbs = 0
  · rw [z]; decide
  · exact (Nat.log2_lt z).mpr h
def il (l : List Int) : List AV := l.map AV.int
theorem il_len (l : List Int) : (il l).length = l.length := List.length_map ..
def far (due : List Int) (p : Int) (n : Nat) : Int := (n : Int) / (due.length : Int) * p + due.getD (n % due.length) 0
theorem atI_nat' {xs : List AV} {i : Nat} (h : i < xs.length) : atI xs (i : Int) = xs[i]? := by
  unfold atI ixN
  rw [if_pos (Int.natCast_nonneg i), if_pos (by omega)]
  simp
theorem il_get {l : List Int} {i : Nat} (h : i < l.length) : (il l)[i]? = some (.int (l.getD i 0)) := by
  unfold il
  rw [List.getElem?_map, List.getElem?_eq_getElem h, List.getD_eq_getElem?_getD, List.getElem?_eq_getElem h]
  rfl
def gterms (due : List Int) (p : Int) (m : Nat) : Nat → List Int → List Int
  | _, [] => []
  | i, d :: r => (far due p (i + m + 1) - d) :: gterms due p m (i + 1) r
def top1 : List Int → Int
  | [] => 0
  | x :: r => maxL x r
def gap (due : List Int) (p : Int) (m : Nat) : Int := top1 (gterms due p m 0 due)
theorem gterms_len (due : List Int) (p : Int) (m : Nat) : ∀ (r : List Int) (i : Nat), (gterms due p m i r).length = r.length
  | [], _ => rfl
  | _ :: r, i => by rw [gterms, List.length_cons, List.length_cons, gterms_len due p m r]
theorem gterms_get (due : List Int) (p : Int) (m : Nat) : ∀ (r : List Int) (i j : Nat), j < r.length → (gterms due p m i r)[j]? = some (far due p (i + j + m + 1) - r.getD j 0)
  | [], _, _, h => by simp at h
  | d :: r, i, 0, _ => by simp [gterms]
  | d :: r, i, j + 1, h => by
    have h' : j < r.length := by simpa using h
    rw [gterms, List.getElem?_cons_succ, gterms_get due p m r (i + 1) j h']
    simp [show i + 1 + j = i + (j + 1) by omega]
def seen (l : List Int) : List (AV × AV) := l.map fun d => (AV.int d, AV.bl true)
theorem seen_none {l : List Int} {d : Int} (h : d ∉ l) : dFind (seen l) (.inl d) = none := by
  unfold dFind seen
  rw [List.find?_eq_none.mpr (fun x hx => ?_)]
  · rfl
  · obtain ⟨e, he, rfl⟩ := List.mem_map.mp hx
    simp [keyOf1]
    intro z
    rw [z] at he
    exact h he
theorem seen_put {l : List Int} {d : Int} (h : d ∉ l) : dPut (seen l) (.int d) (.inl d) (.bl true) = seen (l ++ [d]) := by
  unfold dPut
  rw [dAny, seen_none h]
  simp [seen]
def runmax (a : Int) (l : List Int) : Int := l.foldl (fun x y => if x < y then y else x) a
theorem dat_il (n : Nat) (l : List Int) : (il l).all (dat n) = true := by
  unfold il
  rw [List.all_eq_true]
  intro x hx
  obtain ⟨i, _, rfl⟩ := List.mem_map.mp hx
  cases n <;> rfl
def InR (p : Int) (ds : List Int) : Prop := ds.Nodup ∧ ∀ d ∈ ds, 0 ≤ d ∧ d < p
theorem inR_mem {ds : List Int} {d : Int} : inAny (.int d) (il ds) = decide (d ∈ ds) := by
  unfold inAny il
  induction ds with
  | nil => rfl
  | cons x r ih =>
    rw [List.map_cons, List.any_cons, ih]
    show ((x == d) || decide (d ∈ r)) = _
    by_cases h : x = d
    · subst h; simp
    · have h' : ¬ d = x := fun z => h z.symm
      simp [h, h']
theorem pNotIn_il (d : Int) (ds : List Int) : pNotIn (.int d) (.lst (il ds)) = some (.bl (!decide (d ∈ ds))) := by
  show (if dat DEP (.int d) && (il ds).all (dat DEP) then some (AV.bl (!inAny (.int d) (il ds))) else none) = _
  rw [dat_il, inR_mem]
  rfl
def DaysI (p most : Int) (i : Nat) (ρ : Env') : Prop := ∃ ds s4 s5, ρ = [.fro .box, .fro (.int p), .fro (.int most), .ml (il ds), s4, s5] ∧ InR p ds ∧ ds.length ≤ i ∧ (0 < i → 0 < ds.length)
def DaysR (p : Int) (t : AV) : Prop := ∃ ds, t = .lst (il ds) ∧ InR p ds ∧ 0 < ds.length ∧ ds.length ≤ 60
def ShufR (xs : List AV) (t : AV) : Prop := ∃ ys, t = .lst ys ∧ ys.Perm xs
def ShufI (xs : List AV) (i : Nat) (ρ : Env') : Prop := ∃ rest found s4, ρ = [.fro .box, .fro (.lst xs), .ml rest, .ml found, s4] ∧ (found ++ rest).Perm xs ∧ found.length = i
def Good (p : Int) (due : List Int) : Prop := due.Pairwise (· ≤ ·) ∧ (∀ d ∈ due, 0 ≤ d ∧ d < p) ∧ 0 < due.length
theorem getD_mem {l : List Int} {i : Nat} (h : i < l.length) : l.getD i 0 ∈ l := by
  rw [List.getD_eq_getElem?_getD, List.getElem?_eq_getElem h]
  exact List.getElem_mem h
theorem far_small {due : List Int} {p : Int} {t : Nat} (h : t < due.length) : far due p t = due.getD t 0 := by
  unfold far
  rw [← Int.natCast_ediv, Nat.div_eq_of_lt h, Nat.mod_eq_of_lt h]
  simp
theorem far_add {due : List Int} {p : Int} (h0 : 0 < due.length) (r t : Nat) : far due p (r * due.length + t) = r * p + far due p t := by
  unfold far
  rw [← Int.natCast_ediv, ← Int.natCast_ediv, Nat.mul_comm r, Nat.mul_add_div h0, Nat.mul_add_mod]
  have : ((r + t / due.length : Nat) : Int) = (r : Int) + ((t / due.length : Nat) : Int) := by omega
  rw [this, Int.add_mul, Int.add_assoc]
theorem gterms_mem {p : Int} {due : List Int} {m : Nat} {x : Int} (h : x ∈ gterms due p m 0 due) : ∃ j, j < due.length ∧ x = far due p (j + m + 1) - due.getD j 0 := by
  obtain ⟨j, hj⟩ := List.getElem?_of_mem h
  have hlt : j < due.length := by
    have := (List.getElem?_eq_some_iff.mp hj).1
    rwa [gterms_len] at this
  rw [gterms_get due p m due 0 j hlt] at hj
  rw [Nat.zero_add] at hj
  exact ⟨j, hlt, (Option.some.inj hj).symm⟩
theorem top1_mem {l : List Int} (h : 0 < l.length) : top1 l ∈ l := by
  cases l with
  | nil => simp at h
  | cons x r => exact (maxL_spec r x).1
theorem top1_ge {l : List Int} {y : Int} (h : y ∈ l) : y ≤ top1 l := by
  cases l with
  | nil => simp at h
  | cons x r => exact (maxL_spec r x).2 y h
theorem gap_mem {p : Int} {due : List Int} (h0 : 0 < due.length) (m : Nat) : ∃ j, j < due.length ∧ gap due p m = far due p (j + m + 1) - due.getD j 0 := gterms_mem (top1_mem (by rw [gterms_len]; exact h0))
theorem gap_ge {p : Int} {due : List Int} (m : Nat) {j : Nat} (hj : j < due.length) : far due p (j + m + 1) - due.getD j 0 ≤ gap due p m := by
  refine top1_ge (List.mem_of_getElem? (i := j) ?_)
  rw [gterms_get due p m due 0 j hj, Nat.zero_add]
theorem gap_far {p : Int} {due : List Int} (h0 : 0 < due.length) (r m : Nat) : gap due p (r * due.length + m) = r * p + gap due p m := by
  obtain ⟨j, hj, e⟩ := gap_mem (p := p) h0 (r * due.length + m)
  obtain ⟨i, hi, e2⟩ := gap_mem (p := p) h0 m
  have a1 := gap_ge (p := p) (due := due) m hj
  have a2 := gap_ge (p := p) (due := due) (r * due.length + m) hi
  have s1 : j + (r * due.length + m) + 1 = r * due.length + (j + m + 1) := by omega
  have s2 : i + (r * due.length + m) + 1 = r * due.length + (i + m + 1) := by omega
  rw [s1, far_add h0] at e
  rw [s2, far_add h0] at a2
  omega
theorem gap_whole {p : Int} {due : List Int} (h0 : 0 < due.length) : gap due p (due.length - 1) = p := by
  obtain ⟨j, hj, e⟩ := gap_mem (p := p) h0 (due.length - 1)
  have s : j + (due.length - 1) + 1 = 1 * due.length + j := by omega
  rw [s, far_add h0, far_small hj] at e
  have : ((1 : Nat) : Int) * p = p := by simp
  omega
def least (p : Int) (n m : Nat) : Int := -(-((m : Int) + 1) * p / (n : Int))
def evn (p : Int) (n i : Nat) : Int := -(-(i : Int) * p / (n : Int))
theorem allEq_il (n : Nat) : ∀ a b : List Int, allEq (aeq n) (il a) (il b) = decide (a = b)
  | [], [] => rfl
  | [], _ :: _ => rfl
  | _ :: _, [] => rfl
  | x :: a, y :: b => by
    show (aeq n (.int x) (.int y) && allEq (aeq n) (il a) (il b)) = _
    rw [allEq_il n a b]
    have e : aeq n (.int x) (.int y) = (x == y) := by cases n <;> rfl
    rw [e]
    by_cases h1 : x = y
    · subst h1
      by_cases h2 : a = b
      · simp [h2]
      · simp [h2]
    · simp [h1]
theorem pEq_il (a b : List Int) : pEq (.lst (il a)) (.lst (il b)) = some (.bl (decide (a = b))) := by
  unfold pEq
  have d1 : dat DEP (.lst (il a)) = true := dat_il 11 a
  have d2 : dat DEP (.lst (il b)) = true := dat_il 11 b
  have e : aeq DEP (.lst (il a)) (.lst (il b)) = decide (a = b) := allEq_il 11 a b
  rw [d1, d2, e]
  rfl
def Best (due : List Int) (p : Int) : Prop := (List.range due.length).map (gap due p) = (List.range due.length).map (least p due.length)
instance (due : List Int) (p : Int) : Decidable (Best due p) := by unfold Best; infer_instance
theorem far_gaps {due : List Int} {p : Int} (h0 : 0 < due.length) (i : Nat) : far ((List.range due.length).map (gap due p)) p i = gap due p i := by
  have hl : ((List.range due.length).map (gap due p)).length = due.length := by rw [List.length_map, List.length_range]
  unfold far
  rw [hl]
  have hm : i % due.length < due.length := Nat.mod_lt _ h0
  have e : ((List.range due.length).map (gap due p)).getD (i % due.length) 0 = gap due p (i % due.length) := by
    rw [List.getD_eq_getElem?_getD, List.getElem?_map, List.getElem?_range hm]
    rfl
  rw [e]
  have q := gap_far (p := p) h0 (i / due.length) (i % due.length)
  rw [show i / due.length * due.length + i % due.length = i by rw [Nat.mul_comm]; exact Nat.div_add_mod i due.length] at q
  rw [q, Int.natCast_ediv]
def NLn (D O : List Int) (p : Int) (n : Nat) : Prop := ∀ i, i < n → gap D p i ≤ gap O p i
instance (D O : List Int) (p : Int) (n : Nat) : Decidable (NLn D O p n) := by unfold NLn; infer_instance
theorem gap_add {due : List Int} {p : Int} (h0 : 0 < due.length) (r m : Nat) : gap due p (r * due.length + m) = r * p + gap due p m := gap_far h0 r m
def sumTo (f : Nat → Int) : Nat → Int
  | 0 => 0
  | n + 1 => sumTo f n + f n
def E (p : Int) (n : Nat) (t : Nat) : Int := -(-((t : Int) * p) / (n : Int))
theorem E_add (p : Int) {n : Nat} (hn : 0 < n) (t : Nat) : E p n (t + n) = E p n t + p := by
  unfold E
  have e : -(((t + n : Nat) : Int) * p) = -((t : Int) * p) + (-p) * (n : Int) := by
    rw [show ((t + n : Nat) : Int) = (t : Int) + (n : Int) by omega, Int.add_mul, Int.neg_mul, Int.mul_comm (n : Int) p]
    omega
  rw [e, Int.add_mul_ediv_right _ _ (by omega)]
  omega
end Dn
set_option Elab.async false
set_option linter.all false
set_option maxRecDepth 100000
set_option maxHeartbeats 0
namespace Dn
open PySem PySem.Spec PyProof.Rows L2
abbrev Rw := List Int × List Nat
def nl (l : List Nat) : List AV := l.map fun k : Nat => AV.int (k : Int)
def rwAt (rows : List Rw) (d : Nat) : Rw := rows.getD (d % rows.length) ([], [])
def sg (rows : List Rw) (w : Nat) : Nat → Nat
  | 0 => w
  | d + 1 => (rwAt rows d).2.getD (sg rows w d) 0
structure WR (n : Nat) (rows : List Rw) : Prop where
  n0 : 0 < n
  n1 : n ≤ 100
  r0 : 0 < rows.length
  r1 : rows.length ≤ 100
  mv : ∀ r ∈ rows, r.2.length = n ∧ r.2.Nodup ∧ ∀ x ∈ r.2, x < n
  tn : ∀ r ∈ rows, r.1.Nodup ∧ ∀ x ∈ r.1, 0 ≤ x ∧ x < (n : Int)
section
variable {n : Nat} {rows : List Rw} {u w d : Nat}
def ord (n : Nat) (rows : List Rw) (w : Nat) : Nat := match (List.range n).find? (fun k => sg rows w (rows.length * (k + 1)) == w) with
  | some k => k + 1
  | none => 1
def per (n : Nat) (rows : List Rw) (w : Nat) : Nat := rows.length * ord n rows w
def dueb (rows : List Rw) (w d : Nat) : Bool := decide (((sg rows w d : Nat) : Int) ∈ (rwAt rows d).1)
def cnt (rows : List Rw) (w d : Nat) : Nat := ((List.range d).filter (dueb rows w)).length
def dys (n : Nat) (rows : List Rw) (w : Nat) : List Nat := (List.range (per n rows w)).filter (dueb rows w)
def dysI (n : Nat) (rows : List Rw) (w : Nat) : List Int := (dys n rows w).map fun k : Nat => (k : Int)
def fd (n : Nat) (rows : List Rw) (w i : Nat) : Nat := per n rows w * (i / cnt rows w (per n rows w)) + (dys n rows w).getD (i % cnt rows w (per n rows w)) 0
end
def rowV (r : Rw) : AV := .tup [.tup (il r.1), .tup (nl r.2)]
def rotaV (n : Nat) (rows : List Rw) : AV := .ins 0 [.int (n : Int), .tup (rows.map rowV)]
theorem pNe_int (a b : Int) : pNe (.int a) (.int b) = some (.bl (!decide (a = b))) := rfl
theorem pEq_int (a b : Int) : pEq (.int a) (.int b) = some (.bl (decide (a = b))) := rfl
end Dn
set_option Elab.async false
set_option linter.all false
set_option maxRecDepth 100000
set_option maxHeartbeats 0
namespace Dn
open PySem PySem.Spec PyProof.Rows L2
def LoopQ (I : Env' → Prop) (P : Out → Prop) : Out → Prop
  | .nx ρ => I ρ
  | .ct ρ => I ρ
  | .bk ρ => P (.nx ρ)
  | .rt t => P (.rt t)
def FnQ (R : AV → Prop) : Out → Prop
  | .rt t => R t
  | .nx _ => R .non
  | _ => False
section
variable {α γ : Type} {Q : Out → Prop} {E : Nat → List AV → Prop} {ρ : Env'} {f k : SSem} {P : α → Prop}
theorem all_congr {m : T α} {P' : α → Prop} (h : ∀ a, P a ↔ P' a) : m.all P E ↔ m.all P' E := ⟨fun z => T.all_mono z (fun a => (h a).mp) fun _ _ z => z, fun z => T.all_mono z (fun a => (h a).mpr) fun _ _ z => z⟩
theorem al_bindI {m : T α} {g : α → T γ} {R : γ → Prop} : (m.bind g).Al R E ↔ m.Al (fun a => (g a).Al R E) E := by
  rw [al_iff, T.all_bind, al_iff]
  exact all_congr fun a => al_iff.symm
theorem al_retI {a : α} : (T.ret a).Al P E ↔ P a := al_iff
theorem al_drawI {n : Nat} {g : Nat → T α} : (T.draw n g).Al P E ↔ ∀ r, r < n → (g r).Al P E := by
  rw [al_iff]
  exact ⟨fun h r hr => al_iff.mpr (h r hr), fun h r hr => al_iff.mp (h r hr)⟩
theorem al_seq : (sSeq f k ρ).Al Q E ↔ (f ρ).Al (Nx (fun ρ' => (k ρ').Al Q E) Q) E := by
  unfold sSeq
  rw [al_bindI, al_iff, al_iff]
  refine all_congr fun o => ?_
  cases o
  · exact Iff.rfl
  · exact al_retI
  · exact al_retI
  · exact al_retI
theorem nx_nx {R : Env' → Prop} : Nx R Q (.nx ρ) ↔ R ρ := Iff.rfl
theorem lq_nx {I : Env' → Prop} : LoopQ I Q (.nx ρ) ↔ I ρ := Iff.rfl
theorem aFnQ {np n : Nat} {body : SSem} {ts : List AV} {R : AV → Prop} (hl : ts.length = np) (h : (body (ts.map Slot.fro ++ List.replicate (n - np) .un)).Al (FnQ R) E) : (fnOf np n body ts).Al R E := by
  refine aFn hl (al_mono h fun o q => ?_)
  cases o <;> exact q
theorem al_forL {g : GSem} {body : SSem} {xs : List AV} (I : Nat → Env' → Prop) (h0 : I 0 ρ) (step : ∀ (i : Nat) (x : AV) (ρ : Env'), xs[i]? = some x → I i ρ → (g x ρ).Al (fun ρ1 => (body ρ1).Al (LoopQ (I (i + 1)) Q) E) E) (hend : ∀ ρ, I xs.length ρ → Q (.nx ρ)) : (forL g body xs ρ).Al Q E := by
  refine al_iff.mpr (forL_all I h0 (fun i x ρ hx hI => T.all_mono (al_iff.mp (step i x ρ hx hI)) (fun ρ1 q => T.all_mono (al_iff.mp q) (fun o q => ?_) fun _ _ z => z) fun _ _ z => z) hend)
  cases o <;> exact q
end
def lcRun (k : GSem) (tt : SemB) (el : Sem) (x : AV) (w : Env') : T (Option AV × Env') := (k x w).bind fun ρ1 => (tt ρ1).bind fun p => if p.1 = true then (el p.2).bind fun q => (frz q).bind fun s => .ret (some s.1, s.2) else .ret (none, p.2)
theorem lcL_pure {α : Type} {vs : List Nat} {k : GSem} {tt : SemB} {el : Sem} {w : Env'} {enc : α → AV} {h : α → Option AV} : ∀ {l : List α} {acc : List AV} {ρ : Env'}, wipeE ρ vs = w →
    (∀ b ∈ l, ∃ ρ2, lcRun k tt el (enc b) w = .ret (h b, ρ2) ∧ wipeE ρ2 vs = w) → ∃ ρ2, lcL vs k tt el (l.map enc) acc ρ = .ret (acc ++ l.filterMap h, ρ2) ∧ wipeE ρ2 vs = w
  | [], acc, ρ, hw, _ => ⟨ρ, by rw [List.filterMap_nil, List.append_nil]; rfl, hw⟩
  | b :: l, acc, ρ, hw, hs => by
    obtain ⟨ρ2, e, hw2⟩ := hs b (by simp)
    have z : ((k (enc b) (wipeE ρ vs)).bind fun ρ1 => (tt ρ1).bind fun p => if p.1 = true then (el p.2).bind fun q => (frz q).bind fun s => .ret (acc ++ [s.1], s.2) else .ret (acc, p.2)) = .ret (match h b with | some y => acc ++ [y] | none => acc, ρ2) := by
      rw [hw]
      have := congrArg (fun m : T (Option AV × Env') => m.bind fun s => T.ret (match s.1 with | some y => acc ++ [y] | none => acc, s.2)) e
      unfold lcRun at this
      simp only [T.bind_assoc] at this
      refine Eq.trans ?_ this
      congr 1
      funext ρ1
      congr 1
      funext p
      by_cases hp : p.1 = true
      · simp only [hp, if_true, T.bind_assoc]
        rfl
      · rw [if_neg hp, if_neg hp]
        rfl
    show ∃ ρ2, (noExc _).bind _ = _ ∧ _
    rw [z]
    cases q : h b with
    | some y =>
      obtain ⟨ρ3, e3, hw3⟩ := lcL_pure (acc := acc ++ [y]) hw2 fun c hc => hs c (List.mem_cons_of_mem _ hc)
      refine ⟨ρ3, ?_, hw3⟩
      rw [List.filterMap_cons, q]
      show lcL vs k tt el (l.map enc) (acc ++ [y]) ρ2 = _
      rw [e3, List.append_assoc]
      rfl
    | none =>
      obtain ⟨ρ3, e3, hw3⟩ := lcL_pure (acc := acc) hw2 fun c hc => hs c (List.mem_cons_of_mem _ hc)
      refine ⟨ρ3, ?_, hw3⟩
      rw [List.filterMap_cons, q]
      exact e3
theorem nLc_T {α : Type} {vs : List Nat} {it : SemI} {k : GSem} {tt : SemB} {el : Sem} {ρ ρ' : Env'} {l : List α} (enc : α → AV) (h : α → Option AV) (hit : it ρ = .ret (l.map enc, ρ')) (hb : l.length < big) (hback : backE ρ' ρ' vs = ρ')
    (hs : ∀ b ∈ l, ∃ ρ2, lcRun k tt el (enc b) (wipeE ρ' vs) = .ret (h b, ρ2) ∧ wipeE ρ2 vs = wipeE ρ' vs) : nLc vs it k tt el ρ = .ret (l.filterMap h, ρ') := by
  unfold nLc
  rw [hit, bind_ret', if_pos (by rw [List.length_map]; exact hb)]
  obtain ⟨ρ2, e, hw⟩ := lcL_pure (acc := []) rfl hs
  rw [e, bind_ret', backE_eq vs hw, hback, List.nil_append]
theorem nLc_M {α : Type} {vs : List Nat} {it : SemI} {k : GSem} {tt : SemB} {el : Sem} {ρ ρ' : Env'} {l : List α} (enc : α → AV) (h : α → AV) (hit : it ρ = .ret (l.map enc, ρ')) (hb : l.length < big) (hback : backE ρ' ρ' vs = ρ')
    (hs : ∀ b ∈ l, ∃ ρ2, lcRun k tt el (enc b) (wipeE ρ' vs) = .ret (some (h b), ρ2) ∧ wipeE ρ2 vs = wipeE ρ' vs) : nLc vs it k tt el ρ = .ret (l.map h, ρ') := by
  rw [nLc_T enc (fun b => some (h b)) hit hb hback hs, ← List.filterMap_eq_map]
  rfl
theorem below62' {i : Int} (h : -4611686018427387904 < i ∧ i < 4611686018427387904) : below i 62 = true := below_of (by omega)
theorem below64' {i : Int} (h : -18446744073709551616 < i ∧ i < 18446744073709551616) : below i 64 = true := below_of (by omega)
theorem mul_ok {i j : Int} (hi : i.natAbs < 2 ^ 200) (hj : j.natAbs < 2 ^ 200) : pMul (.int i) (.int j) = some (.int (i * j)) := by
  unfold pMul
  have a := lg hi
  have b := lg hj
  exact if_pos (by omega)
theorem div_ok {i j : Int} (h0 : 0 < j) (hj : j < 2 ^ 200) : pDiv (.int i) (.int j) = some (.int (i / j)) := by
  unfold pDiv
  have b := lg (i := j) (by omega)
  exact if_pos ⟨h0, by omega⟩
theorem mod_ok {i j : Int} (h0 : 0 < j) : pMod (.int i) (.int j) = some (.int (i % j)) := if_pos h0
theorem pow_ok {i : Int} {j : Nat} (hi : -18446744073709551616 < i ∧ i < 18446744073709551616) (hj : j ≤ 1000000) : pPow (.int i) (.int (j : Int)) = some (.int (i ^ j)) := by
  have e : (if 0 ≤ (j : Int) ∧ (j : Int) ≤ 1000000 ∧ below i 64 = true then some (AV.int (i ^ (j : Int).toNat)) else none) = some (.int (i ^ j)) := by
    rw [if_pos ⟨by omega, by omega, below64' hi⟩, Int.toNat_natCast]
  exact e
theorem take_ok {b : Int} (h1 : 1 ≤ b) (h2 : b < 18446744073709551616) : fDraw [.box, .int b] = T.draw b.toNat fun r => T.ret (AV.int (r : Int)) := by
  unfold fDraw
  exact if_pos ⟨h1, below64' (by omega)⟩
theorem al_rd {α : Type} {m : T α} {P : α → Prop} {E : Nat → List AV → Prop} (m' : T α) (h : m.bind .ret = m') (k : m'.Al P E) : m.Al P E := by
  rw [T.bind_ret] at h
  rw [h]
  exact k
theorem t_eq {α : Type} {m m' : T α} (h : m.bind .ret = m') : m = m' := (T.bind_ret m).symm.trans h
theorem al_nx {R : Env' → Prop} {Q : Out → Prop} {E : Nat → List AV → Prop} {ρ : Env'} (h : R ρ) : (T.ret (Out.nx ρ)).Al (Nx R Q) E := al_retI.mpr h
theorem al_endL {I : Env' → Prop} {Q : Out → Prop} {E : Nat → List AV → Prop} {ρ : Env'} (h : I ρ) : (sNil ρ).Al (LoopQ I Q) E := al_retI.mpr h
theorem al_rtF {R : Env' → Prop} {S : AV → Prop} {E : Nat → List AV → Prop} {t : AV} (h : S t) : (T.ret (Out.rt t)).Al (Nx R (FnQ S)) E := al_retI.mpr h
theorem al_cut {R : Env' → Prop} {Q : Out → Prop} {E : Nat → List AV → Prop} {m : T Out} (I : Env' → Prop) (h : m.Al (Nx I (fun _ => False)) E) (k : ∀ ρ, I ρ → R ρ) : m.Al (Nx R Q) E := by
  refine al_mono h fun o ho => ?_
  cases o with
  | nx ρ => exact k ρ ho
  | _ => exact (show False from ho).elim
def rawV (r : Rw) : AV := .tup [.lst (il r.1), .lst (nl r.2)]
def srtR (r : Rw) : Rw := (Dn.isort r.1, r.2)
def RowOk (n : Nat) (r : Rw) : Prop := (r.2.length = n ∧ r.2.Nodup ∧ ∀ x ∈ r.2, x < n) ∧ r.1.Nodup ∧ ∀ x ∈ r.1, 0 ≤ x ∧ x < (n : Int)
theorem WR.row {n : Nat} {rows : List Rw} (h : WR n rows) {r : Rw} (hr : r ∈ rows) : RowOk n r := ⟨h.mv r hr, h.tn r hr⟩
theorem rangeL_nl (n : Nat) : rangeL 0 n = nl (List.range n) := by
  unfold rangeL nl
  refine List.map_congr_left fun i _ => ?_
  rw [Int.zero_add]
def SeqIs (t : AV) (xs : List AV) : Prop := t = .lst xs ∨ t = .tup xs
def RowIs (t : AV) (r : Rw) : Prop := ∃ a b, t = .tup [a, b] ∧ SeqIs a (il r.1) ∧ SeqIs b (nl r.2)
theorem intsOf_il (l : List Int) : intsOf (il l) = some l := intsOf_map l
theorem forL_ex {g : GSem} {body : SSem} (R : Nat → Env' → Prop) {xs : List AV} {ρ : Env'} (h0 : R 0 ρ) (step : ∀ (i : Nat) (x : AV) (ρ : Env'), xs[i]? = some x → R i ρ → ∃ ρ1 ρ2, g x ρ = .ret ρ1 ∧ body ρ1 = .ret (.nx ρ2) ∧ R (i + 1) ρ2) : ∃ ρ', forL g body xs ρ = .ret (.nx ρ') ∧ R xs.length ρ' := by
  have key : ∀ (n i : Nat) (ρ : Env'), xs.length - i = n → i ≤ xs.length → R i ρ → ∃ ρ', forL g body (xs.drop i) ρ = .ret (.nx ρ') ∧ R xs.length ρ' := by
    intro n
    induction n with
    | zero =>
      intro i ρ hn hi h
      have e : i = xs.length := by omega
      subst e
      rw [List.drop_length]
      exact ⟨ρ, rfl, h⟩
    | succ n ih =>
      intro i ρ hn hi h
      have hlt : i < xs.length := by omega
      obtain ⟨ρ1, ρ2, e1, e2, h2⟩ := step i xs[i] ρ (List.getElem?_eq_getElem hlt) h
      obtain ⟨ρ', q, h3⟩ := ih (i + 1) ρ2 (by omega) (by omega) h2
      refine ⟨ρ', ?_, h3⟩
      rw [List.drop_eq_getElem_cons hlt]
      show ((g xs[i] ρ).bind _) = _
      rw [e1, bind_ret', e2, bind_ret']
      exact q
  have := key xs.length 0 ρ rfl (Nat.zero_le _) h0
  rwa [List.drop_zero] at this
theorem al_dr {α : Type} {n : Nat} {g : Nat → T α} {P : α → Prop} {E : Nat → List AV → Prop} (h : ∀ r, r < n → (g r).Al P E) : (T.draw n g).Al P E := al_drawI.mpr h
theorem al_by {α γ : Type} {m : T α} {g : α → T γ} {R : α → Prop} {P : γ → Prop} {E : Nat → List AV → Prop} (h : m.Al R E) (k : ∀ a, R a → (g a).Al P E) : (m.bind g).Al P E := al_bind h k
theorem bind_exc' {α γ : Type} {c : Nat} {xs : List AV} {f : α → T γ} : (T.exc c xs : T α).bind f = .exc c xs := rfl
theorem bind_draw' {α γ : Type} {n : Nat} {k : Nat → T α} {f : α → T γ} : (T.draw n k).bind f = .draw n fun r => (k r).bind f := rfl
theorem fBin_b {γ : Type} {op : AV → AV → Option AV} {f k : Sem} {a0 : Slot} {l0 : Env'} {g : _ → T γ} : (fBin op f k (a0 :: l0)).bind g = (((f (a0 :: l0)).bind fun p => (k p.2).bind fun q => (lift (rs p.1 q.2)).bind fun a => (lift (rs q.1 q.2)).bind fun b => (lift (op a b)).bind fun z => .ret (.val z, q.2))).bind g := rfl
theorem fUn_b {γ : Type} {op : AV → Option AV} {f : Sem} {a0 : Slot} {l0 : Env'} {g : _ → T γ} : (fUn op f (a0 :: l0)).bind g = (((f (a0 :: l0)).bind fun p => (lift (rs p.1 p.2)).bind fun a => (lift (op a)).bind fun z => .ret (.val z, p.2))).bind g := rfl
theorem fTru_b {γ : Type} {f : Sem} {a0 : Slot} {l0 : Env'} {g : _ → T γ} : (fTru f (a0 :: l0)).bind g = (((f (a0 :: l0)).bind fun p => (lift (rs p.1 p.2)).bind fun a => (lift (tru a)).bind fun b => .ret (b, p.2))).bind g := rfl
theorem fBlT_b {γ : Type} {f : Sem} {a0 : Slot} {l0 : Env'} {g : _ → T γ} : (fBlT f (a0 :: l0)).bind g = (((f (a0 :: l0)).bind fun p => (lift (rs p.1 p.2)).bind fun a => (lift (blOf a)).bind fun b => .ret (b, p.2))).bind g := rfl
theorem fNotT_b {γ : Type} {f : SemB} {a0 : Slot} {l0 : Env'} {g : _ → T γ} : (fNotT f (a0 :: l0)).bind g = (((f (a0 :: l0)).bind fun p => .ret (!p.1, p.2))).bind g := rfl
theorem fOrT_b {γ : Type} {f k : SemB} {a0 : Slot} {l0 : Env'} {g : _ → T γ} : (fOrT f k (a0 :: l0)).bind g = (((f (a0 :: l0)).bind fun p => if p.1 then .ret (true, p.2) else k p.2)).bind g := rfl
theorem fAnd_b {γ : Type} {f k : Sem} {a0 : Slot} {l0 : Env'} {g : _ → T γ} : (fAnd f k (a0 :: l0)).bind g = (((f (a0 :: l0)).bind fun p => (lift (rs p.1 p.2)).bind fun a => (lift (blOf a)).bind fun b => if b then k p.2 else .ret (.val (.bl false), p.2))).bind g := rfl
theorem fNot_b {γ : Type} {f : Sem} {a0 : Slot} {l0 : Env'} {g : _ → T γ} : (fNot f (a0 :: l0)).bind g = (((f (a0 :: l0)).bind fun p => (lift (rs p.1 p.2)).bind fun a => (lift (blOf a)).bind fun b => .ret (.val (.bl (!b)), p.2))).bind g := rfl
theorem fIf_b {γ : Type} {t : SemB} {f k : Sem} {a0 : Slot} {l0 : Env'} {g : _ → T γ} : (fIf t f k (a0 :: l0)).bind g = (((t (a0 :: l0)).bind fun p => if p.1 then f p.2 else k p.2)).bind g := rfl
theorem lCons_b {γ : Type} {f : Sem} {k : SemL} {a0 : Slot} {l0 : Env'} {g : _ → T γ} : (lCons f k (a0 :: l0)).bind g = (((f (a0 :: l0)).bind fun p => (frz p).bind fun q => (k q.2).bind fun r => .ret (q.1 :: r.1, r.2))).bind g := rfl
theorem fTup_b {γ : Type} {k : SemL} {a0 : Slot} {l0 : Env'} {g : _ → T γ} : (fTup k (a0 :: l0)).bind g = (((k (a0 :: l0)).bind fun p => if p.1.length ≤ big then .ret (.val (.tup p.1), p.2) else .bad)).bind g := rfl
theorem fSl_b {γ : Type} {f : Sem} {l h : Option Sem} {a0 : Slot} {l0 : Env'} {g : _ → T γ} : (fSl f l h (a0 :: l0)).bind g = (((f (a0 :: l0)).bind fun p => (fPart l p.2).bind fun q => (fPart h q.2).bind fun r => (lift (rs p.1 r.2)).bind fun a => (lift (pCut a q.1 r.1)).bind fun z => .ret (.val z, r.2))).bind g := rfl
theorem fCall_b {γ : Type} {fn : List AV → T AV} {dts : List AV} {k : SemL} {a0 : Slot} {l0 : Env'} {g : _ → T γ} : (fCall fn dts k (a0 :: l0)).bind g = (((k (a0 :: l0)).bind fun p => (fn (p.1 ++ dts)).bind fun t => .ret (.val t, p.2))).bind g := rfl
theorem sSeq_b {γ : Type} {f k : SSem} {a0 : Slot} {l0 : Env'} {g : _ → T γ} : (sSeq f k (a0 :: l0)).bind g = (((f (a0 :: l0)).bind fun
  | .nx ρ' => k ρ'
  | o => .ret o)).bind g := rfl
theorem sExpr_b {γ : Type} {f : Sem} {a0 : Slot} {l0 : Env'} {g : _ → T γ} : (sExpr f (a0 :: l0)).bind g = (((f (a0 :: l0)).bind fun p => .ret (.nx p.2))).bind g := rfl
theorem sRet_b {γ : Type} {f : Sem} {a0 : Slot} {l0 : Env'} {g : _ → T γ} : (sRet f (a0 :: l0)).bind g = (((f (a0 :: l0)).bind fun p => (frz p).bind fun q => .ret (.rt q.1))).bind g := rfl
theorem sIf_b {γ : Type} {t : SemB} {f k : SSem} {a0 : Slot} {l0 : Env'} {g : _ → T γ} : (sIf t f k (a0 :: l0)).bind g = (((t (a0 :: l0)).bind fun p => if p.1 then f p.2 else k p.2)).bind g := rfl
theorem sSet_b {γ : Type} {i : Nat} {f : Sem} {a0 : Slot} {l0 : Env'} {g : _ → T γ} : (sSet i f (a0 :: l0)).bind g = (((f (a0 :: l0)).bind fun p => (frz p).bind fun q => .ret (.nx (q.2.set i (.fro q.1))))).bind g := rfl
theorem sAsg_b {γ : Type} {f : Sem} {k : GSem} {a0 : Slot} {l0 : Env'} {g : _ → T γ} : (sAsg f k (a0 :: l0)).bind g = (((f (a0 :: l0)).bind fun p => (frz p).bind fun q => (k q.1 q.2).bind fun ρ' => .ret (.nx ρ'))).bind g := rfl
theorem iSeq_b {γ : Type} {f : Sem} {a0 : Slot} {l0 : Env'} {g : _ → T γ} : (iSeq f (a0 :: l0)).bind g = (((f (a0 :: l0)).bind fun p => (frz p).bind fun q => (lift (seqOf q.1)).bind fun xs => .ret (xs, q.2))).bind g := rfl
theorem iRange1_b {γ : Type} {f : Sem} {a0 : Slot} {l0 : Env'} {g : _ → T γ} : (iRange1 f (a0 :: l0)).bind g = (((f (a0 :: l0)).bind fun p => (lift (rs p.1 p.2)).bind fun a => (lift (intOf a)).bind fun j => if below j 62 = true then .ret (rangeL 0 j.toNat, p.2) else .bad)).bind g := rfl
theorem sFor_b {γ : Type} {it : SemI} {k : GSem} {body : SSem} {a0 : Slot} {l0 : Env'} {g : _ → T γ} : (sFor it k body (a0 :: l0)).bind g = (((it (a0 :: l0)).bind fun p => forL k body p.1 p.2)).bind g := rfl
theorem fNew_b {γ : Type} {f : SemN} {a0 : Slot} {l0 : Env'} {g : _ → T γ} : (fNew f (a0 :: l0)).bind g = (((f (a0 :: l0)).bind fun p => .ret (.val (.lst p.1), p.2))).bind g := rfl
theorem sSetN_b {γ : Type} {i : Nat} {f : SemN} {a0 : Slot} {l0 : Env'} {g : _ → T γ} : (sSetN i f (a0 :: l0)).bind g = (((f (a0 :: l0)).bind fun p => .ret (.nx (p.2.set i (.ml p.1))))).bind g := rfl
theorem nLst_b {γ : Type} {k : SemL} {a0 : Slot} {l0 : Env'} {g : _ → T γ} : (nLst k (a0 :: l0)).bind g = (((k (a0 :: l0)).bind fun p => if p.1.length ≤ big then .ret (p.1, p.2) else .bad)).bind g := rfl
theorem fAppend_b {γ : Type} {j : Nat} {f : Sem} {a0 : Slot} {l0 : Env'} {g : _ → T γ} : (fAppend j f (a0 :: l0)).bind g = (((lift (isMl (a0 :: l0) j)).bind fun _ => (f (a0 :: l0)).bind fun p => (frz p).bind fun q => (lift (isMl q.2 j)).bind fun xs => if xs.length < big then .ret (.val .non, q.2.set j (.ml (xs ++ [q.1]))) else .bad)).bind g := rfl
theorem fExtend_b {γ : Type} {j : Nat} {f : Sem} {a0 : Slot} {l0 : Env'} {g : _ → T γ} : (fExtend j f (a0 :: l0)).bind g = (((lift (isMl (a0 :: l0) j)).bind fun _ => (f (a0 :: l0)).bind fun p => (lift (rs p.1 p.2)).bind fun a => (lift (lstOf a)).bind fun ys => (lift (isMl p.2 j)).bind fun xs => if xs.length + ys.length ≤ big then .ret (.val .non, p.2.set j (.ml (xs ++ ys))) else .bad)).bind g := rfl
theorem sPar_b {γ : Type} {i j : Nat} {m : SemL} {a0 : Slot} {l0 : Env'} {g : _ → T γ} : (sPar i j m (a0 :: l0)).bind g = (((m (a0 :: l0)).bind fun p => match p.1 with
  | [t, u] => .ret (.nx ((p.2.set i (.fro t)).set j (.fro u)))
  | _ => .bad)).bind g := rfl
theorem tDin_b {γ : Type} {j : Nat} {f : Sem} {a0 : Slot} {l0 : Env'} {g : _ → T γ} : (tDin j f (a0 :: l0)).bind g = (((f (a0 :: l0)).bind fun p => (lift (rs p.1 p.2)).bind fun a => (lift (keyOf1 a)).bind fun k => (lift (isMd p.2 j)).bind fun kvs => .ret ((dFind kvs k).isSome, p.2))).bind g := rfl
theorem sDput_b {γ : Type} {j : Nat} {fk fv : Sem} {a0 : Slot} {l0 : Env'} {g : _ → T γ} : (sDput j fk fv (a0 :: l0)).bind g = (((fv (a0 :: l0)).bind fun p => (frz p).bind fun q => (lift (isMd q.2 j)).bind fun _ => (fk q.2).bind fun r => (lift (rs r.1 r.2)).bind fun a => (lift (keyOf1 a)).bind fun k => (lift (isMd r.2 j)).bind fun kvs =>
  if kvs.length < big then .ret (.nx (r.2.set j (.md true (dPut kvs a k q.1)))) else .bad)).bind g := rfl
theorem fDlist_b {γ : Type} {j : Nat} {a0 : Slot} {l0 : Env'} {g : _ → T γ} : (fDlist j (a0 :: l0)).bind g = (((lift (isMd (a0 :: l0) j)).bind fun kvs => .ret (.val (.lst (kvs.map (·.1))), (a0 :: l0)))).bind g := rfl
theorem sRetBox_b {γ : Type} {test : List AV → Bool} {f : SemN} {a0 : Slot} {l0 : Env'} {g : _ → T γ} : (sRetBox test f (a0 :: l0)).bind g = (((f (a0 :: l0)).bind fun p => if test p.1 then .ret (.rt .box) else .bad)).bind g := rfl
theorem iEnum_b {γ : Type} {f : Sem} {a0 : Slot} {l0 : Env'} {g : _ → T γ} : (Dn.iEnum f (a0 :: l0)).bind g = (((f (a0 :: l0)).bind fun p => (frz p).bind fun q => (lift (seqOf q.1)).bind fun xs => .ret (enumL 0 xs, q.2))).bind g := rfl
def lenK (c : Nat) (fn : List AV → T AV) (t : AV) (ρ : Env') : T (Hd × Env') := match t with
  | .ins c' xs => if c' = c then (fn [.ins c' xs]).bind fun t => (lift (intU t)).bind fun i => .ret (.val (.int i), ρ) else .bad
  | _ => .bad
theorem fC_b {γ : Type} {t : AV} {ρ : Env'} {g : Hd × Env' → T γ} : (fC t ρ).bind g = g (.val t, ρ) := rfl
theorem lNil_b {γ : Type} {ρ : Env'} {g : List AV × Env' → T γ} : (lNil ρ).bind g = g ([], ρ) := rfl
theorem sNil_b {γ : Type} {ρ : Env'} {g : Out → T γ} : (sNil ρ).bind g = g (.nx ρ) := rfl
theorem fYes_b {γ : Type} {ρ : Env'} {g : Bool × Env' → T γ} : (fYes ρ).bind g = g (true, ρ) := rfl
theorem tgName_b {γ : Type} {i : Nat} {t : AV} {a0 : Slot} {l0 : Env'} {g : Env' → T γ} : (tgName i t (a0 :: l0)).bind g = g ((a0 :: l0).set i (.fro t)) := rfl
theorem tgNil_b {γ : Type} {ρ : Env'} {g : Env' → T γ} : (tgNil [] ρ).bind g = g ρ := rfl
theorem tgCons_b {γ : Type} {f : GSem} {k : List AV → Env' → T Env'} {t : AV} {r : List AV} {a0 : Slot} {l0 : Env'} {g : Env' → T γ} : (tgCons f k (t :: r) (a0 :: l0)).bind g = ((f t (a0 :: l0)).bind fun ρ' => k r ρ').bind g := rfl
theorem tgTup_b {γ : Type} {n : Nat} {k : List AV → Env' → T Env'} {xs : List AV} {ρ : Env'} {g : Env' → T γ} : (tgTup n k (.tup xs) ρ).bind g = (if xs.length = n then k xs ρ else .bad).bind g := rfl
theorem sDnew_b {γ : Type} {i : Nat} {ρ : Env'} {g : Out → T γ} : (sDnew i ρ).bind g = g (.nx (ρ.set i (.md true []))) := rfl
theorem fPart_n {γ : Type} {ρ : Env'} {g : Option Int × Env' → T γ} : (fPart none ρ).bind g = g (none, ρ) := rfl
theorem fPart_s {γ : Type} {f : Sem} {a0 : Slot} {l0 : Env'} {g : Option Int × Env' → T γ} : (fPart (some f) (a0 :: l0)).bind g = ((f (a0 :: l0)).bind fun p => (lift (rs p.1 p.2)).bind fun a => (lift (intOf a)).bind fun i => .ret (some i, p.2)).bind g := rfl
theorem frz_val {γ : Type} {t : AV} {ρ : Env'} {g : AV × Env' → T γ} : (frz (.val t, ρ)).bind g = g (t, ρ) := rfl
theorem rs_val {t : AV} {ρ : Env'} : rs (.val t) ρ = some t := rfl
theorem lcRun_b {γ : Type} {k : GSem} {tt : SemB} {el : Sem} {x : AV} {a0 : Slot} {l0 : Env'} {g : Option AV × Env' → T γ} : (lcRun k tt el x (a0 :: l0)).bind g = ((k x (a0 :: l0)).bind fun ρ1 => (tt ρ1).bind fun p => if p.1 = true then (el p.2).bind fun q => (frz q).bind fun s => .ret (some s.1, s.2) else .ret (none, p.2)).bind g := rfl
theorem outV_rt {t : AV} : outV (.rt t) = .ret t := rfl
theorem wipeE_n {ρ : Env'} : wipeE ρ [] = ρ := rfl
theorem wipeE_u {a0 : Slot} {l0 : Env'} {v : Nat} {vs : List Nat} : wipeE (a0 :: l0) (v :: vs) = (wipeE (a0 :: l0) vs).set v .un := rfl
theorem seqOf_t {xs : List AV} : seqOf (.tup xs) = some xs := rfl
theorem seqOf_l {xs : List AV} : seqOf (.lst xs) = some xs := rfl
theorem lstOf_l {xs : List AV} : lstOf (.lst xs) = some xs := rfl
theorem intOf_i {i : Int} : intOf (.int i) = some i := rfl
theorem blOf_b {b : Bool} : blOf (.bl b) = some b := rfl
theorem tru_b {b : Bool} : tru (.bl b) = some b := rfl
theorem pLen_l {xs : List AV} : pLen (.lst xs) = some (.int xs.length) := rfl
theorem pLen_s {xs : List Int} : pLen (.scr xs) = some (.int xs.length) := rfl
theorem pInt_i {i : Int} : pInt (.int i) = some (.int i) := rfl
theorem pAbs_i {i : Int} : pAbs (.int i) = some (.int (if i < 0 then -i else i)) := rfl
theorem pAdd_i {i j : Int} : pAdd (.int i) (.int j) = some (.int (i + j)) := rfl
theorem pSub_i {i j : Int} : pSub (.int i) (.int j) = some (.int (i - j)) := rfl
theorem pNeg_i {i : Int} : pNeg (.int i) = some (.int (-i)) := rfl
theorem pLt_i {i j : Int} : pLt (.int i) (.int j) = some (.bl (decide (i < j))) := rfl
theorem pGt_i {i j : Int} : pGt (.int i) (.int j) = some (.bl (decide (j < i))) := rfl
theorem pGe_i {i j : Int} : pGe (.int i) (.int j) = some (.bl (decide (j ≤ i))) := rfl
theorem pMax2_i {i j : Int} : pMax2 (.int i) (.int j) = some (.int (if j > i then j else i)) := rfl
theorem pMin2_i {i j : Int} : pMin2 (.int i) (.int j) = some (.int (if j < i then j else i)) := rfl
theorem pDivmod_i {i j : Int} : pDivmod (.int i) (.int j) = if 0 < j ∧ below j 29 = true then some (.tup [.int (i / j), .int (i % j)]) else none := rfl
theorem pIx_l {xs : List AV} {i : Int} : pIx (.lst xs) (.int i) = atI xs i := rfl
theorem pIs_nn : pIs .non .non = some (.bl true) := rfl
theorem pIs_in {i : Int} : pIs (.int i) .non = some (.bl false) := rfl
theorem isi_int_int {i : Int} : pIsi "int" (.int i) = some (.bl true) := by simp [pIsi, tyName, subTy]
theorem isi_int_bool {i : Int} : pIsi "bool" (.int i) = some (.bl false) := by simp [pIsi, tyName, subTy]
theorem isi2_tup {xs : List AV} : pIsi2 "list" "tuple" (.tup xs) = some (.bl true) := by simp [pIsi2, tyName, subTy]
theorem isi2_lst {xs : List AV} : pIsi2 "list" "tuple" (.lst xs) = some (.bl true) := by simp [pIsi2, tyName, subTy]
theorem seqOf_l_b {γ : Type} {xs : List AV} {g : _ → T γ} : (lift (seqOf (.lst xs))).bind g = g xs := by rw [seqOf_l]; rfl
theorem lstOf_l_b {γ : Type} {xs : List AV} {g : _ → T γ} : (lift (lstOf (.lst xs))).bind g = g xs := by rw [lstOf_l]; rfl
theorem intOf_i_b {γ : Type} {i : Int} {g : _ → T γ} : (lift (intOf (.int i))).bind g = g i := by rw [intOf_i]; rfl
theorem blOf_b_b {γ : Type} {b : Bool} {g : _ → T γ} : (lift (blOf (.bl b))).bind g = g b := by rw [blOf_b]; rfl
theorem tru_b_b {γ : Type} {b : Bool} {g : _ → T γ} : (lift (tru (.bl b))).bind g = g b := by rw [tru_b]; rfl
theorem pLen_l_b {γ : Type} {xs : List AV} {g : _ → T γ} : (lift (pLen (.lst xs))).bind g = g (.int xs.length) := by rw [pLen_l]; rfl
theorem pLen_s_b {γ : Type} {xs : List Int} {g : _ → T γ} : (lift (pLen (.scr xs))).bind g = g (.int xs.length) := by rw [pLen_s]; rfl
theorem pInt_i_b {γ : Type} {i : Int} {g : _ → T γ} : (lift (pInt (.int i))).bind g = g (.int i) := by rw [pInt_i]; rfl
theorem pAbs_i_b {γ : Type} {i : Int} {g : _ → T γ} : (lift (pAbs (.int i))).bind g = g (.int (if i < 0 then -i else i)) := by rw [pAbs_i]; rfl
theorem pAdd_i_b {γ : Type} {i j : Int} {g : _ → T γ} : (lift (pAdd (.int i) (.int j))).bind g = g (.int (i + j)) := by rw [pAdd_i]; rfl
theorem pSub_i_b {γ : Type} {i j : Int} {g : _ → T γ} : (lift (pSub (.int i) (.int j))).bind g = g (.int (i - j)) := by rw [pSub_i]; rfl
theorem pNeg_i_b {γ : Type} {i : Int} {g : _ → T γ} : (lift (pNeg (.int i))).bind g = g (.int (-i)) := by rw [pNeg_i]; rfl
theorem pLt_i_b {γ : Type} {i j : Int} {g : _ → T γ} : (lift (pLt (.int i) (.int j))).bind g = g (.bl (decide (i < j))) := by rw [pLt_i]; rfl
theorem pGt_i_b {γ : Type} {i j : Int} {g : _ → T γ} : (lift (pGt (.int i) (.int j))).bind g = g (.bl (decide (j < i))) := by rw [pGt_i]; rfl
theorem pGe_i_b {γ : Type} {i j : Int} {g : _ → T γ} : (lift (pGe (.int i) (.int j))).bind g = g (.bl (decide (j ≤ i))) := by rw [pGe_i]; rfl
theorem pMax2_i_b {γ : Type} {i j : Int} {g : _ → T γ} : (lift (pMax2 (.int i) (.int j))).bind g = g (.int (if j > i then j else i)) := by rw [pMax2_i]; rfl
theorem pMin2_i_b {γ : Type} {i j : Int} {g : _ → T γ} : (lift (pMin2 (.int i) (.int j))).bind g = g (.int (if j < i then j else i)) := by rw [pMin2_i]; rfl
theorem pIs_nn_b {γ : Type} {g : _ → T γ} : (lift (pIs .non .non)).bind g = g (.bl true) := by rw [pIs_nn]; rfl
theorem pIs_in_b {γ : Type} {i : Int} {g : _ → T γ} : (lift (pIs (.int i) .non)).bind g = g (.bl false) := by rw [pIs_in]; rfl
theorem isi_int_int_b {γ : Type} {i : Int} {g : _ → T γ} : (lift (pIsi "int" (.int i))).bind g = g (.bl true) := by rw [isi_int_int]; rfl
theorem isi_int_bool_b {γ : Type} {i : Int} {g : _ → T γ} : (lift (pIsi "bool" (.int i))).bind g = g (.bl false) := by rw [isi_int_bool]; rfl
theorem isi2_tup_b {γ : Type} {xs : List AV} {g : _ → T γ} : (lift (pIsi2 "list" "tuple" (.tup xs))).bind g = g (.bl true) := by rw [isi2_tup]; rfl
theorem isi2_lst_b {γ : Type} {xs : List AV} {g : _ → T γ} : (lift (pIsi2 "list" "tuple" (.lst xs))).bind g = g (.bl true) := by rw [isi2_lst]; rfl
theorem vf0 {γ : Type} {t : AV} {l : Env'} {g : Hd × Env' → T γ} : (fVar 0 (.fro t :: l : Env')).bind g = g (.var 0, (.fro t :: l : Env')) := rfl
theorem rf0 {t : AV} {l : Env'} : rs (.var 0) (.fro t :: l : Env') = some t := rfl
theorem zf0 {γ : Type} {t : AV} {l : Env'} {g : AV × Env' → T γ} : (frz (.var 0, (.fro t :: l : Env'))).bind g = g (t, (.fro t :: l : Env')) := rfl
theorem vf1 {γ : Type} {s0 : Slot} {t : AV} {l : Env'} {g : Hd × Env' → T γ} : (fVar 1 (s0 :: .fro t :: l : Env')).bind g = g (.var 1, (s0 :: .fro t :: l : Env')) := rfl
theorem rf1 {s0 : Slot} {t : AV} {l : Env'} : rs (.var 1) (s0 :: .fro t :: l : Env') = some t := rfl
theorem zf1 {γ : Type} {s0 : Slot} {t : AV} {l : Env'} {g : AV × Env' → T γ} : (frz (.var 1, (s0 :: .fro t :: l : Env'))).bind g = g (t, (s0 :: .fro t :: l : Env')) := rfl
theorem vf2 {γ : Type} {s0 s1 : Slot} {t : AV} {l : Env'} {g : Hd × Env' → T γ} : (fVar 2 (s0 :: s1 :: .fro t :: l : Env')).bind g = g (.var 2, (s0 :: s1 :: .fro t :: l : Env')) := rfl
theorem rf2 {s0 s1 : Slot} {t : AV} {l : Env'} : rs (.var 2) (s0 :: s1 :: .fro t :: l : Env') = some t := rfl
theorem zf2 {γ : Type} {s0 s1 : Slot} {t : AV} {l : Env'} {g : AV × Env' → T γ} : (frz (.var 2, (s0 :: s1 :: .fro t :: l : Env'))).bind g = g (t, (s0 :: s1 :: .fro t :: l : Env')) := rfl
theorem vf3 {γ : Type} {s0 s1 s2 : Slot} {t : AV} {l : Env'} {g : Hd × Env' → T γ} : (fVar 3 (s0 :: s1 :: s2 :: .fro t :: l : Env')).bind g = g (.var 3, (s0 :: s1 :: s2 :: .fro t :: l : Env')) := rfl
theorem rf3 {s0 s1 s2 : Slot} {t : AV} {l : Env'} : rs (.var 3) (s0 :: s1 :: s2 :: .fro t :: l : Env') = some t := rfl
theorem zf3 {γ : Type} {s0 s1 s2 : Slot} {t : AV} {l : Env'} {g : AV × Env' → T γ} : (frz (.var 3, (s0 :: s1 :: s2 :: .fro t :: l : Env'))).bind g = g (t, (s0 :: s1 :: s2 :: .fro t :: l : Env')) := rfl
theorem vm3 {γ : Type} {s0 s1 s2 : Slot} {xs : List AV} {l : Env'} {g : Hd × Env' → T γ} : (fVar 3 (s0 :: s1 :: s2 :: .ml xs :: l : Env')).bind g = g (.var 3, (s0 :: s1 :: s2 :: .ml xs :: l : Env')) := rfl
theorem rm3 {s0 s1 s2 : Slot} {xs : List AV} {l : Env'} : rs (.var 3) (s0 :: s1 :: s2 :: .ml xs :: l : Env') = some (.lst xs) := rfl
theorem zm3 {γ : Type} {s0 s1 s2 : Slot} {xs : List AV} {l : Env'} {g : AV × Env' → T γ} : (frz (.var 3, (s0 :: s1 :: s2 :: .ml xs :: l : Env'))).bind g = g (.lst xs, (s0 :: s1 :: s2 :: .fro (.lst xs) :: l)) := rfl
theorem im3 {γ : Type} {s0 s1 s2 : Slot} {xs : List AV} {l : Env'} {g : List AV → T γ} : (lift (isMl (s0 :: s1 :: s2 :: .ml xs :: l : Env') 3)).bind g = g xs := rfl
theorem vf4 {γ : Type} {s0 s1 s2 s3 : Slot} {t : AV} {l : Env'} {g : Hd × Env' → T γ} : (fVar 4 (s0 :: s1 :: s2 :: s3 :: .fro t :: l : Env')).bind g = g (.var 4, (s0 :: s1 :: s2 :: s3 :: .fro t :: l : Env')) := rfl
theorem rf4 {s0 s1 s2 s3 : Slot} {t : AV} {l : Env'} : rs (.var 4) (s0 :: s1 :: s2 :: s3 :: .fro t :: l : Env') = some t := rfl
theorem zf4 {γ : Type} {s0 s1 s2 s3 : Slot} {t : AV} {l : Env'} {g : AV × Env' → T γ} : (frz (.var 4, (s0 :: s1 :: s2 :: s3 :: .fro t :: l : Env'))).bind g = g (t, (s0 :: s1 :: s2 :: s3 :: .fro t :: l : Env')) := rfl
theorem vf5 {γ : Type} {s0 s1 s2 s3 s4 : Slot} {t : AV} {l : Env'} {g : Hd × Env' → T γ} : (fVar 5 (s0 :: s1 :: s2 :: s3 :: s4 :: .fro t :: l : Env')).bind g = g (.var 5, (s0 :: s1 :: s2 :: s3 :: s4 :: .fro t :: l : Env')) := rfl
theorem rf5 {s0 s1 s2 s3 s4 : Slot} {t : AV} {l : Env'} : rs (.var 5) (s0 :: s1 :: s2 :: s3 :: s4 :: .fro t :: l : Env') = some t := rfl
theorem zf5 {γ : Type} {s0 s1 s2 s3 s4 : Slot} {t : AV} {l : Env'} {g : AV × Env' → T γ} : (frz (.var 5, (s0 :: s1 :: s2 :: s3 :: s4 :: .fro t :: l : Env'))).bind g = g (t, (s0 :: s1 :: s2 :: s3 :: s4 :: .fro t :: l : Env')) := rfl
theorem vf6 {γ : Type} {s0 s1 s2 s3 s4 s5 : Slot} {t : AV} {l : Env'} {g : Hd × Env' → T γ} : (fVar 6 (s0 :: s1 :: s2 :: s3 :: s4 :: s5 :: .fro t :: l : Env')).bind g = g (.var 6, (s0 :: s1 :: s2 :: s3 :: s4 :: s5 :: .fro t :: l : Env')) := rfl
theorem zf6 {γ : Type} {s0 s1 s2 s3 s4 s5 : Slot} {t : AV} {l : Env'} {g : AV × Env' → T γ} : (frz (.var 6, (s0 :: s1 :: s2 :: s3 :: s4 :: s5 :: .fro t :: l : Env'))).bind g = g (t, (s0 :: s1 :: s2 :: s3 :: s4 :: s5 :: .fro t :: l : Env')) := rfl
theorem vf8 {γ : Type} {s0 s1 s2 s3 s4 s5 s6 s7 : Slot} {t : AV} {l : Env'} {g : Hd × Env' → T γ} : (fVar 8 (s0 :: s1 :: s2 :: s3 :: s4 :: s5 :: s6 :: s7 :: .fro t :: l : Env')).bind g = g (.var 8, (s0 :: s1 :: s2 :: s3 :: s4 :: s5 :: s6 :: s7 :: .fro t :: l : Env')) := rfl
theorem rf8 {s0 s1 s2 s3 s4 s5 s6 s7 : Slot} {t : AV} {l : Env'} : rs (.var 8) (s0 :: s1 :: s2 :: s3 :: s4 :: s5 :: s6 :: s7 :: .fro t :: l : Env') = some t := rfl
theorem zf8 {γ : Type} {s0 s1 s2 s3 s4 s5 s6 s7 : Slot} {t : AV} {l : Env'} {g : AV × Env' → T γ} : (frz (.var 8, (s0 :: s1 :: s2 :: s3 :: s4 :: s5 :: s6 :: s7 :: .fro t :: l : Env'))).bind g = g (t, (s0 :: s1 :: s2 :: s3 :: s4 :: s5 :: s6 :: s7 :: .fro t :: l : Env')) := rfl
theorem vf9 {γ : Type} {s0 s1 s2 s3 s4 s5 s6 s7 s8 : Slot} {t : AV} {l : Env'} {g : Hd × Env' → T γ} : (fVar 9 (s0 :: s1 :: s2 :: s3 :: s4 :: s5 :: s6 :: s7 :: s8 :: .fro t :: l : Env')).bind g = g (.var 9, (s0 :: s1 :: s2 :: s3 :: s4 :: s5 :: s6 :: s7 :: s8 :: .fro t :: l : Env')) := rfl
theorem zf9 {γ : Type} {s0 s1 s2 s3 s4 s5 s6 s7 s8 : Slot} {t : AV} {l : Env'} {g : AV × Env' → T γ} : (frz (.var 9, (s0 :: s1 :: s2 :: s3 :: s4 :: s5 :: s6 :: s7 :: s8 :: .fro t :: l : Env'))).bind g = g (t, (s0 :: s1 :: s2 :: s3 :: s4 :: s5 :: s6 :: s7 :: s8 :: .fro t :: l : Env')) := rfl
theorem vf10 {γ : Type} {s0 s1 s2 s3 s4 s5 s6 s7 s8 s9 : Slot} {t : AV} {l : Env'} {g : Hd × Env' → T γ} : (fVar 10 (s0 :: s1 :: s2 :: s3 :: s4 :: s5 :: s6 :: s7 :: s8 :: s9 :: .fro t :: l : Env')).bind g = g (.var 10, (s0 :: s1 :: s2 :: s3 :: s4 :: s5 :: s6 :: s7 :: s8 :: s9 :: .fro t :: l : Env')) := rfl
theorem rf10 {s0 s1 s2 s3 s4 s5 s6 s7 s8 s9 : Slot} {t : AV} {l : Env'} : rs (.var 10) (s0 :: s1 :: s2 :: s3 :: s4 :: s5 :: s6 :: s7 :: s8 :: s9 :: .fro t :: l : Env') = some t := rfl
theorem zf10 {γ : Type} {s0 s1 s2 s3 s4 s5 s6 s7 s8 s9 : Slot} {t : AV} {l : Env'} {g : AV × Env' → T γ} : (frz (.var 10, (s0 :: s1 :: s2 :: s3 :: s4 :: s5 :: s6 :: s7 :: s8 :: s9 :: .fro t :: l : Env'))).bind g = g (t, (s0 :: s1 :: s2 :: s3 :: s4 :: s5 :: s6 :: s7 :: s8 :: s9 :: .fro t :: l : Env')) := rfl
theorem ss1 {s0 s1 x : Slot} {l : Env'} : (s0 :: s1 :: l : Env').set 1 x = s0 :: x :: l := rfl
theorem ss2 {s0 s1 s2 x : Slot} {l : Env'} : (s0 :: s1 :: s2 :: l : Env').set 2 x = s0 :: s1 :: x :: l := rfl
theorem ss3 {s0 s1 s2 s3 x : Slot} {l : Env'} : (s0 :: s1 :: s2 :: s3 :: l : Env').set 3 x = s0 :: s1 :: s2 :: x :: l := rfl
theorem ss4 {s0 s1 s2 s3 s4 x : Slot} {l : Env'} : (s0 :: s1 :: s2 :: s3 :: s4 :: l : Env').set 4 x = s0 :: s1 :: s2 :: s3 :: x :: l := rfl
theorem ss5 {s0 s1 s2 s3 s4 s5 x : Slot} {l : Env'} : (s0 :: s1 :: s2 :: s3 :: s4 :: s5 :: l : Env').set 5 x = s0 :: s1 :: s2 :: s3 :: s4 :: x :: l := rfl
theorem ss6 {s0 s1 s2 s3 s4 s5 s6 x : Slot} {l : Env'} : (s0 :: s1 :: s2 :: s3 :: s4 :: s5 :: s6 :: l : Env').set 6 x = s0 :: s1 :: s2 :: s3 :: s4 :: s5 :: x :: l := rfl
theorem ss7 {s0 s1 s2 s3 s4 s5 s6 s7 x : Slot} {l : Env'} : (s0 :: s1 :: s2 :: s3 :: s4 :: s5 :: s6 :: s7 :: l : Env').set 7 x = s0 :: s1 :: s2 :: s3 :: s4 :: s5 :: s6 :: x :: l := rfl
theorem ss8 {s0 s1 s2 s3 s4 s5 s6 s7 s8 x : Slot} {l : Env'} : (s0 :: s1 :: s2 :: s3 :: s4 :: s5 :: s6 :: s7 :: s8 :: l : Env').set 8 x = s0 :: s1 :: s2 :: s3 :: s4 :: s5 :: s6 :: s7 :: x :: l := rfl
theorem ss9 {s0 s1 s2 s3 s4 s5 s6 s7 s8 s9 x : Slot} {l : Env'} : (s0 :: s1 :: s2 :: s3 :: s4 :: s5 :: s6 :: s7 :: s8 :: s9 :: l : Env').set 9 x = s0 :: s1 :: s2 :: s3 :: s4 :: s5 :: s6 :: s7 :: s8 :: x :: l := rfl
theorem ss10 {s0 s1 s2 s3 s4 s5 s6 s7 s8 s9 s10 x : Slot} {l : Env'} : (s0 :: s1 :: s2 :: s3 :: s4 :: s5 :: s6 :: s7 :: s8 :: s9 :: s10 :: l : Env').set 10 x = s0 :: s1 :: s2 :: s3 :: s4 :: s5 :: s6 :: s7 :: s8 :: s9 :: x :: l := rfl
end Dn
set_option Elab.async false
set_option linter.all false
set_option maxRecDepth 100000
set_option maxHeartbeats 0
namespace Dn
open PySem PySem.Spec PyProof.Rows L2
def rsz (i j c : Int) : Nat := (Builtin.Range.rangeSize i j c).toNat
def rangeC (lo c : Int) (n : Nat) : List AV := (List.range n).map fun i : Nat => AV.int (lo + (i : Int) * c)
def stepOk (i j c : Int) : Bool := below i 62 && (below j 62 && (decide (0 < c ∧ c < 1000) || decide (c = -1)))
def iRange3 (f k l : Sem) : SemI := fun ρ => (f ρ).bind fun p => (k p.2).bind fun q => (l q.2).bind fun r => (lift (rs p.1 r.2)).bind fun a => (lift (intOf a)).bind fun i => (lift (rs q.1 r.2)).bind fun b => (lift (intOf b)).bind fun j => (lift (rs r.1 r.2)).bind fun c => (lift (intOf c)).bind fun s => if stepOk i j s = true then .ret (rangeC i s (rsz i j s), r.2) else .bad
section
variable {X : Cx} {ct : CT} {β : BInv} {Ex : XK} {a b c tg : Expr} {f k l : Sem} {p pos : Pos}
end
theorem imd2 {γ : Type} {s0 s1 : Slot} {kvs : List (AV × AV)} {l : Env'} {g : List (AV × AV) → T γ} : (lift (isMd (s0 :: s1 :: .md true kvs :: l : Env') 2)).bind g = g kvs := rfl
theorem keyOf1_ib {γ : Type} {i : Int} {g : Key → T γ} : (lift (keyOf1 (.int i))).bind g = g (.inl i) := rfl
theorem cut_from {xs : List AV} {f : Nat} (h : f ≤ xs.length) : cutA xs (some (f : Int)) none = xs.drop f := by
  unfold cutA HT.sIx
  dsimp only
  rw [if_neg (by omega), Int.toNat_natCast, Nat.min_eq_left h, List.take_of_length_le (by rw [List.length_drop]; exact Nat.le_refl _)]
theorem cut_to {xs : List AV} {f : Nat} (h : f ≤ xs.length) : cutA xs none (some (f : Int)) = xs.take f := by
  unfold cutA HT.sIx
  dsimp only
  rw [if_neg (by omega), Int.toNat_natCast, Nat.min_eq_left h, List.drop_zero, Nat.sub_zero]
end Dn
set_option Elab.async false
set_option linter.all false
set_option maxRecDepth 100000
namespace Dn
open PySem PySem.Spec PyProof.Rows L2
end Dn
set_option Elab.async false
set_option linter.all false
set_option maxRecDepth 100000
namespace Dn
open PySem PySem.Spec PyProof.Rows L2
open PySem.W PySem.SeqAt
def rMinP (K : PySem.W.Frag) : List V → Hp → VK → Prop := fun xs H Q => ∃ (a : Addr) (vs : List V) (d : PyData) (ds : List PyData), xs = [.ref a] ∧ SqL K H a vs ∧ DpAll K H vs (d :: ds) ∧ AlikeAll (d :: ds) ∧ PyData.depthAll (d :: ds) ≤ 60 ∧ ∀ (i : Nat) (v : V), vs[i]? = some v → (d :: ds)[i]? = some (minD d ds) → Q v H
abbrev Pr := Int × Int
def pairA (p : Pr) : AV := .tup [.int p.1, .int p.2]
def pairD (p : Pr) : PyData := .tuple [.int p.1, .int p.2]
def pairOf : AV → Option Pr
  | .tup [.int a, .int b] => some (a, b)
  | _ => none
def pairsOf : List AV → Option (List Pr)
  | [] => some []
  | t :: ts => match pairOf t, pairsOf ts with
    | some p, some ps => some (p :: ps)
    | _, _ => none
def ltP (x y : Pr) : Bool := decide (x.1 < y.1) || (decide (x.1 = y.1) && decide (x.2 < y.2))
def minPr (p : Pr) (r : List Pr) : Pr := r.foldl (fun a y => if ltP y a then y else a) p
def pMinP (a : AV) : Option AV := match a with
  | .lst xs => match pairsOf xs with
    | some (p :: r) => some (pairA (minPr p r))
    | _ => none
  | _ => none
def tgLst (n : Nat) (k : List AV → Env' → T Env') : GSem := fun t ρ => match t with
  | .lst xs => if xs.length = n then k xs ρ else .bad
  | _ => .bad
end Dn
set_option Elab.async false
set_option linter.all false
set_option maxRecDepth 100000
set_option maxHeartbeats 0
namespace Dn
open PySem PySem.Spec PyProof.Rows L2
def CellsAt (H : Hp) (i : Addr) : Prop := ∃ ns : List Int, H i = some (.lst (ns.map V.int)) ∧ ns.length ≤ 1000 ∧ ∀ n ∈ ns, 0 ≤ n
def DealAt (B : Addr → Prop) (H : Hp) (a : Addr) : Prop := ∃ (i : Addr) (b : Int), H a = some (.lst [.ref i, .int b]) ∧ 0 ≤ b ∧ B i ∧ CellsAt H i
def BoxC : BInv where
  I := fun B D H => (∀ a, B a → ∃ vs, H a = some (.lst vs)) ∧ (∀ a, D a → B a) ∧ ∀ a, D a → DealAt B H a
  live := fun h b => by
    obtain ⟨vs, e⟩ := h.1 _ b
    rw [e]
    exact fun z => by cases z
  nt := fun h b ws z => by
    obtain ⟨vs, e⟩ := h.1 _ b
    rw [e] at z
    cases z
  top := fun h d => h.2.1 _ d
  frame := fun h k => ⟨fun a b => by rw [k a b]; exact h.1 a b, h.2.1, fun a d => by
    obtain ⟨i, b, e, b0, bi, ns, e2, nn⟩ := h.2.2 a d
    exact ⟨i, b, by rw [k a (h.2.1 a d)]; exact e, b0, bi, ns, by rw [k i bi]; exact e2, nn⟩⟩
def spDrawC : Sp := fun vs H Q _ => ∃ (D i : Addr) (b c : Int), vs = [.ref D, .int b] ∧ H D = some (.lst [.ref i, .int c]) ∧ 0 ≤ c ∧ CellsAt H i ∧ 1 ≤ b ∧ b < 2 ^ 64 ∧
  ∀ (r : Int) (H' : Hp), 0 ≤ r → r < b → (∀ a o, H a = some o → a ≠ D → a ≠ i → H' a = some o) → (∃ c', H' D = some (.lst [.ref i, .int c']) ∧ 0 ≤ c') → CellsAt H' i → Q (.int r) H'
def isNat : AV → Bool
  | .int i => decide (0 ≤ i)
  | _ => false
def isNatS : Option Slot → Bool
  | some (.fro (.int b)) => decide (0 ≤ b)
  | _ => false
def sRetDeal (i : Nat) (f : SemN) : SSem := fun ρ => (f ρ).bind fun p => if p.1.all isNat && (isNatS p.2[i]? && decide (p.1.length ≤ 1000)) then .ret (.rt .box) else .bad
section
variable {X : Cx} {ct : CT} {Ex : XK} {a : Expr} {f : SemN} {pos p p1 p2 p3 p4 p5 : Pos} {k : Nat} {x : Str}
end
end Dn
set_option Elab.async false
set_option linter.all false
set_option maxRecDepth 100000
set_option maxHeartbeats 0
namespace Dn
open PySem PySem.Spec PyProof.Rows L2
inductive Itm where
  | fr (t : AV) | nl (xs : List AV) | nd
abbrev SemM := Env' → T (List Itm × Env')
def G.plusL (g : G) (N : List Addr) : G := { g with M := fun b => g.M b ∨ b ∈ N }
def G.less (g : G) (M : Addr → Prop) : G := { g with M := M }
def Mx (c0 : Gc) (A D : Addr → Prop) (H : Hp) : List Itm → List V → List Addr → Prop
  | [], vs, N => vs = [] ∧ N = []
  | .fr t :: r, vs, N => ∃ v vs', vs = v :: vs' ∧ Rep c0 A D H t v ∧ Mx c0 A D H r vs' N
  | .nl xs :: r, vs, N => ∃ a vs' N' ws, vs = .ref a :: vs' ∧ N = a :: N' ∧ H a = some (.lst ws) ∧ RepL c0 A D H xs ws ∧ Mx c0 A D H r vs' N'
  | .nd :: r, vs, N => ∃ a vs' N', vs = .ref a :: vs' ∧ N = a :: N' ∧ H a = some (.dT []) ∧ Mx c0 A D H r vs' N'
def MixOk (c0 : Gc) (g : G) (H0 H : Hp) (items : List Itm) (vs : List V) (N : List Addr) : Prop := (∀ b ∈ N, H0 b = none ∧ ¬ g.Av b) ∧ N.Nodup ∧ Mx c0 (g.plusL N).Av g.D H items vs N
def rdM (c0 : Gc) (β : BInv) (Ex : XK) (m : SemM) : TA := fun σ H Q => ∃ g ρ, Rel c0 β g ρ σ H ∧ okT c0 β Ex g H (m ρ) fun g' H' p => ∀ vs N, MixOk c0 g' H H' p.1 vs N → Rel c0 β (g'.plusL N) p.2 σ H' → Q vs H'
def JM (X : Cx) (ct : CT) (β : BInv) (Ex : XK) (es : List Expr) (m : SemM) : Prop := PA X es (rdM (gc X ct) β Ex m)
def mNil : SemM := fun ρ => .ret ([], ρ)
def mF (f : Sem) (k : SemM) : SemM := fun ρ => (f ρ).bind fun p => (frz p).bind fun q => (k q.2).bind fun r => .ret (.fr q.1 :: r.1, r.2)
def mN (f : SemN) (k : SemM) : SemM := fun ρ => (f ρ).bind fun p => (k p.2).bind fun r => .ret (.nl p.1 :: r.1, r.2)
def mD (k : SemM) : SemM := fun ρ => (k ρ).bind fun r => .ret (.nd :: r.1, r.2)
section
variable {c0 : Gc} {A A' D D' : Addr → Prop} {H H' : Hp}
theorem Mx.imp (hk : ∀ a o, H a = some o → ¬ A a → H' a = some o ∧ ¬ A' a) (hd : ∀ a, D a → D' a) : ∀ {items : List Itm} {vs : List V} {N : List Addr}, (∀ a ∈ N, ∀ o, H a = some o → H' a = some o) → Mx c0 A D H items vs N → Mx c0 A' D' H' items vs N
  | [], _, _, _, h => h
  | .fr _ :: _, _, _, hN, ⟨v, vs', e, r, q⟩ => ⟨v, vs', e, r.imp hk hd, Mx.imp hk hd hN q⟩
  | .nl _ :: _, _, _, hN, ⟨a, vs', N', ws, e, e2, ho, r, q⟩ => ⟨a, vs', N', ws, e, e2, hN a (by rw [e2]; exact List.mem_cons_self) _ ho, r.imp hk hd, Mx.imp hk hd (fun b hb => hN b (by rw [e2]; exact List.mem_cons_of_mem _ hb)) q⟩
  | .nd :: _, _, _, hN, ⟨a, vs', N', e, e2, ho, q⟩ => ⟨a, vs', N', e, e2, hN a (by rw [e2]; exact List.mem_cons_self) _ ho, Mx.imp hk hd (fun b hb => hN b (by rw [e2]; exact List.mem_cons_of_mem _ hb)) q⟩
end
section
variable {X : Cx} {ct : CT} {β : BInv} {Ex : XK} {a : Expr} {es : List Expr} {f : Sem} {fn : SemN} {k : SemM}
end
def setM : List Nat → List Itm → Env' → Option Env'
  | [], [], ρ => some ρ
  | i :: is, .fr t :: r, ρ => if i < ρ.length then setM is r (ρ.set i (.fro t)) else none
  | i :: is, .nl xs :: r, ρ => if i < ρ.length then setM is r (ρ.set i (.ml xs)) else none
  | i :: is, .nd :: r, ρ => if i < ρ.length then setM is r (ρ.set i (.md false [])) else none
  | _, _, _ => none
def setV : List Nat → List V → L2.St → L2.St
  | i :: is, v :: vs, σ => setV is vs (σ.set i (some v))
  | _, _, σ => σ
def sMix (is : List Nat) (m : SemM) : SSem := fun ρ => (m ρ).bind fun p => (lift (setM is p.1 p.2)).bind fun ρ' => .ret (.nx ρ')
section
variable {c0 : Gc} {β : BInv} {g : G} {H : Hp} {ρ : Env'} {σ : L2.St} {a : Addr}
end
section
variable {X : Cx} {ct : CT} {β : BInv} {Ex : XK} {a b c : Expr} {m : SemM} {pos px py pz pt pt2 : Pos} {kt k2 : Nat} {x y z : Str} {i j l : Nat}
end
end Dn
set_option Elab.async false
set_option linter.all false
set_option maxRecDepth 100000
set_option maxHeartbeats 0
namespace Dn
open PySem PySem.Spec PyProof.Rows L2
abbrev freshO (w : World) : Obj := { cls := .type "set", dict := none, data := .set #[] 0 (.fresh 0 0 (!w.params.followText "set-order")) }
section
variable {P : Program} {w : World} {A : Around} {E : Value → Shared → Prop} {s : Shared}
def MadeS (P : Program) (w : World) (s : Shared) (ks : List (Addr × List Int)) (r : Value) (s2 : Shared) : Prop :=
  r = .none ∧ ∃ h' tk L es ep t, s2 = { s with heap := h', toks := tk } ∧ SetTR P w h' s.heap.objs.size L es ep t ∧ Got ks ks.length L ∧ ∀ b o, s.heap.get? b = some o → h'.get? b = some o
end
end Dn
set_option Elab.async false
set_option linter.all false
set_option maxRecDepth 100000
set_option maxHeartbeats 0
namespace Dn
open PySem PySem.Spec PyProof.Rows L2
def rSetOfU (K : PySem.W.Frag) (P : Program) (w : World) : List V → Hp → VK → Prop := fun xs H Q => ∃ (l : Addr) (ks : List (Addr × List Int)), xs = [V.ref l] ∧ (SqL K H l (ks.map fun p => V.ref p.1) ∨ SqT K H l (ks.map fun p => V.ref p.1)) ∧ (∀ p ∈ ks, SqT K H p.1 (p.2.map V.int)) ∧ ks.length < 64 ∧
  ∀ a L, H a = none → (∀ p ∈ L, p ∈ ks) → (∀ p ∈ ks, p.2 ∈ L.map (·.2)) → Q (.ref a) (upd H a (SetTO P w a L))
def tupInts : AV → Option (List Int)
  | .tup xs => intsOf xs
  | _ => none
def tupsInts : List AV → Option (List (List Int))
  | [] => some []
  | x :: xs => (tupInts x).bind fun k => (tupsInts xs).map fun r => k :: r
def tupV (k : List Int) : AV := .tup (k.map AV.int)
abbrev BIG : Int := 18446744073709551616
def insT (x : List Int) : List (List Int) → List (List Int)
  | [] => [x]
  | y :: r => if x = y then y :: r else if TS.code BIG x < TS.code BIG y then x :: y :: r else y :: insT x r
def srtT : List (List Int) → List (List Int)
  | [] => []
  | x :: r => insT x (srtT r)
def sameLen (d : Nat) (ks : List (List Int)) : Bool := ks.all fun k => k.length == d && k.all fun m => decide (0 ≤ m ∧ m < BIG)
def pSortSet (a : AV) : Option AV := (seqOf a).bind fun xs => (tupsInts xs).bind fun ks => if ks.length < 64 ∧ (1 ≤ (ks.headD [0]).length ∧ sameLen (ks.headD [0]).length ks = true) then some (.lst ((srtT ks).map tupV)) else none
abbrev ltT (a b : List Int) : Prop := TS.code BIG a < TS.code BIG b
section
variable {X : Cx} {ct : CT} {β : BInv} {Ex : XK} {a : Expr} {f : Sem} {pos p pos2 p2 : Pos}
end
def pairInts : AV → Option (Int × Int)
  | .tup [.int i, .int j] => some (i, j)
  | _ => none
def pairsInts : List AV → Option (List (Int × Int))
  | [] => some []
  | x :: xs => (pairInts x).bind fun k => (pairsInts xs).map fun r => k :: r
def prV (p : Int × Int) : AV := .tup [.int p.1, .int p.2]
def insP (x : Int × Int) : List (Int × Int) → List (Int × Int)
  | [] => [x]
  | y :: r => if SrtO.lexB y x = false then x :: y :: r else y :: insP x r
def isortP : List (Int × Int) → List (Int × Int)
  | [] => []
  | x :: r => insP x (isortP r)
def lstOf1 : AV → Option (List AV)
  | .lst xs => some xs
  | _ => none
def pSortP (a : AV) : Option AV := (lstOf1 a).bind fun xs => (pairsInts xs).map fun ks => .lst ((isortP ks).map prV)
abbrev leP (a b : Int × Int) : Prop := a.1 < b.1 ∨ a.1 = b.1 ∧ a.2 ≤ b.2
end Dn
set_option Elab.async false
set_option linter.all false
set_option maxRecDepth 100000
set_option maxHeartbeats 0
namespace Dn
open PySem PySem.Spec PyProof.Rows L2
section
variable {P : Program} {w : World} {K : PySem.W.Frag} {mg : Str → Option Value} {base : Heap} {ct : CT} {β : BInv}
end
def fMakeD (fn : List AV → T AV) (dts : List AV) (k : SemL) : Sem := fun ρ => (k ρ).bind fun p => (fn (p.1 ++ dts)).bind fun t => .ret (.val t, p.2)
section
variable {X : Cx} {ct : CT} {β : BInv} {Ex : XK} {e : Expr} {es : List Expr} {m : SemL} {pos p : Pos} {x : Str} {lv n c : Nat} {ps : List Str} {fn : List AV → T AV}
structure CfD (P : Program) (w : World) (K : PySem.W.Frag) (mg : Str → Option Value) (base : Heap) (ct : CT) (β : BInv) (lv : Nat) (x : Str) (c n : Nat) (ps : List Str) (dts : List AV) (fn : List AV → T AV) : Prop where
  ex : ∃ C fa fd, Mk K C fa ∧ FnOk P w K mg base (L2.CX P w) lv fa fd ps (spI ⟨K, mg, ct⟩ β n c fn) ∧ mg x = some (.ref C) ∧ Binds K fd ps [] ∧ ∃ ds dvs, Binds K fd ps ds ∧ Vals dvs ds ∧ Deft ⟨K, mg, ct⟩ dts dvs
  nm : (ct c).1 = x
  len : ∀ ts : List AV, T.all (fun _ => True) (fun _ _ => True) (fn ts) → ts.length = n
end
end Dn
set_option Elab.async false
set_option linter.all false
set_option maxRecDepth 100000
set_option maxHeartbeats 0
namespace Dn
open PySem PySem.Spec PyProof.Rows L2
def dkey (k : Str) : List Str → List AV → Option AV
  | k' :: ks, x :: xs => if k' = k then some x else dkey k ks xs
  | _, _ => none
def pDkey (k : Str) : AV → Option AV
  | .dic ks xs => dkey k ks xs
  | _ => none
def fDic (ks : List Str) (k : SemL) : Sem := fun ρ => (k ρ).bind fun p => if p.1.length = ks.length then .ret (.val (.dic ks p.1), p.2) else .bad
section
variable {c0 : Gc} {A D : Addr → Prop} {H : Hp}
end
section
variable {X : Cx} {ct : CT} {β : BInv} {Ex : XK} {a : Expr} {f : Sem} {m : SemL} {pos p : Pos} {k : Str} {kk : Nat}
structure JP (X : Cx) (ct : CT) (β : BInv) (Ex : XK) (pos : Pos) (ks : List Str) (keys : List (Option Expr)) (values : List Expr) (m : SemL) : Prop where
  ex : ∃ trs, PPs X pos keys values trs ∧ ∀ σ H (Q : List V → Hp → Prop) (Q2 : List (V × V) → Hp → Prop), rdL (gc X ct) β Ex m σ H Q → (∀ vs H', vs.length = ks.length → Q vs H' → Q2 ((ks.zip vs).map fun kv => (V.str kv.1, kv.2)) H') → tPairs trs σ H Q2
  al : keys.all (·.isSome) = true
  l1 : keys.length = values.length
  l2 : keys.length = ks.length
end
end Dn
set_option Elab.async false
set_option linter.all false
set_option maxRecDepth 100000
set_option maxHeartbeats 0
namespace Dn
open PySem PySem.Spec PyProof.Rows L2
end Dn
set_option Elab.async false
set_option linter.all false
set_option maxRecDepth 100000
set_option maxHeartbeats 0
namespace Dn
open PySem PySem.Spec PyProof.Rows L2
def Sz (s : Str) (n : Nat) : Prop := PyData.strOk s = true ∧ s.length ≤ n
def plainD (b : Nat) : Nat → AV → Bool
  | _, .non => true
  | _, .bl _ => true
  | _, .int i => decide (0 ≤ i ∧ i < 100000000000000000000)
  | n + 1, .tup xs => decide (xs.length ≤ b) && xs.all (plainD b n)
  | _, _ => false
def lenD (b : Nat) : Nat → Nat
  | 0 => 20
  | n + 1 => 23 + b * (lenD b n + 2)
end Dn
set_option Elab.async false
set_option linter.all false
set_option maxRecDepth 100000
set_option maxHeartbeats 0
namespace Dn
open PySem PySem.Spec PyProof.Rows L2
def fSelf (j c i : Nat) : Sem := fun ρ => match ρ[j]? with
  | some (.slf c' fs) => if c' = c then (lift fs[i]?).bind fun z => .ret (.val z, ρ) else .bad
  | _ => .bad
section
variable {X : Cx} {ct : CT} {β : BInv} {Ex : XK} {pos p : Pos} {x n : Str}
end
end Dn
set_option Elab.async false
set_option linter.all false
set_option maxRecDepth 100000
namespace Dn
open PySem PySem.Spec PyProof.Rows L2
open PySem.W PySem.SeqAt
def rAllD (K : PySem.W.Frag) : List V → Hp → VK → Prop := fun xs H Q => ∃ (a : Addr) (vs : List V) (ds : List PyData), xs = [.ref a] ∧ SqL K H a vs ∧ DpAll K H vs ds ∧ PyData.plainAll ds = true ∧ (∀ x ∈ ds, x.fits63) ∧ Q (.bl (ds.all PyData.truthy)) H
def truA : AV → Bool
  | .bl b => b
  | .int i => i != 0
  | .lst xs => !xs.isEmpty
  | .tup xs => !xs.isEmpty
  | _ => false
def fitA : AV → Bool
  | .lst xs => decide (xs.length < 9223372036854775808)
  | .tup xs => decide (xs.length < 9223372036854775808)
  | .str _ => false
  | _ => true
def pAllD (a : AV) : Option AV := match a with
  | .lst xs => if xs.all (dat 8) && xs.all fitA then some (.bl (xs.all truA)) else none
  | _ => none
mutual
theorem plain_dat : ∀ (n : Nat) (a : AV), dat n a = true → (toD n a).plain = true
  | n, .non, _ => by cases n <;> rfl
  | n, .bl b, _ => by cases n <;> rfl
  | n, .int i, _ => by cases n <;> rfl
  | n, .str s, _ => by cases n <;> rfl
  | n + 1, .tup xs, h => plain_dats n xs h
  | n + 1, .lst xs, h => plain_dats n xs h
  | 0, .tup _, h => by cases h
  | 0, .lst _, h => by cases h
  | n, .ins _ _, h => by cases n <;> cases h
  | n, .dic _ _, h => by cases n <;> cases h
  | n, .dct _ _, h => by cases n <;> cases h
  | n, .box, h => by cases n <;> cases h
  | n, .scr _, h => by cases n <;> cases h
  | n, .any, h => by cases n <;> cases h
theorem plain_dats : ∀ (n : Nat) (xs : List AV), xs.all (dat n) = true → PyData.plainAll (xs.map (toD n)) = true
  | _, [], _ => rfl
  | n, x :: xs, h => by
    rw [List.all_cons, Bool.and_eq_true] at h
    show ((toD n x).plain && PyData.plainAll (xs.map (toD n))) = true
    rw [plain_dat n x h.1, plain_dats n xs h.2]
    rfl
end
end Dn
set_option Elab.async false
set_option linter.all false
set_option maxRecDepth 100000
namespace Dn
open PySem PySem.Spec PyProof.Rows L2
section
variable {X : Cx} {ct : CT} {β : BInv} {Ex : XK} {a : Expr} {f : Sem} {p p2 q pos : Pos}
def distN (ns : List Int) : Nat := (firstMet (fun i => ns.getD i 0) ns.length).length
def pLenSetG (a : AV) : Option AV := match a with
  | .lst xs => (intsOf xs).bind fun ns => if ns.length ≤ 1000 then some (.int (distN ns : Nat)) else none
  | _ => none
def tLenSetG (K : PySem.W.Frag) (ta : TE) : TE := fun σ H Q => ta σ H fun x H1 => ∃ (l : Addr) (ns : List Int), x = .ref l ∧ SqL K H1 l (ns.map V.int) ∧ ns.length ≤ 1000 ∧ Q (.int (distN ns : Nat)) H1
end
end Dn
set_option Elab.async false
set_option linter.all false
set_option maxRecDepth 100000
namespace Dn
open PySem PySem.Spec PyProof.Rows L2
open PySem.W PySem.SeqAt
def maxOr (d : Int) : List Int → Int
  | [] => d
  | x :: r => maxL x r
def rMaxD (K : PySem.W.Frag) : List V → List V → Hp → VK → Prop := fun xs zs H Q => ∃ (a : Addr) (ns : List Int) (d : Int), xs = [.ref a] ∧ zs = [.int d] ∧ SqL K H a (ns.map V.int) ∧ Q (.int (maxOr d ns)) H
def pMaxD (d : Int) (a : AV) : Option AV := match a with
  | .lst xs => (intsOf xs).map fun ns => .int (maxOr d ns)
  | _ => none
section
variable {X : Cx} {ct : CT} {β : BInv} {Ex : XK} {a : Expr} {f : Sem} {p p2 kp pos : Pos} {d : Int} {kk : Nat}
end
end Dn
set_option Elab.async false
set_option linter.all false
set_option maxRecDepth 100000
namespace Dn
open PySem PySem.Spec PyProof.Rows L2
def addI : Int → Int → Int := fun i j => i + j
def subI : Int → Int → Int := fun i j => i - j
def fInt (ρ : Env') (i : Nat) : Option Int := match ρ[i]? with
  | some (.fro (.int a)) => some a
  | _ => none
def sAugI (op : Int → Int → Int) (i : Nat) (f : Sem) : SSem := fun ρ => (lift (fInt ρ i)).bind fun a => (f ρ).bind fun p => (lift (rs p.1 p.2)).bind fun b => (lift (intOf b)).bind fun j => .ret (.nx (p.2.set i (.fro (.int (op a j)))))
section
variable {X : Cx} {ct : CT} {β : BInv} {Ex : XK} {a : Expr} {f : Sem} {pos p : Pos} {x : Str}
end
end Dn
set_option Elab.async false
set_option linter.all false
set_option maxRecDepth 100000
namespace Dn
open PySem PySem.Spec PyProof.Rows L2
def sSetIx (j : Nat) (fi fv : Sem) : SSem := fun ρ => (fv ρ).bind fun p => (frz p).bind fun q => (lift (isMl q.2 j)).bind fun _ => (fi q.2).bind fun r => (lift (rs r.1 r.2)).bind fun a => (lift (intOf a)).bind fun k => (lift (isMl r.2 j)).bind fun xs => (lift (ixN xs.length k)).bind fun n => .ret (.nx (r.2.set j (.ml (xs.set n q.1))))
section
variable {X : Cx} {ct : CT} {β : BInv} {Ex : XK} {a e : Expr} {fi fv : Sem} {pos p p2 : Pos} {x : Str}
end
end Dn
set_option Elab.async false
set_option linter.all false
set_option maxRecDepth 100000
namespace Dn
open PySem PySem.Spec PyProof.Rows L2
def nRep (fa : SemN) (fb : Sem) : SemN := fun ρ => (fa ρ).bind fun p => (fb p.2).bind fun q => (lift (rs q.1 q.2)).bind fun b => (lift (intOf b)).bind fun k => if (below k 62 = true ∧ p.1.length * k.toNat ≤ big) then .ret ((List.replicate k.toNat p.1).flatten, q.2) else .bad
section
variable {X : Cx} {ct : CT} {β : BInv} {Ex : XK} {a b : Expr} {fa : SemN} {fb : Sem} {pos : Pos}
end
end Dn
set_option Elab.async false
set_option linter.all false
set_option maxRecDepth 100000
namespace Dn
open PySem PySem.Spec PyProof.Rows L2
def sParED (i j : Nat) (f : Sem) : SSem := fun ρ => (f ρ).bind fun p => (frz p).bind fun q => if i < q.2.length ∧ j < q.2.length then .ret (.nx ((q.2.set i (.fro q.1)).set j (.md true []))) else .bad
def fDsetd (j : Nat) (fk fv : Sem) : Sem := fun ρ => (lift (isMd ρ j)).bind fun _ => (fk ρ).bind fun r => (lift (rs r.1 r.2)).bind fun a => (lift (keyOf1 a)).bind fun k => (fv r.2).bind fun p => (frz p).bind fun q => (lift (isMd q.2 j)).bind fun kvs =>
  if kvs.length < big then .ret (.val ((dFind kvs k).getD q.1), q.2.set j (.md true (if (dFind kvs k).isSome = true then kvs else dPut kvs a k q.1))) else .bad
section
variable {X : Cx} {ct : CT} {β : BInv} {Ex : XK} {a b e : Expr} {f fk fv : Sem} {pos p p2 p3 apos cpos px py pt pt2 : Pos} {kt k2 : Nat} {x y : Str} {i j : Nat}
end
end Dn
set_option Elab.async false
set_option linter.all false
set_option maxRecDepth 100000
set_option maxHeartbeats 2000000
namespace Dn
open PySem PySem.Spec PyProof.Rows L2
def DRT (c0 : Gc) (A D : Addr → Prop) (H : Hp) : List (AV × AV) → List (List Key × V) → Prop := Paired fun a u => keyOfT a.1 = some u.1 ∧ Rep c0 A D H a.2 u.2
def dFindT (kvs : List (AV × AV)) (k : List Key) : Option AV := (kvs.find? fun q => decide (keyOfT q.1 = some k)).map (·.2)
def dPutT (kvs : List (AV × AV)) (ka : AV) (k : List Key) (v : AV) : List (AV × AV) :=
  if (kvs.any fun q => decide (keyOfT q.1 = some k)) = true then kvs.map (fun q => if keyOfT q.1 = some k then (q.1, v) else q) else kvs ++ [(ka, v)]
def dDropT (kvs : List (AV × AV)) (k : List Key) : List (AV × AV) := kvs.filter fun q => decide (keyOfT q.1 ≠ some k)
section
variable {c0 : Gc} {A D A' D' : Addr → Prop} {H H' : Hp}
theorem DRT.length {kvs : List (AV × AV)} {us : List (List Key × V)} (h : DRT c0 A D H kvs us) : kvs.length = us.length := Paired.length h
theorem DRT.val {kvs : List (AV × AV)} {us : List (List Key × V)} (r : DRT c0 A D H kvs us) (k : List Key) : (dFindT kvs k = none ∧ valV us k = none) ∨ ∃ t v, dFindT kvs k = some t ∧ valV us k = some v ∧ Rep c0 A D H t v := by
  unfold DRT at r
  induction r with
  | nil => exact .inl ⟨rfl, rfl⟩
  | @cons q u ps us h t ih =>
    by_cases e : u.1 = k
    · refine .inr ⟨q.2, u.2, ?_, valV_pos e, h.2⟩
      unfold dFindT
      rw [List.find?_cons, show decide (keyOfT q.1 = some k) = true from decide_eq_true (by rw [h.1, e])]
      rfl
    · have e2 : dFindT (q :: ps) k = dFindT ps k := by
        unfold dFindT
        rw [List.find?_cons, show decide (keyOfT q.1 = some k) = false from decide_eq_false (by rw [h.1]; exact fun z => e (Option.some.inj z))]
      rw [e2, valV_neg e]
      exact ih
theorem dAnyT (k : List Key) : ∀ kvs : List (AV × AV), (kvs.any fun q => decide (keyOfT q.1 = some k)) = (dFindT kvs k).isSome
  | [] => rfl
  | q :: r => by
    unfold dFindT
    rw [List.any_cons, List.find?_cons]
    by_cases e : keyOfT q.1 = some k
    · rw [show decide (keyOfT q.1 = some k) = true from decide_eq_true e]; rfl
    · rw [show decide (keyOfT q.1 = some k) = false from decide_eq_false e, Bool.false_or]; exact dAnyT k r
theorem DRT.put {kvs : List (AV × AV)} {us : List (List Key × V)} {ka va : AV} {k : List Key} {v : V} (r : DRT c0 A D H kvs us) (hk : keyOfT ka = some k) (rv : Rep c0 A D H va v) : DRT c0 A D H (dPutT kvs ka k va) (putK us k v) := by
  have e : (kvs.any fun q => decide (keyOfT q.1 = some k)) = (us.any fun u => decide (u.1 = k)) := by
    rw [dAnyT, valV_any]
    rcases r.val k with ⟨h1, h2⟩ | ⟨t, w, h1, h2, _⟩
    · rw [h1, h2]; rfl
    · rw [h1, h2]; rfl
  unfold dPutT putK
  rw [e]
  by_cases q : (us.any fun u => decide (u.1 = k)) = true
  · rw [if_pos q, if_pos q]
    clear q e
    unfold DRT at r ⊢
    induction r with
    | nil => exact .nil
    | @cons q u ps us h t ih =>
      rw [List.map_cons, List.map_cons]
      refine .cons ?_ ih
      by_cases e : u.1 = k
      · rw [if_pos e, if_pos (by rw [h.1, e])]; exact ⟨h.1, rv⟩
      · rw [if_neg e, if_neg (by rw [h.1]; exact fun z => e (Option.some.inj z))]; exact h
  · rw [if_neg q, if_neg q]
    exact Paired.snoc r ⟨hk, rv⟩
theorem DRT.drop {kvs : List (AV × AV)} {us : List (List Key × V)} (k : List Key) (r : DRT c0 A D H kvs us) : DRT c0 A D H (dDropT kvs k) (dropK us k) := by
  unfold DRT at r ⊢
  unfold dDropT dropK
  induction r with
  | nil => exact .nil
  | @cons q u ps us h t ih =>
    rw [List.filter_cons, List.filter_cons]
    by_cases e : u.1 = k
    · rw [if_neg (show ¬ decide (keyOfT q.1 ≠ some k) = true by simp [h.1, e]), if_neg (show ¬ decide (u.1 ≠ k) = true by simp [e])]
      exact ih
    · rw [if_pos (show decide (keyOfT q.1 ≠ some k) = true by simp [h.1, e]), if_pos (show decide (u.1 ≠ k) = true by simp [e])]
      exact .cons h ih
end
def isMdT (ρ : Env') (j : Nat) : Option (List (AV × AV)) := match ρ[j]? with
  | some (.md false kvs) => some kvs
  | _ => none
section
variable {c0 : Gc} {β : BInv} {g : G} {H : Hp} {ρ : Env'} {σ : L2.St} {a : Addr}
theorem DRT.ext {g' : G} {H' : Hp} {kvs : List (AV × AV)} {us : List (List Key × V)} (e : Ext g g' H H') (r : DRT c0 g.Av g.D H kvs us) : DRT c0 g'.Av g'.D H' kvs us := Paired.mapP r fun _ _ q => ⟨q.1, q.2.imp (fun _ _ q n => e.av q n) e.dsub⟩
end
section
variable {X : Cx} {pins : List (Addr × Obj)} {σ : L2.St} {H : Hp} {s : Shared}
end
section
variable {X : Cx}
def tDcT (wi : TI) (g : TG) (tk tv : TE) (vs : List Nat) : TE := fun σ H Q => wi σ H fun J H1 => ∀ D, H1 D = none → ∃ (n : Nat) (W : Nat → Hp → Prop), W 0 (upd H1 D (.dT [])) ∧ ∀ i H, W i H →
  (i = n ∧ J.stop i H ∧ Q (.ref D) H) ∨ (i < n ∧ J.go i H ∧ ∀ x H', J.yld i H x H' → g x (wipe σ vs) H' fun σ2 H2 => wipe σ2 vs = wipe σ vs ∧ tk σ2 H2 fun y H3 => tv σ2 H3 fun z H4 =>
    ∃ us ks b, y = .ref b ∧ H4 b = some (.tup (ks.map kV)) ∧ H4 D = some (.dT us) ∧ us.length < sizeLine ∧ W (i + 1) (upd H4 D (.dT (putK us ks z))))
end
section
variable {X : Cx}
def sDDelT (td ty : TE) : TS := fun D σ H => td σ H fun x H1 => ty σ H1 fun y H2 => ∃ a us ks b, x = .ref a ∧ H2 a = some (.dT us) ∧ y = .ref b ∧ H2 b = some (.tup (ks.map kV)) ∧ (valV us ks).isSome = true ∧ D.nx σ (upd H2 a (.dT (dropK us ks)))
end
def keyT : AV → Option (List Key)
  | .tup (x :: xs) => keysOf (x :: xs)
  | _ => none
section
variable {c0 : Gc} {g : G} {H : Hp}
end
def dcT (xs : List AV) (c : AV) : List (AV × AV) := xs.foldl (fun kvs x => match keyT x with
  | some ks => dPutT kvs x ks c
  | none => kvs) []
def sSetDcT (i j : Nat) (f : SemI) (b : Bool) : SSem := fun ρ => (f ρ).bind fun p => if j < p.2.length ∧ p.1.length < big ∧ (p.1.all fun x => (keyT x).isSome) = true then .ret (.nx (p.2.set i (.md false (dcT p.1 (.bl b))))) else .bad
def tDnotInT (j : Nat) (f : Sem) : SemB := fun ρ => (f ρ).bind fun p => (lift (rs p.1 p.2)).bind fun a => (lift (keyT a)).bind fun k => (lift (isMdT p.2 j)).bind fun kvs => .ret (!(dFindT kvs k).isSome, p.2)
def sDdelT (j : Nat) (fk : Sem) : SSem := fun ρ => (lift (isMdT ρ j)).bind fun _ => (fk ρ).bind fun r => (lift (rs r.1 r.2)).bind fun a => (lift (keyT a)).bind fun k => (lift (isMdT r.2 j)).bind fun kvs => (lift (dFindT kvs k)).bind fun _ => .ret (.nx (r.2.set j (.md false (dDropT kvs k))))
def fDlistT (j : Nat) : Sem := fun ρ => (lift (isMdT ρ j)).bind fun kvs => .ret (.val (.lst (kvs.map (·.1))), ρ)
section
variable {X : Cx} {ct : CT} {β : BInv} {Ex : XK} {a b e tg iter value : Expr} {f k fk fv : Sem} {fi : SemI} {pos pos' p p2 apos tpos : Pos} {x y : Str} {id : String}
end
section
variable {X : Cx} {ct : CT} {β : BInv} {Ex : XK} {a : Expr} {f fk : Sem} {pos p p2 tpos : Pos} {x : Str}
theorem DRT.isSome {c0 : Gc} {A D : Addr → Prop} {H : Hp} {kvs : List (AV × AV)} {us : List (List Key × V)} (r : DRT c0 A D H kvs us) (k : List Key) : (dFindT kvs k).isSome = (valV us k).isSome := by
  rcases r.val k with ⟨h1, h2⟩ | ⟨_, _, h1, h2, _⟩ <;> rw [h1, h2] <;> rfl
end
section
variable {γ : Type} {i j : Nat} {f fk : Sem} {fi : SemI} {b : Bool} {a0 : Slot} {l0 : Env'}
end
def fNotV (f : Sem) : Sem := fun ρ => (f ρ).bind fun p => (lift (rs p.1 p.2)).bind fun a => (lift (tru a)).bind fun b => .ret (.val (.bl (!b)), p.2)
def fRevL (f : Sem) : Sem := fun ρ => (f ρ).bind fun p => (lift (rs p.1 p.2)).bind fun a => (lift (lstOf a)).bind fun xs => .ret (.val (.lst xs.reverse), p.2)
end Dn
set_option Elab.async false
set_option linter.all false
set_option maxRecDepth 100000
set_option maxHeartbeats 2000000
namespace Dn
open PySem PySem.Spec PyProof.Rows L2
def rOnce (K : PySem.W.Frag) : R2 := fun x y H Q => ∃ l xs, x = .ref l ∧ y = .int 1 ∧ SqT K H l xs ∧ Q (.ref l) H
def pMulT (a b : AV) : Option AV := match a, b with
  | .tup xs, .int k => if k = 1 then some (.tup xs) else if xs.isEmpty = false ∧ 2 ≤ k ∧ k ≤ 1000 ∧ xs.length ≤ 1000 then some (.tup (List.replicate k.toNat xs).flatten) else none
  | _, _ => none
section
variable {X : Cx} {ct : CT}
end
end Dn
set_option Elab.async false
set_option linter.all false
set_option maxRecDepth 100000
set_option maxHeartbeats 2000000
namespace HN
open PySem PySem.Spec PyProof.Rows PySem.SeqAt
section
variable {M : Model} {prog : Program} {w : World} {A : Around} {E : Value → Shared → Prop} {s : Shared} {K h₀ : PySem.W.Frag} {x C f : Addr} {ox : Obj} {od : Option Obj} {b : Value}
end
end HN
namespace Dn
open PySem PySem.Spec PyProof.Rows L2
structure OwnC (K : PySem.W.Frag) (C : Addr) : Prop where
  ins : C8.InsC K C
  ne : PySem.W.findIn K (.ref C) "__ne__" = some (some (.builtin "object.__ne__"))
def rOwn (C : Addr) (sp : Sp) (E : XK) (neg : Bool) : R2 := fun x y H Q => ∃ a b dx dy fs gs, x = V.ref a ∧ y = V.ref b ∧ H a = some (.ins C dx fs) ∧ H b = some (.ins C dy gs) ∧ sp [.ref a, .ref b] H (fun z H' => ∃ v, z = .bl v ∧ Q (.bl (neg != v)) H') E
def cmpK (neg : Bool) (c : Nat) (fn : List AV → T AV) (a b : AV) (ρ : Env') : T (Hd × Env') := match a with
  | .ins c1 xs => match b with
    | .ins c2 ys => if c1 = c ∧ c2 = c then (fn [.ins c1 xs, .ins c2 ys]).bind fun t => (lift (blOf t)).bind fun v => .ret (.val (.bl (neg != v)), ρ) else .bad
    | _ => .bad
  | _ => .bad
def fCmpO (neg : Bool) (c : Nat) (fn : List AV → T AV) (fa fb : Sem) : Sem := fun ρ => (fa ρ).bind fun p => (frz p).bind fun p1 => (fb p1.2).bind fun q => (frz q).bind fun s => cmpK neg c fn p1.1 s.1 s.2
section
variable {X : Cx} {ct : CT} {β : BInv} {Ex : XK} {a b : Expr} {fa fb : Sem} {pos p p2 : Pos} {lv n c : Nat} {ps : List Str} {fn : List AV → T AV} {op : CmpOp}
def pIsC (c : Nat) (a : AV) : Option AV := match a with
  | .ins c1 _ => if c1 = c then some (.bl true) else none
  | _ => none
end
end Dn
set_option Elab.async false
set_option linter.all false
set_option maxRecDepth 100000
set_option maxHeartbeats 2000000
namespace Dn
open PySem PySem.Spec PyProof.Rows L2
def strsOf : List AV → Option (List Str)
  | [] => some []
  | .str s :: r => (strsOf r).map fun l => s :: l
  | _ :: _ => none
def pJoinA (a : Str) (t : AV) : Option AV := (seqOf t).bind fun xs => (strsOf xs).bind fun ys => if (ys.map (·.length)).sum + ys.length * a.length ≤ big then some (.str (Txt.join a ys)) else none
section
variable {X : Cx} {ct : CT} {β : BInv} {Ex : XK} {a b : Expr} {fa : Sem} {pos p p2 apos : Pos} {lv n c : Nat} {ps : List Str} {fn : List AV → T AV}
def rStrO (C : Addr) (sp : Sp) (E : XK) : List V → Hp → VK → Prop := fun xs H Q => ∃ a dx fs, xs = [V.ref a] ∧ H a = some (.ins C dx fs) ∧ sp [.ref a] H (fun z H' => ∃ y, z = .str y ∧ Q (.str y) H') E
def strOf : AV → Option Str
  | .str s => some s
  | _ => none
def strK (c : Nat) (fn : List AV → T AV) (t : AV) (ρ : Env') : T (Hd × Env') := match t with
  | .ins c' xs => if c' = c then (fn [.ins c' xs]).bind fun t => (lift (strOf t)).bind fun y => .ret (.val (.str y), ρ) else .bad
  | _ => .bad
def fStrO (c : Nat) (fn : List AV → T AV) (f : Sem) : Sem := fun ρ => (f ρ).bind fun q => (frz q).bind fun s => strK c fn s.1 s.2
def pFmt (a : AV) : Option AV := match a with
  | .str y => if y.length ≤ big then some (.str y) else none
  | .int i => if i.natAbs.log2 < 1920 then some (.str (toString i)) else none
  | _ => none
def fJs : List Sem → Str → Sem
  | [], acc, ρ => .ret (.val (.str acc), ρ)
  | f :: fs, acc, ρ => (f ρ).bind fun p => (lift (rs p.1 p.2)).bind fun a => (lift (strOf a)).bind fun y => if (acc ++ y).length ≤ big then fJs fs (acc ++ y) p.2 else .bad
inductive JJ (X : Cx) (ct : CT) (β : BInv) (Ex : XK) : List Expr → List Sem → Prop where
  | nil : JJ X ct β Ex [] []
  | cons {e : Expr} {f : Sem} {es : List Expr} {fs : List Sem} (h : JE X ct β Ex e f) (r : JJ X ct β Ex es fs) : JJ X ct β Ex (e :: es) (f :: fs)
end
end Dn
set_option Elab.async false
set_option linter.all false
set_option maxRecDepth 100000
set_option maxHeartbeats 2000000
namespace Dn
open PySem PySem.Spec PyProof.Rows L2
def spX (K : PySem.W.Frag) (C : Addr) (f : Str) : Sp := fun vs H Q _ => ∃ a y, vs = [.ref a, y] ∧ OexC K C ∧ PySem.W.findIn K (.ref C) f = some none ∧ H a = some (exo a C none) ∧ ∀ dx, H dx = none → dx ≠ a → Q .non (upd (upd H dx (exd dx [(f, y)])) a (exo a C (some dx)))
section
variable {P : Program} {w : World} {K : PySem.W.Frag} {mg : Str → Option Value} {base : Heap} {CXX : CXT}
theorem fn_exi {x qual fld pn : Str} {st : Stmt} {f C : Addr} {fd : FuncData} {k : Nat} {p1 p2 p3 p4 : Pos} (F : Fun K x qual st f fd) (S : FnScope ["self", pn] ["self", pn] (defScope st)) (hb : defBody st = [.Assign [.Attribute (.Name "self" p1) fld p2] (.Name pn p3) p4])
    (hv0 : ∀ X : Cx, X.env.scope = defScope st → Vis X.env.scope "self" ∧ Vis X.env.scope pn) (hd : (pn == ("__debug__" : Str)) = false) (hcd : (pn == ("__classdict__" : Str)) = false)
    (hs : ∀ env : Env, swapsWith (.Name pn p3) (some (.Attribute (.Name "self" p1) fld p2)) p4.line env = pure false) :
    FnOk P w K mg base (L2.CX P w) (k + 1) f fd ["self", pn] (spX K C fld) := by
  refine F.okX S (fun vs H Q E h => ?_) fun cdv A outer s H vs Q E hr h => ?_
  · obtain ⟨a, y, rfl, _⟩ := h
    rfl
  · obtain ⟨a, y, rfl, T, hno, ha, q⟩ := h
    rw [hb]
    have v := hv0 (cxOf (L2.CX P w) P w K mg base ["self", pn] qual (defScope st) f cdv A outer s H E) rfl
    refine ⟨_, pss_cons (ps_ost (pe_var (i := 0) rfl v.1 (by decide +kernel) (by decide +kernel)) (pe_var (i := 1) rfl v.2 hd hcd) (hs _)) pss_nil, ?_⟩
    refine ⟨y, rfl, .ref a, rfl, a, C, rfl, T, hno, .inl ⟨ha, fun dx n ne => q dx n ne⟩⟩
end
def sRaise (c : Nat) (k : SemL) : SSem := fun ρ => (k ρ).bind fun p => if p.1.length = 1 then .exc c p.1 else .bad
section
variable {X : Cx} {ct : CT} {β : BInv} {Ex : XK} {e : Expr} {fk : SemL} {pos p pos' : Pos}
theorem passNo {Y : Cx} : Passes (L2.CX Y.prog Y.w) Y (fun _ _ _ => False) := fun _ _ _ _ _ _ _ h => by
  obtain ⟨_, _, _, _, _, _, _, _, _, _, _, _, h⟩ := h
  exact h.elim
theorem js_raise {x fld pn : Str} {c k : Nat} {C fI : Addr} {fd : FuncData} (hc : X.calm = true) (tk : Takes X (fun cls d _ H => Ex cls d H)) (T : OexC X.K C) (iC : PySem.W.findIn X.K (.ref C) "__init__" = some (some (.ref fI))) (tI : PySem.W.typeIn X.K (.ref fI) = some (.type "function"))
    (hno : PySem.W.findIn X.K (.ref C) fld = some none) (F1 : FnOk X.prog X.w X.K X.mg X.base (L2.CX X.prog X.w) k fI fd ["self", pn] (spX X.K C fld)) (hr : Room (k + 1) X.A) (hb : Binds X.K fd ["self", pn] []) (hg : Gl X x) (hm : X.mg x = some (.ref C)) (hct : ct c = (x, [fld]))
    (ha : JL X ct β Ex [e] fk) (hdb : (x == ("__debug__" : Str)) = false := by decide +kernel) (he : starEach [e] X.env = (false, eval e X.env) :: starEach [] X.env := by rfl) :
    JS X ct β Ex (.Raise (some (.Call (.Name x p) [e] [] pos)) none pos') (sRaise c fk) := by
  refine PS.imp (ps_raise hc tk (pmk_oex T iC tI F1 hr hb .nil passNo hg hm ha hdb he)) fun D σ H h => ?_
  obtain ⟨g, ρ, R, h⟩ := h
  refine ⟨g, ρ, R, okT_mono (okT_bind h) fun g1 H1 q e1 h1 vs R1 rv => ?_⟩
  by_cases hl : q.1.length = 1
  · rw [if_pos hl] at h1
    have lv : vs.length = 1 := by rw [rv.length]; exact hl
    obtain ⟨y, rfl⟩ : ∃ y, vs = [y] := by
      match vs, lv with
      | [y], _ => exact ⟨y, rfl⟩
    refine ⟨by show 1 ≤ 1000; decide, fun a na => ⟨a, y, rfl, T, hno, upd_same, fun dx ndx ne => ⟨rfl, dx, [(fld, y)], upd_same, ?_, ?_, ?_⟩⟩⟩
    · rw [upd_ne ne, upd_same]
    · rwa [upd_ne ne] at ndx
    · have hn : H1 dx = none := by rwa [upd_ne ne] at ndx
      have eH : upd (del (upd (upd (upd H1 a (exo a C none)) dx (exd dx [(fld, y)])) a (exo a C (some dx))) a) dx (.xd [(fld, y)]) = upd H1 dx (.xd [(fld, y)]) := by
        funext b
        by_cases b1 : b = dx
        · subst b1
          rw [upd_same, upd_same]
        · rw [upd_ne b1, upd_ne b1]
          by_cases b2 : b = a
          · subst b2
            rw [del_same, na]
          · rw [del_ne b2, upd_ne b2, upd_ne b1, upd_ne b2]
      rw [eH]
      have s := same_upd (o := .xd [(fld, y)]) hn
      have h2 : ∀ g' H' C d vs, Ext g1 g' H1 H' → β.I g'.B g'.D H' → (gc X ct).mg ((gc X ct).ct c).1 = some (.ref C) → DOk H' d ((gc X ct).ct c).2 vs → vs.length = ((gc X ct).ct c).2.length → RepsG (gc X ct) g' H' q.1 vs → Ex (.ref C) d H' := h1
      have hct' : (gc X ct).ct c = (x, [fld]) := hct
      exact h2 g1 (upd H1 dx (.xd [(fld, y)])) C (some dx) [y] (Ext.same s) (R1.same s).box (by rw [hct']; exact hm) (by rw [hct']; exact .inl ⟨dx, rfl, by simp, upd_same⟩) (by rw [hct']; rfl) ((Ext.same s).reps rv)
  · rw [if_neg hl] at h1
    exact (show False from h1).elim
end
noncomputable def tryT {α γ : Type} (m : T α) (k : α → T γ) (h : Nat → List AV → T γ) : T γ := T.rec (motive := fun _ => T γ) (fun a => k a) .bad (fun c xs => h c xs) (fun n _ ih => .draw n ih) m
theorem tryT_all {α γ : Type} {k : α → T γ} {h : Nat → List AV → T γ} {P : γ → Prop} {E : Nat → List AV → Prop} : ∀ {m : T α}, (tryT m k h).all P E → m.all (fun a => (k a).all P E) fun c xs => (h c xs).all P E := by
  intro m
  induction m with
  | ret a => exact fun q => q
  | bad => exact fun q => q
  | exc c xs => exact fun q => q
  | draw n f ih => exact fun q i hi => ih i (q i hi)
section
variable {c0 : Gc} {β : BInv} {Ex : XK} {g g1 : G} {H H1 : Hp} {ρ : Env'} {σ : L2.St}
theorem sp_callX {n : Nat} {fn : List AV → T AV} {ts : List AV} {vs : List V} {Q : VK} (R : Rel c0 β g ρ σ H) (r : RepsG c0 g H ts vs) (hn : ts.length = n)
    (h : (fn ts).all (fun t => ∀ g' H', Ext g g' H H' → ∀ v, Rel c0 β g' ρ σ H' → RepG c0 g' H' t v → Q v H') fun c xs => ∀ g' H' C d us, Ext g g' H H' → Rel c0 β g' ρ σ H' → c0.mg (c0.ct c).1 = some (.ref C) → DOk H' d (c0.ct c).2 us → us.length = (c0.ct c).2.length → RepsG c0 g' H' xs us → Ex (.ref C) d H') : spM c0 β n fn vs H Q Ex := by
  refine ⟨g.down, ts, fun _ => rfl, fun a h => ?_, fun a h => ?_, R.box, reps_down r, hn, ?_⟩
  · have h : g.Av a := h.elim .inl fun h => .inr (.inl h)
    exact ⟨R.avLive h, R.avNt h⟩
  · rcases h with h | ⟨i, h⟩
    · exact R.mb a h
    · exact (R.sep i a h).2
  · refine T.all_mono h (fun t q g1 H1 e v hb rv => q _ _ (down_ext R e) v (down_rel R e hb) (down_rep e rv)) fun c xs q g1 H1 C d ws e hb hm hd hl rv => ?_
    exact q _ _ C d ws (down_ext R e) (down_rel R e hb) hm hd hl (down_reps e rv)
end
noncomputable def sTryC (fk : SemL) (fn : List AV → T AV) (sub : Nat → Bool) (hnd : Nat → List AV → SSem) : SSem := fun ρ => (fk ρ).bind fun p => tryT (fn p.1) (fun _ => .ret (.nx p.2)) fun c xs => if sub c then hnd c xs p.2 else .exc c xs
section
variable {X : Cx} {ct : CT} {β : BInv} {Ex : XK} {e : Expr} {es : List Expr} {fk : SemL} {pos p pos' pos2 np posT : Pos} {b₀ : Stmt} {suite : List Stmt}
end
def rIsX (K : PySem.W.Frag) (cls : Value) (d : Option Addr) (a : Addr) : List V → Hp → VK → Prop := fun xs H Q => ∃ (D dd : Addr) (fs : List (Str × V)) (c : V) (cv : Value) (b : Bool), cls = .ref D ∧ d = some dd ∧ ExcC K D ∧ (PySem.W.clsIn K D).isSome = true ∧ H dd = some (.xd fs) ∧ xs = [.ref a, c] ∧ (∀ u, RelV c u → u = cv) ∧ PySem.W.kitOne K (.ref D) cv = some b ∧ Q (.bl b) H
theorem call_isX {X : Cx} {a : Addr} {cls : Value} {d : Option Addr} {oe : Obj} {pn : List (Addr × Obj)} (hz : Zc cls d oe) (hf : ∃ vs, oe.data = .fields vs) : CallR (X.suite a ((a, oe) :: pn)) (.builtin "isinstance") (rIsX X.K cls d a) := by
  intro pins s σ H xs us Q I r h
  obtain ⟨D, dd, fs, c, cv, b, rfl, rfl, C, hcl, hH, rfl, hcv, e, q⟩ := h
  cases r with
  | cons rx rr =>
    cases rr with
    | cons rt rr =>
      cases rr
      cases rx
      have ec := hcv _ rt
      subst ec
      obtain ⟨hget, _⟩ := I.pin (a, oe) (List.mem_append.mpr (.inl List.mem_cons_self))
      obtain ⟨vs, hv⟩ := hf
      have hx : ObjOk X.prog X.w H s.heap dd (.xd fs) := I.hok dd _ hH
      obtain ⟨mA, hns, _⟩ := hx
      obtain ⟨od, ho, _⟩ := lookIn_ns hns
      have J : PySem.W.InstAt s.heap a oe D (some od) := ⟨hget, hz.1, by unfold PySem.W.notCls; rw [hv] <;> rfl, by rw [hz.2]; exact ho⟩
      exact PySem.W.kia_one (PySem.W.kitx_exc hcl C.hg C.hk C.hs C.ha C.hn C.ht C.hm) I.kIn J e (fun z => nomatch z) fun tk => ⟨.bl b, H, I.kept (t' := tk) fun _ _ z => z, rfl, q⟩
def tXfX (K : PySem.W.Frag) (a : Addr) (cls : Value) (d : Option Addr) (f : Str) (te : TE) : TE := fun σ H Q => te σ H fun x H1 => x = .ref a ∧ ∃ (C dd : Addr) (fs : List (Str × V)) (v : V), cls = .ref C ∧ XfC K C ∧ PySem.W.findIn K (.ref C) f = some none ∧ d = some dd ∧ H1 dd = some (.xd fs) ∧ fs.lookup f = some v ∧ Q v H1
theorem pe_xfX {X : Cx} {a : Addr} {oe : Obj} {cls : Value} {d : Option Addr} {pn : List (Addr × Obj)} {e : Expr} {te : TE} {pos : Pos} {n : Str} (hz : Zc cls d oe) (hf : ∃ vs, oe.data = .fields vs) (he : PE (X.suite a ((a, oe) :: pn)) e te) (hb : attributeBase e n X.env (eval e X.env) = eval e X.env := by rfl) :
    PE (X.suite a ((a, oe) :: pn)) (.Attribute e n pos) (tXfX X.K a cls d n te) := by
  refine ⟨fun pins s σ H Q I h => ?_⟩
  refine attr_of hb (thn (he.run pins s σ H _ I h) fun u s1 hh => ?_)
  obtain ⟨x, H1, I1, rx, ex, C, dd, fs, v, ec, T, hno, ed, ea, l, q⟩ := hh
  subst ex
  obtain rfl : u = Value.ref a := rx
  subst ec
  subst ed
  obtain ⟨ha, _⟩ := I1.pin (a, oe) (List.mem_append_left _ List.mem_cons_self)
  obtain ⟨vs, hd⟩ := hf
  have hx : ObjOk X.prog X.w H1 s1.heap dd (.xd fs) := I1.hok dd _ ea
  obtain ⟨mA, hns, hr⟩ := hx
  obtain ⟨od, ho, hl⟩ := lookIn_ns hns
  obtain ⟨u, hu, ru⟩ := RelO.some_of (v := v) (o := mA n) (by rw [← l]; exact hr n)
  have J : PySem.W.InstAt s1.heap a oe C (some od) := ⟨ha, hz.1, by unfold PySem.W.notCls; rw [hd] <;> rfl, by rw [hz.2]; exact ho⟩
  exact HandSPX.exc_get I1.kIn J T.ga T.gg T.exC (PySem.W.findObj_own T.hdC hno rfl (by rw [hl, hu])) (handed_of ru) ⟨v, H1, I1.tok _, ru, q⟩
def tsE (K : PySem.W.Frag) (i j : Nat) (CA CB : Addr) (f o : Str) (a : Addr) (cls : Value) (d : Option Addr) : TS := tSeq (tAsg (tIf (tAnd (tB (tCB (rIsX K cls d a) (tCons (tVar i) (tCons (tC (.ref CA)) tNil)))) (tNot (tB (tCB (rIsX K cls d a) (tCons (tVar i) (tCons (tC (.ref CB)) tNil)))))) (tXfX K a cls d f (tVar i)) (tC (.str o))) (gName j)) tNext
def hndE (i j : Nat) (bA bB : Nat → Bool) (o : Str) (k : Nat) (xs : List AV) : SSem := fun ρ => if i < ρ.length ∧ j < ρ.length ∧ i ≠ j then (if (bA k && !bB k) = true then (match xs with
  | [t] => .ret (.nx ((ρ.set j (.fro t)).set i .un))
  | _ => .bad) else .ret (.nx ((ρ.set j (.fro (.str o))).set i .un))) else .bad
def tMakeS (C : Addr) (sp : Sp) (dvs : List V) (E : L2.St → XK) (t : TA) : TE := fun σ H Q => t σ H fun vs H1 => ∀ x dx, H1 x = none → H1 dx = none → dx ≠ x → sp (.ref x :: (vs ++ dvs)) (upd (upd H1 dx (.own x)) x (.ins C dx [])) (fun v H2 => v = .non ∧ Q (.ref x) H2) (E σ)
section
variable {X : Cx} {ct : CT} {β : BInv} {Ex : XK} {e : Expr} {es : List Expr} {fk : SemL} {pos p pos' pos2 np posT : Pos} {b₀ : Stmt} {suite : List Stmt}
end
end Dn
set_option Elab.async false
set_option linter.all false
set_option maxRecDepth 100000
set_option maxHeartbeats 2000000
namespace Dn
open PySem PySem.Spec PyProof.Rows L2
structure Er (P : Program) (w : World) (K : PySem.W.Frag) (mg : Str → Option Value) (base : Heap) (nm fld : Str) (C : Addr) : Prop where
  mgC : mg nm = some (.ref C)
  ox : OexC K C
  no : PySem.W.findIn K (.ref C) fld = some none
  mkE : ∃ fI fd pn, PySem.W.findIn K (.ref C) "__init__" = some (some (.ref fI)) ∧ PySem.W.typeIn K (.ref fI) = some (.type "function") ∧ FnOk P w K mg base (L2.CX P w) 1 fI fd ["self", pn] (spX K C fld) ∧ Binds K fd ["self", pn] []
section
variable {X : Cx} {ct : CT} {β : BInv} {Ex : XK} {e : Expr} {fk : SemL} {pos p pos' : Pos}
theorem js_raiseE {x fld : Str} {c : Nat} {C : Addr} (Y : Er X.prog X.w X.K X.mg X.base x fld C) (hc : X.calm = true) (tk : Takes X (fun cls d _ H => Ex cls d H)) (hr : Room 2 X.A) (hct : ct c = (x, [fld])) (ha : JL X ct β Ex [e] fk)
    (hg : Gl X x := by rfl) (hdb : (x == ("__debug__" : Str)) = false := by decide +kernel) (he : starEach [e] X.env = (false, eval e X.env) :: starEach [] X.env := by rfl) :
    JS X ct β Ex (.Raise (some (.Call (.Name x p) [e] [] pos)) none pos') (sRaise c fk) := by
  obtain ⟨fI, fd, pn, h1, h2, h3, h4⟩ := Y.mkE
  exact js_raise hc tk Y.ox h1 h2 Y.no h3 hr h4 hg Y.mgC hct ha hdb he
end
theorem sRaise_b {γ : Type} {c : Nat} {k : SemL} {ρ : Env'} {f : Out → T γ} : (sRaise c k ρ).bind f = (k ρ).bind fun p => if p.1.length = 1 then .exc c p.1 else .bad := by
  unfold sRaise
  rw [T.bind_assoc]
  refine congrArg _ (funext fun p => ?_)
  by_cases h : p.1.length = 1
  · rw [if_pos h, if_pos h]; rfl
  · rw [if_neg h, if_neg h]; rfl
structure ErC (K : PySem.W.Frag) (mg : Str → Option Value) (nm : Str) (C : Addr) : Prop where
  mgC : mg nm = some (.ref C)
  clI : (PySem.W.clsIn K C).isSome = true
  ty : PySem.W.typeIn K (.ref C) = some (.type "type")
  exB : PySem.W.subIn K (.ref C) (.type "BaseException") = some true
structure ErX (K : PySem.W.Frag) (C : Addr) (fld : Str) : Prop where
  ex : ExcC K C
  xf : XfC K C
  no : PySem.W.findIn K (.ref C) fld = some none
theorem exm_of {K : PySem.W.Frag} {mg : Str → Option Value} {nm : Str} {A C : Addr} {b : Bool} (E : ErC K mg nm C) (h : PySem.W.subIn K (.ref A) (.ref C) = some b) : PySem.W.exmOne K (.ref A) (.ref C) = some b := by
  unfold PySem.W.exmOne PySem.W.kitCls
  rw [if_pos (by rw [E.exB]; rfl)]
  show (if ((PySem.W.clsIn K C).isSome && PySem.W.typeIn K (.ref C) == some (.type "type")) = true then PySem.W.subIn K (.ref A) (.ref C) else none) = _
  rw [if_pos (by rw [E.clI, E.ty]; rfl)]
  exact h
theorem kit_of {K : PySem.W.Frag} {mg : Str → Option Value} {nm : Str} {A C : Addr} {b : Bool} (E : ErC K mg nm C) (h : PySem.W.subIn K (.ref A) (.ref C) = some b) (hn : b = false → (Value.ref A == Value.ref C) = false) : PySem.W.kitOne K (.ref A) (.ref C) = some b := by
  unfold PySem.W.kitOne PySem.W.kitCls
  by_cases e : (Value.ref A == Value.ref C) = true
  · rw [if_pos e]
    cases b with
    | true => rfl
    | false => rw [hn rfl] at e; cases e
  · rw [if_neg e]
    show (if ((PySem.W.clsIn K C).isSome && PySem.W.typeIn K (.ref C) == some (.type "type")) = true then PySem.W.subIn K (.ref A) (.ref C) else none) = _
    rw [if_pos (by rw [E.clI, E.ty]; rfl)]
    exact h
abbrev TX : XK := fun _ _ _ => True
def exW (c0 : Gc) (β : BInv) (W : WX) (g : G) (H : Hp) (ρ : Env') (σ : L2.St) : Nat → List AV → Prop := fun c xs => ∀ g' H' C d us, Ext g g' H H' → Rel c0 β g' ρ σ H' → c0.mg (c0.ct c).1 = some (.ref C) → DOk H' d (c0.ct c).2 us → us.length = (c0.ct c).2.length → RepsG c0 g' H' xs us → W (.ref C) d σ H'
def rdX (c0 : Gc) (β : BInv) (W : WX) (m : Env' → T AV) : TE := fun σ H Q => ∃ g ρ, Rel c0 β g ρ σ H ∧ (m ρ).all (fun t => ∀ g' H', Ext g g' H H' → ∀ v, Rel c0 β g' ρ σ H' → RepG c0 g' H' t v → Q v H') (exW c0 β W g H ρ σ)
def rdXS (c0 : Gc) (β : BInv) (W : WX) (m : Env' → T Env') : TS := fun D σ H => ∃ g ρ, Rel c0 β g ρ σ H ∧ (m ρ).all (fun ρ' => ∀ g' H', Ext g g' H H' → ∀ σ', Rel c0 β g' ρ' σ' H' → D.nx σ' H') (exW c0 β W g H ρ σ)
def JX (X : Cx) (ct : CT) (β : BInv) (e : Expr) (m : Env' → T AV) : Prop := ∀ (W : WX) (pn : List (Addr × Obj)) (xe : Value → Shared → Prop), Takes (X.tr pn xe) W → PE (X.tr pn xe) e (rdX (gc X ct) β W m)
def JB (X : Cx) (ct : CT) (β : BInv) (b : List Stmt) (m : Env' → T Env') : Prop := ∀ (W : WX) (pn : List (Addr × Obj)) (xe : Value → Shared → Prop), Takes (X.tr pn xe) W → PSs (X.tr pn xe) b (rdXS (gc X ct) β W m)
noncomputable def envB (a b : Env') : Bool := @decide (a = b) (Classical.propDecidable _)
theorem envB_self {a : Env'} : envB a a = true := @decide_eq_true _ (Classical.propDecidable _) rfl
theorem envB_eq {a b : Env'} (h : envB a b = true) : a = b := @of_decide_eq_true _ (Classical.propDecidable _) h
noncomputable def mSame {α γ : Type} (q : T (α × Env')) (ρ : Env') (k : α → T γ) : T γ := q.bind fun p => if envB p.2 ρ = true then k p.1 else .bad
theorem mSame_ret {α γ : Type} {a : α} {ρ : Env'} {k : α → T γ} : mSame (.ret (a, ρ)) ρ k = k a := if_pos envB_self
theorem mSame_all {α γ : Type} {q : T (α × Env')} {ρ : Env'} {k : α → T γ} {P : γ → Prop} {E : Nat → List AV → Prop} (h : (mSame q ρ k).all P E) : q.all (fun p => p.2 = ρ ∧ (k p.1).all P E) fun _ _ => True := by
  refine T.all_mono (T.all_bind.mp h) (fun p z => ?_) fun _ _ _ => trivial
  by_cases e : envB p.2 ρ = true
  · exact ⟨envB_eq e, by rwa [if_pos e] at z⟩
  · rw [if_neg e] at z
    exact (show False from z).elim
noncomputable def mArgs (fk : SemL) (fn : List AV → T AV) : Env' → T AV := fun ρ => mSame (fk ρ) ρ fn
noncomputable def mIfX (fc : SemB) (a b : Env' → T AV) : Env' → T AV := fun ρ => mSame (fc ρ) ρ fun c => if c = true then a ρ else b ρ
noncomputable def mIfS (fc : SemB) (a b : Env' → T Env') : Env' → T Env' := fun ρ => mSame (fc ρ) ρ fun c => if c = true then a ρ else b ρ
def mDrop (m : Env' → T AV) : Env' → T Env' := fun ρ => (m ρ).bind fun _ => .ret ρ
section
variable {X : Cx} {ct : CT} {β : BInv} {a b c e : Expr} {es : List Expr} {fk : SemL} {pos p pos' pos2 : Pos} {lv n : Nat} {ps : List Str} {fn : List AV → T AV} {x : Str}
theorem jx_call (Df1 : Df X.prog X.w X.K X.mg X.base ct β lv x n ps fn) (hr : Room lv X.A) (ha : ∀ pn xe, JL (X.tr pn xe) ct β TX (e :: es) fk) (hg : Gl X x := by rfl) (hdb : (x == ("__debug__" : Str)) = false := by decide +kernel)
    (he : ∀ pn xe, starEach (e :: es) (X.tr pn xe).env = (false, eval e (X.tr pn xe).env) :: starEach es (X.tr pn xe).env := by intros; rfl) (hpl : ∀ pn xe, (backTo pos (starEach es (X.tr pn xe).env)).any (·.1) = false := by intros; rfl) :
    JX X ct β (.Call (.Name x p) (e :: es) [] pos) (mArgs fk fn) := fun W pn xe tkW => by
  obtain ⟨fa, fd, F, hm, hk, hb⟩ := Df1.ex
  refine PE.imp (pe_callS (X := X.tr pn xe) F hr hg hm hk hb (fun σ => passAt tkW σ) (ha pn xe) hdb (he pn xe) (hpl pn xe)) fun σ H Q h => ?_
  obtain ⟨g, ρ, R, h⟩ := h
  refine ⟨g, ρ, R, T.all_mono (mSame_all h) (fun q z g1 H1 e1 vs R1 rv => ?_) fun _ _ _ _ _ _ _ _ _ _ _ _ _ _ => trivial⟩
  obtain ⟨hq, h1⟩ := z
  rw [hq] at R1
  exact sp_callX R1 rv (Df1.len _ (T.all_mono h1 (fun _ _ => trivial) fun _ _ _ => trivial)) (T.all_mono h1 (fun t z g' H' e' v R' rt => z g' H' (e1.trans e') v R' rt) fun c xs z g' H' C d us e' R' hm' hd' hl' rx => z g' H' C d us (e1.trans e') R' hm' hd' hl' rx)
end
noncomputable def sTryB (m : Env' → T Env') (sub : Nat → Bool) (hnd : Nat → List AV → SSem) : SSem := fun ρ => tryT (m ρ) (fun ρ' => .ret (.nx ρ')) fun c xs => if sub c then hnd c xs ρ else .exc c xs
section
variable {X : Cx} {ct : CT} {β : BInv} {Ex : XK} {pos' np posT : Pos} {b₀ : Stmt} {suite body : List Stmt}
end
theorem pss_handE {X : Cx} {a : Addr} {oe : Obj} {cls : Value} {d : Option Addr} {pn : List (Addr × Obj)} {n x A B f o : Str} {i j k : Nat} {CA CB : Addr} {p1 p2 p3 p4 p5 p6 p7 p8 p9 p10 p11 p12 p13 p14 p15 p16 : Pos} (hz : Zc cls d oe) (hf : ∃ vs, oe.data = .fields vs)
    (hN : X.N.Nodup) (hi : X.N[i]? = some n) (hj : X.N[j]? = some x) (hvn : Vis X.env.scope n) (hlx : Loc X.env.scope x) (hfx : X.fn x = true ∨ X.env.scope.names.lookup x = some .local) (hgi : Gl X "isinstance") (hmi : X.mg "isinstance" = none) (hgA : Gl X A) (hmA : X.mg A = some (.ref CA)) (hgB : Gl X B) (hmB : X.mg B = some (.ref CB))
    (dn : (n == ("__debug__" : Str)) = false) (cn : (n == ("__classdict__" : Str)) = false) (dA : (A == ("__debug__" : Str)) = false) (dB : (B == ("__debug__" : Str)) = false)
    (hb : ∀ env : Env, attributeBase (.Name n p9) f env (eval (.Name n p9) env) = eval (.Name n p9) env) (hsw : ∀ (env : Env) (v : Expr), swapsWith (.IfExp (.BoolOp .And [.Call (.Name "isinstance" p1) [.Name n p2, .Name A p3] [] p4, .UnaryOp .Not (.Call (.Name "isinstance" p5) [.Name n p6, .Name B p7] [] p8) p12] p13) (.Attribute (.Name n p9) f p10) v p11) (some (.Name x p14)) p16.line env = pure false) :
    PSs (X.suite a ((a, oe) :: pn)) [.Assign [.Name x p14] (.IfExp (.BoolOp .And [.Call (.Name "isinstance" p1) [.Name n p2, .Name A p3] [] p4, .UnaryOp .Not (.Call (.Name "isinstance" p5) [.Name n p6, .Name B p7] [] p8) p12] p13) (.Attribute (.Name n p9) f p10) (.Constant (.str o) k p15) p11) p16] (tsE X.K i j CA CB f o a cls d) := by
  unfold tsE
  have en : ∀ p, PE (X.suite a ((a, oe) :: pn)) (.Name n p) (tVar i) := fun p => pe_var (X := X.suite a ((a, oe) :: pn)) hi hvn dn cn
  refine pss_cons (ps_set (X := X.suite a ((a, oe) :: pn)) hN hj hlx (pe_ifExp (pw_and (pt_val (pe_callB (call_isX hz hf) hgi hmi (by decide +kernel) (pa_cons (en p2) (pa_cons (C8.pe_gc (v := .ref CA) hgA ⟨_, hmA, (rfl : RelV (.ref CA) (.ref CA))⟩ dA) pa_nil)) (by decide +kernel) (by decide +kernel))) (pw_and1 (pt_not (pt_val (pe_callB (call_isX hz hf) hgi hmi (by decide +kernel) (pa_cons (en p6) (pa_cons (C8.pe_gc (v := .ref CB) hgB ⟨_, hmB, (rfl : RelV (.ref CB) (.ref CB))⟩ dB) pa_nil)) (by decide +kernel) (by decide +kernel)))))).pt (pe_xfX hz hf (en p9) (hb _)) pe_str) (hsw _ _) hfx) pss_nil
def mulS (x : Str) (n : Int) : Str := if n < 1 then Str.empty else if (n == 1 || x.length == 0) = true then x else ⟨(List.replicate n.toNat x.cps).foldl (· ++ ·) #[]⟩
def pMulS (a b : AV) : Option AV := match a, b with
  | .str x, .int k => if 0 ≤ k ∧ k ≤ 1000 ∧ x.length ≤ 1000 then some (.str (mulS x k)) else none
  | _, _ => none
end Dn
set_option Elab.async false
set_option linter.all false
set_option maxRecDepth 100000
set_option maxHeartbeats 2000000
namespace Dn
open PySem PySem.Spec PyProof.Rows L2
def mSetN (i : Nat) (m : Env' → T AV) : Env' → T Env' := fun ρ => (m ρ).bind fun _ => if i < ρ.length then .ret (ρ.set i (.fro .non)) else .bad
section
variable {X : Cx} {ct : CT} {β : BInv} {a b c e : Expr} {es : List Expr} {fk : SemL} {pos p pos' p1 p2 p3 p4 apos : Pos} {lv n : Nat} {ps : List Str} {fn : List AV → T AV} {x mt : Str}
end
end Dn
set_option Elab.async false
set_option linter.all false
set_option maxRecDepth 100000
set_option maxHeartbeats 2000000
namespace Dn
open PySem PySem.Spec PyProof.Rows L2
def pIsi2O (c : Nat) (u v : String) (a : AV) : Option AV := match a with
  | .ins c' _ => if c' = c then some (.bl false) else none
  | t => pIsi2 u v t
section
variable {X : Cx} {ct : CT} {β : BInv} {Ex : XK} {a b c e : Expr} {f k : Sem} {pos p p2 p3 p4 : Pos} {x : Str} {u v : String}
end
def tMethS (C : Addr) (m : Str) (sp : Sp) (E : L2.St → XK) (ta : TE) (t : TA) : TE := fun σ H Q => ta σ H fun x H1 => ∃ a dx fs, x = .ref a ∧ H1 a = some (.ins C dx fs) ∧ fs.lookup m = none ∧ t σ H1 fun vs H2 => sp (x :: vs) H2 Q (E σ)
noncomputable def mMeth (c : Nat) (f : Sem) (fk : SemL) (fn : List AV → T AV) : Env' → T AV := fun ρ => (f ρ).bind fun q => (frz q).bind fun s => if envB s.2 ρ = true then (match s.1 with
  | .ins c' xs => if c' = c then (fk ρ).bind fun p => if envB p.2 ρ = true then fn (.ins c' xs :: p.1) else .bad else .bad
  | _ => .bad) else .bad
section
variable {X : Cx} {ct : CT} {β : BInv} {a e : Expr} {es : List Expr} {f : Sem} {fk : SemL} {pos p apos : Pos} {lv n c : Nat} {ps : List Str} {fn : List AV → T AV} {mt : Str}
end
end Dn
set_option Elab.async false
set_option linter.all false
set_option maxRecDepth 100000
set_option maxHeartbeats 2000000
namespace Dn
open PySem PySem.Spec PyProof.Rows L2
def sDputT (j : Nat) (fk fv : Sem) : SSem := fun ρ => (fv ρ).bind fun p => (frz p).bind fun q => (lift (isMdT q.2 j)).bind fun _ => (fk q.2).bind fun r => (lift (rs r.1 r.2)).bind fun a => (lift (keyT a)).bind fun k => (lift (isMdT r.2 j)).bind fun kvs =>
  if kvs.length < big then .ret (.nx (r.2.set j (.md false (dPutT kvs a k q.1)))) else .bad
def keysT : List (AV × AV) → Option (List (List Key))
  | [] => some []
  | q :: r => (keyOfT q.1).bind fun k => (keysT r).map fun ks => k :: ks
def dctOf (kvs : List (AV × AV)) : Option AV := (keysT kvs).map fun ks => .dct ks (kvs.map (·.2))
def lGive (j : Nat) (k : SemL) : SemL := fun ρ => (lift (isMdT ρ j)).bind fun kvs => (lift (dctOf kvs)).bind fun t => (k (ρ.set j (.fro t))).bind fun r => .ret (t :: r.1, r.2)
section
variable {X : Cx} {ct : CT} {β : BInv} {Ex : XK} {a e value : Expr} {es : List Expr} {fk fv fi fe : Sem} {k : SemL} {pos p pos' p2 tpos : Pos} {x : Str}
def rGetL : V → V → Hp → VK → Prop := fun o i H Q => ∃ p xs k j v, o = .ref p ∧ i = .int k ∧ H p = some (.lst xs) ∧ ixN xs.length k = some j ∧ xs[j]? = some v ∧ Q v H
def sAugIx (op : Int → Int → Int) (j : Nat) (fi fe : Sem) : SSem := fun ρ => (lift (isMl ρ j)).bind fun _ => (fi ρ).bind fun r => (lift (rs r.1 r.2)).bind fun a => (lift (intOf a)).bind fun k => (lift (isMl r.2 j)).bind fun xs => (lift (ixN xs.length k)).bind fun n => (lift (xs[n]?)).bind fun y => (lift (intOf y)).bind fun u =>
  (fe r.2).bind fun s => (lift (rs s.1 s.2)).bind fun b => (lift (intOf b)).bind fun w => (lift (isMl s.2 j)).bind fun xs2 => (lift (ixN xs2.length k)).bind fun n2 => .ret (.nx (s.2.set j (.ml (xs2.set n2 (.int (op u w))))))
end
def pComb (a b : AV) : Option AV := match a, b with
  | .int i, .int j => if 0 ≤ i ∧ 0 ≤ j ∧ i ≤ 18000 then some (.int (PySem.W.mcComb i j)) else none
  | _, _ => none
def rComb : List V → Hp → VK → Prop := fun vs H Q => ∃ a b : Int, vs = [.int a, .int b] ∧ (0 ≤ a ∧ a ≤ 18000) ∧ 0 ≤ b ∧ Q (.int (PySem.W.mcComb a b)) H
def numOf : AV → Option Int
  | .int i => some i
  | .bl b => some (if b = true then 1 else 0)
  | _ => none
def numsOfA : List AV → Option (List Int)
  | [] => some []
  | x :: r => (numOf x).bind fun i => (numsOfA r).map fun l => i :: l
def pSumB (a : AV) : Option AV := match a with
  | .lst xs => (numsOfA xs).map fun ns => .int ns.sum
  | _ => none
def NumV (v : V) (i : Int) : Prop := v = .int i ∨ ∃ b : Bool, v = .bl b ∧ i = if b = true then 1 else 0
def rSumB (K : PySem.W.Frag) : List V → Hp → VK → Prop := fun vs H Q => ∃ (a : Addr) (xs : List V) (ns : List Int), vs = [V.ref a] ∧ SqL K H a xs ∧ Paired NumV xs ns ∧ Q (.int ns.sum) H
end Dn
set_option Elab.async false
set_option linter.all false
set_option maxRecDepth 100000
set_option maxHeartbeats 2000000
namespace Dn
open PySem PySem.Spec PyProof.Rows L2
def ch : Nat → Nat → Nat
  | _, 0 => 1
  | 0, _ + 1 => 0
  | n + 1, k + 1 => ch n k + ch n (k + 1)
open PySem.Builtin.Math in
open PySem.Builtin.Math in
open PySem.Builtin.Math in
def sumN : Nat → (Nat → Nat) → Nat
  | 0, _ => 0
  | n + 1, f => sumN n f + f n
def subs {α : Type} : List α → List (List α)
  | [] => [[]]
  | x :: l => subs l ++ (subs l).map (x :: ·)
def sumL {β : Type} (l : List β) (f : β → Nat) : Nat := (l.map f).sum
section
variable {α β : Type}
end
end Dn
set_option Elab.async false
set_option linter.all false
set_option maxRecDepth 100000
set_option maxHeartbeats 2000000
namespace Dn
open PySem PySem.Spec PyProof.Rows L2
section
variable {α : Type}
abbrev Pc (α : Type) := (α → Bool) × Nat
def parB (cs : List (Pc α)) (M : List α) : Bool := cs.all fun c => decide ((M.filter c.1).length % 2 = c.2)
def cntP (P : List α) (cs : List (Pc α)) (L : Nat) : Nat := sumL (subs P) fun M => if M.length ≤ L ∧ parB cs M = true then 1 else 0
def wF (l : List (Nat × Nat)) : Nat → Nat := l.foldl (fun W c => fun p => sumN (p + 1) fun a => W a * ch c.1 (c.2 + 2 * (p - a))) (fun p => if p = 0 then 1 else 0)
def needN (l : List (Nat × Nat)) : Nat := (l.map (·.2)).sum
def sF (f j : Nat) : Nat := sumN (j + 1) (ch f)
def fN (l : List (Nat × Nat)) (f L : Nat) : Nat := if needN l ≤ L then sumN ((L - needN l) / 2 + 1) fun p => wF l p * sF f (L - needN l - 2 * p) else 0
end
end Dn
set_option Elab.async false
set_option linter.all false
set_option maxRecDepth 100000
namespace Dn
open PySem PySem.Spec PyProof.Rows L2
open PySem.W PySem.SeqAt
section
variable {prog : Program} {w : World} {A : Around} {E : Value → Shared → Prop} {s : Shared} {l : Addr} {xs : Array (Int × Tok)}
end
def rMaxT (K : PySem.W.Frag) : List V → Hp → VK → Prop := fun vs H Q => ∃ (a : Addr) (ns : List Int), vs = [V.ref a] ∧ SqT K H a (ns.map V.int) ∧ 0 < ns.length ∧ ∀ m, m ∈ ns → (∀ y, y ∈ ns → y ≤ m) → Q (.int m) H
def pMaxT (a : AV) : Option AV := match a with
  | .tup xs => match intsOf xs with
    | some (x :: r) => some (.int (maxL x r))
    | _ => none
  | _ => none
end Dn
set_option Elab.async false
set_option linter.all false
set_option maxRecDepth 100000
namespace Dn
open PySem PySem.Spec PyProof.Rows L2
open PySem.W PySem.SeqAt
def rCount (K : PySem.W.Frag) : V → List V → Hp → VK → Prop := fun x xs H Q => ∃ (a : Addr) (ns : List Int) (i : Int), x = V.ref a ∧ xs = [.int i] ∧ SqL K H a (ns.map V.int) ∧ Q (.int (ns.countP fun n => n == i : Nat)) H
section
variable {X : Cx}
end
section
variable {X : Cx} {ct : CT} {β : BInv} {Ex : XK} {a b : Expr} {f k : Sem} {pos : Pos}
def fCount (f k : Sem) : Sem := fun ρ => (f ρ).bind fun p => (lift (rs p.1 p.2)).bind fun a0 => (lift (lstOf a0)).bind fun _ => (k p.2).bind fun q => (lift (rs p.1 q.2)).bind fun a => (lift (lstOf a)).bind fun xs => (lift (rs q.1 q.2)).bind fun b => (lift (intOf b)).bind fun i =>
  (lift (intsOf xs)).bind fun ns => .ret (.val (.int (ns.countP fun n => n == i : Nat)), q.2)
end
end Dn
set_option Elab.async false
set_option linter.all false
set_option maxRecDepth 100000
namespace Dn
open PySem PySem.Spec PyProof.Rows L2
open PySem.W PySem.SeqAt
def zipA (xs ys : List AV) : List AV := List.zipWith (fun x y => AV.tup [x, y]) xs ys
def iZip (f k : Sem) : SemI := fun ρ => (f ρ).bind fun p => (frz p).bind fun q => (k q.2).bind fun p2 => (frz p2).bind fun q2 => (lift (lstOf q.1)).bind fun xs => (lift (lstOf q2.1)).bind fun ys => .ret (zipA xs ys, q2.2)
section
variable {X : Cx} {ct : CT} {β : BInv} {Ex : XK} {e e2 : Expr} {f k : Sem} {p pos tpos : Pos} {elts : List Expr} {kk : Nat}
end
end Dn
namespace Dn
open PySem PySem.Spec PyProof.Rows L2
def rZero (K : PySem.W.Frag) : R2 := fun x y H Q => ∃ l xs, x = .ref l ∧ y = .int 0 ∧ SqT K H l xs ∧ xs ≠ [] ∧ ∀ p, H p = none → Q (.ref p) (upd H p (.tup []))
def pMulZ (a b : AV) : Option AV := match a, b with
  | .tup xs, .int k => if k = 0 then (if xs.isEmpty = false then some (.tup []) else none) else pMulT (.tup xs) (.int k)
  | _, _ => none
section
variable {X : Cx} {ct : CT}
end
end Dn
set_option Elab.async false
set_option linter.all false
set_option maxRecDepth 100000
namespace Dn
open PySem PySem.Spec PyProof.Rows L2
def pIsT (a b : AV) : Option AV := match a, b with
  | .non, .bl _ => some (.bl false)
  | a, b => pIs a b
section
variable {X : Cx} {ct : CT}
end
end Dn
set_option Elab.async false
set_option linter.all false
set_option maxRecDepth 100000
namespace Dn
open PySem PySem.Spec PyProof.Rows L2
def convF (f g : Nat → Nat) (p : Nat) : Nat := sumN (p + 1) fun a => f a * g (p - a)
def ownF (c : Nat × Nat) (k : Nat) : Nat := ch c.1 (c.2 + 2 * k)
section
variable {α : Type} [DecidableEq α]
def flipC (cs : List (Pc α)) (p : α) : List (Pc α) := cs.map fun c => (c.1, if c.1 p = true then 1 - c.2 else c.2)
end
end Dn
set_option Elab.async false
set_option linter.all false
set_option maxRecDepth 100000
namespace Dn
open PySem PySem.Spec PyProof.Rows L2
def lookD : List (List Key) → List AV → List Key → Option AV
  | k :: ks, x :: xs, j => if k = j then some x else lookD ks xs j
  | _, _, _ => none
def pInD (a b : AV) : Option AV := match b with
  | .dct ks xs => (keyT a).map fun k => .bl (lookD ks xs k).isSome
  | _ => none
def pIxD (a b : AV) : Option AV := match a with
  | .dct ks xs => (keyT b).bind fun k => lookD ks xs k
  | _ => none
section
variable {X : Cx} {ct : CT}
def rInDct : R2 := fun x y H Q => ∃ a o, y = .ref a ∧ DGet H a x o ∧ Q (.bl o.isSome) H
def rIxDct : R2 := fun x y H Q => ∃ a v, x = .ref a ∧ DGet H a y (some v) ∧ Q v H
end
section
variable {X : Cx} {ct : CT} {β : BInv} {Ex : XK} {a b : Expr} {f k : Sem} {pos : Pos}
end
end Dn
set_option Elab.async false
set_option linter.all false
set_option maxRecDepth 100000
namespace Dn
open PySem PySem.Spec PyProof.Rows L2
section
variable {α : Type}
def flA (cs : List (Pc α)) (A : List α) : List (Pc α) := cs.map fun c => (c.1, (c.2 + (A.filter c.1).length) % 2)
end
def WOk (W : List Nat) (l : List (Nat × Nat)) (L : Nat) : Prop := (l = [] ∧ W = [1]) ∨ (l ≠ [] ∧ (∀ p, p < W.length → W.getD p 0 = wF l p) ∧ ∀ p, needN l + 2 * p ≤ L → p < W.length)
theorem WOk.less {W : List Nat} {l : List (Nat × Nat)} {L L' : Nat} (h : WOk W l L) (hl : L' ≤ L) : WOk W l L' := h.imp id fun ⟨a, b, c⟩ => ⟨a, b, fun p hp => c p (Nat.le_trans hp hl)⟩
section
variable {α : Type}
def goL (ok : List α → Bool) : List α → List α → List (List α)
  | _, [] => []
  | A, p :: Q => ((if ok (A ++ [p]) then [A ++ [p]] else []) ++ goL ok (A ++ [p]) Q) ++ goL ok A Q
def frL (ok : List α → Bool) (A Q : List α) : List (List α) := (if ok A then [A] else []) ++ goL ok A Q
def okC (cs : List (Pc α)) (B : Nat) (M : List α) : Bool := decide (M.length ≤ B) && parB cs M
end
end Dn
set_option Elab.async false
set_option linter.all false
set_option maxRecDepth 100000
namespace Dn
open PySem PySem.Spec PyProof.Rows L2
def pGcd (a b : AV) : Option AV := match a, b with
  | .int i, .int j => some (.int ((Nat.gcd i.natAbs j.natAbs : Nat) : Int))
  | _, _ => none
end Dn
set_option Elab.async false
set_option linter.all false
set_option maxRecDepth 100000
namespace Dn
open PySem PySem.Spec PyProof.Rows L2
def rGtD (K : PySem.W.Frag) : R2 := fun x y H Q => ∃ da db, Dp K H x da ∧ Dp K H y db ∧ PySem.W.alike da db = true ∧ da ≠ .none ∧ da.depth ≤ 12 ∧ Q (.bl (PySem.W.dataLt db da)) H
def nonD : PyData → Bool
  | .none => true
  | _ => false
def pGtD (a b : AV) : Option AV := if dat DEP a && dat DEP b && PySem.W.alike (toD DEP a) (toD DEP b) && !nonD (toD DEP a) then some (.bl (PySem.W.dataLt (toD DEP b) (toD DEP a))) else none
def prD (p : Nat × Nat) : PyData := .tuple [.int (p.1 : Int), .int (p.2 : Int)]
def ltM : List (Nat × Nat) → List (Nat × Nat) → Bool
  | [], [] => false
  | [], _ :: _ => true
  | _ :: _, [] => false
  | p :: M, q :: N => if p = q then ltM M N else decide (p.1 < q.1 ∨ p.1 = q.1 ∧ p.2 < q.2)
abbrev ltQ (p q : Nat × Nat) : Prop := p.1 < q.1 ∨ p.1 = q.1 ∧ p.2 < q.2
end Dn
set_option Elab.async false
set_option linter.all false
set_option maxRecDepth 100000
set_option maxHeartbeats 2000000
namespace Dn
open PySem PySem.Spec PyProof.Rows L2
def tsQ (K : PySem.W.Frag) (i j l : Nat) (CA CB : Addr) (f : Str) (a : Addr) (cls : Value) (d : Option Addr) : TS := tSeq (tAsg (tAndV (tOp (rEqD K) (tXfX K a cls d f (tVar i)) (tVar l)) (tAndV (tCB (rIsX K cls d a) (tCons (tVar i) (tCons (tC (.ref CA)) tNil))) (tNotV (tCB (rIsX K cls d a) (tCons (tVar i) (tCons (tC (.ref CB)) tNil)))))) (gName j)) tNext
def hndQ (i j l : Nat) (bA bB : Nat → Bool) (k : Nat) (xs : List AV) : SSem := fun ρ => if (i < ρ.length ∧ j < ρ.length) ∧ i ≠ j ∧ l ≠ i then (match xs, ρ[l]? with
  | [t], some (.fro u) => if (dat DEP t && dat DEP u) = true then .ret (.nx ((ρ.set j (.fro (.bl (aeq DEP t u && (bA k && !bB k))))).set i .un)) else .bad
  | _, _ => .bad) else .bad
end Dn
set_option Elab.async false
set_option linter.all false
set_option maxRecDepth 100000
set_option maxHeartbeats 0
namespace Dn
open PySem PySem.Spec PyProof.Rows L2
def TabI (P : Addr) (q : Str) (T : Addr → Prop) (H : Hp) : Prop := T P ∧ ∃ ps : Array Value, H P = some (.tbl ps) ∧ TriplesOk ps.toList ∧
  (∀ (pos : Pos) (cv : Value), codeAmong pos ps.toList = some cv → ∃ c, cv = .ref c ∧ T c ∧ c ≠ P) ∧ ∀ a, T a → a = P ∨ H a = some (LamX.CodeO a q)
section
variable {P : Addr} {q : Str} {T : Addr → Prop} {H H' : Hp} {a : Addr}
theorem codeO_tup {c : Addr} {vs : List V} : LamX.CodeO c q ≠ .tup vs := fun z => by
  unfold LamX.CodeO at z
  cases z
theorem TabI.find (h : TabI P q T H) (ta : T a) : (∃ ps, H a = some (.tbl ps)) ∨ H a = some (LamX.CodeO a q) := by
  obtain ⟨_, ps, e, _, _, m⟩ := h
  rcases m a ta with z | z
  · rw [z]; exact .inl ⟨ps, e⟩
  · exact .inr z
theorem TabI.some (h : TabI P q T H) (ta : T a) : ∃ o, H a = some o := by
  rcases h.find ta with ⟨ps, e⟩ | e
  · exact ⟨_, e⟩
  · exact ⟨_, e⟩
theorem TabI.frame (h : TabI P q T H) (k : ∀ a, T a → H' a = H a) : TabI P q T H' := by
  obtain ⟨tp, ps, e, tr, c, m⟩ := h
  exact ⟨tp, ps, by rw [k P tp]; exact e, tr, c, fun a ta => (m a ta).imp id fun z => by rw [k a ta]; exact z⟩
end
def BoxT (β : BInv) (P : Addr) (q : Str) : BInv where
  I := fun B D H => ∃ B1 T : Addr → Prop, (∀ a, B a ↔ B1 a ∨ T a) ∧ (∀ a, T a → ¬ B1 a) ∧ β.I B1 D H ∧ TabI P q T H
  live := fun {B D H a} h b => by
    obtain ⟨B1, T, e, _, hb, ht⟩ := h
    rcases (e a).mp b with z | z
    · exact β.live hb z
    · obtain ⟨o, eo⟩ := ht.some z
      rw [eo]
      exact fun z => by cases z
  nt := fun {B D H a} h b ws x => by
    obtain ⟨B1, T, e, _, hb, ht⟩ := h
    rcases (e a).mp b with z | z
    · exact β.nt hb z ws x
    · rcases ht.find z with ⟨ps, eo⟩ | eo
      · rw [eo] at x; cases x
      · rw [eo] at x; exact codeO_tup (Option.some.inj x)
  top := fun {B D H a} h d => by
    obtain ⟨B1, T, e, _, hb, ht⟩ := h
    exact (e a).mpr (.inl (β.top hb d))
  frame := fun {B D H H'} h k => by
    obtain ⟨B1, T, e, n, hb, ht⟩ := h
    exact ⟨B1, T, e, n, β.frame hb fun a z => k a ((e a).mpr (.inl z)), ht.frame fun a z => k a ((e a).mpr (.inr z))⟩
theorem spT {c0 : Gc} {β : BInv} {P : Addr} {q : Str} {n : Nat} {fn : List AV → T AV} {vs : List V} {H : Hp} {Q : VK} {E : XK} (h : spM c0 (BoxT β P q) n fn vs H Q E) : spM c0 β n fn vs H Q E := by
  obtain ⟨g, ts, ho, hm, hmb, ⟨B1, Tb, eB, nB, hb, ht⟩, r, hl, h⟩ := h
  let g1 : G := { g with M := fun a => g.M a ∨ Tb a, B := B1 }
  have av : ∀ a, g1.Av a ↔ g.Av a := fun a => by
    constructor
    · rintro ((z | z) | ⟨i, z⟩ | z)
      · exact .inl z
      · exact .inr (.inr ((eB a).mpr (.inr z)))
      · exact .inr (.inl ⟨i, z⟩)
      · exact .inr (.inr ((eB a).mpr (.inl z)))
    · rintro (z | ⟨i, z⟩ | z)
      · exact .inl (.inl z)
      · exact .inr (.inl ⟨i, z⟩)
      · rcases (eB a).mp z with z | z
        · exact .inr (.inr z)
        · exact .inl (.inr z)
  have back : ∀ {g' : G} {H' : Hp}, Ext g1 g' H H' → β.I g'.B g'.D H' →
      Ext g { g' with M := g.M, B := fun a => g'.B a ∨ Tb a } H H' ∧ (BoxT β P q).I (fun a => g'.B a ∨ Tb a) g'.D H' ∧ ∀ a, ({ g' with M := g.M, B := fun a => g'.B a ∨ Tb a } : G).Av a ↔ g'.Av a := fun {g' H'} e hb' => by
    have keepT : ∀ a, Tb a → H' a = H a := fun a ta => by
      obtain ⟨o, eo⟩ := ht.some ta
      rw [eo]
      exact e.keep a o eo (fun i z => by rw [show g1.own i = none from ho i] at z; cases z) (fun z => nB a ta z)
    refine ⟨⟨fun a o h1 h2 h3 => e.keep a o h1 h2 fun z => h3 ((eB a).mpr (.inl z)), e.live, rfl, fun a z => ?_, fun a z => ?_, e.dsub, e.own, e.s⟩, ⟨g'.B, Tb, fun a => Iff.rfl, fun a ta z => ?_, hb', ht.frame keepT⟩, fun a => ?_⟩
    · rcases (eB a).mp z with z | z
      · exact .inl (e.bsub a z)
      · exact .inr z
    · rcases z with z | z
      · exact (e.bnew a z).elim (fun z => .inl ((eB a).mpr (.inl z))) .inr
      · exact .inl ((eB a).mpr (.inr z))
    · rcases e.bnew a z with z | z
      · exact nB a ta z
      · obtain ⟨o, eo⟩ := ht.some ta
        rw [eo] at z
        cases z
    · have em : ∀ b, g'.M b ↔ g.M b ∨ Tb b := fun b => by rw [e.m]
      constructor
      · rintro (z | ⟨i, z⟩ | z | z)
        · exact .inl ((em a).mpr (.inl z))
        · exact .inr (.inl ⟨i, z⟩)
        · exact .inr (.inr z)
        · exact .inl ((em a).mpr (.inr z))
      · rintro (z | ⟨i, z⟩ | z)
        · rcases (em a).mp z with z | z
          · exact .inl z
          · exact .inr (.inr (.inr z))
        · exact .inr (.inl ⟨i, z⟩)
        · exact .inr (.inr (.inl z))
  refine ⟨g1, ts, ho, fun a z => ?_, fun a z => ?_, hb, r.imp (fun a o h1 h2 => ⟨h1, fun z => h2 ((av a).mp z)⟩) fun _ z => z, hl, ?_⟩
  · rcases z with z | z
    · exact hm a z
    · obtain ⟨o, eo⟩ := ht.some z
      refine ⟨by rw [eo]; exact (nomatch ·), fun ws x => ?_⟩
      rcases ht.find z with ⟨ps, e1⟩ | e1
      · rw [e1] at x; cases x
      · rw [e1] at x; exact codeO_tup (Option.some.inj x)
  · rcases z with z | z
    · exact fun y => hmb a z ((eB a).mpr (.inl y))
    · exact nB a z
  · refine T.all_mono h (fun t w g' H' e v hb' rv => ?_) fun c xs w g' H' C d us e hb' h1 h2 h3 rv => ?_
    · obtain ⟨e2, b2, a2⟩ := back e hb'
      exact w _ H' e2 v b2 (rv.imp (fun a o h1 h2 => ⟨h1, fun z => h2 ((a2 a).mp z)⟩) fun _ z => z)
    · obtain ⟨e2, b2, a2⟩ := back e hb'
      exact w _ H' C d us e2 b2 h1 h2 h3 (rv.imp (fun a o h1 h2 => ⟨h1, fun z => h2 ((a2 a).mp z)⟩) fun _ z => z)
section
variable {P : Program} {w : World} {K : PySem.W.Frag} {mg : Str → Option Value} {base : Heap} {ct : CT} {β : BInv} {lv n : Nat} {x : Str} {ps : List Str} {fn : List AV → T AV} {TP : Addr} {q : Str}
theorem fnT {cx : CXT} {fa : Addr} {fd : FuncData} (F : FnOk P w K mg base cx lv fa fd ps (spM ⟨K, mg, ct⟩ β n fn)) : FnOk P w K mg base cx lv fa fd ps (spM ⟨K, mg, ct⟩ (BoxT β TP q) n fn) := F.imp fun vs H Q E h => spT h
theorem Df.tab (D : Df P w K mg base ct β lv x n ps fn) : Df P w K mg base ct (BoxT β TP q) lv x n ps fn := by
  obtain ⟨fa, fd, F, h1, h2, h3⟩ := D.ex
  exact ⟨⟨fa, fd, fnT F, h1, h2, h3⟩, D.len⟩
end
theorem boxT_start {β : BInv} {P : Addr} {q : Str} {H : Hp} (hb : β.I (fun _ => False) (fun _ => False) H) (h : H P = some (.tbl #[])) : (BoxT β P q).I (fun a => a = P) (fun _ => False) H :=
  ⟨fun _ => False, fun a => a = P, fun a => ⟨.inr, fun z => z.elim False.elim id⟩, fun _ _ z => z, hb, rfl, #[], h, trivial, fun pos cv z => by
    have z' : codeAmong pos [] = some cv := z
    simp [codeAmong] at z', fun a => .inl⟩
def spLawT (K : PySem.W.Frag) (P : Addr) : Sp := fun vs H Q _ => ∃ (a : Addr) (ns : List Int), vs = [.ref a] ∧ SqL K H a (ns.map V.int) ∧ ns.length ≤ 63 ∧ H P = some (.tbl #[]) ∧ ∀ H', Q (.bl true) H'
def gT (P : Addr) : G := ⟨fun _ => False, fun _ => none, fun a => a = P, fun _ => False, none⟩
end Dn
set_option Elab.async false
set_option linter.all false
set_option maxRecDepth 100000
set_option maxHeartbeats 0
namespace Dn
open PySem PySem.Spec PyProof.Rows L2
def LamO (q : Str) (params : Arguments) (body : Expr) (scope : Scope) (f c' : Addr) : HO := .ext fun h => ∃ pm ctv, h.get? f = some (PySem.W.kla_obj "<lambda>" q params body scope [] pm c' ctv)
inductive LamH (P : Addr) (q : Str) (H : Hp) (ps : Array Value) (c' : Addr) : Hp → Prop where
  | hit (pos : Pos) (e : codeAmong pos ps.toList = some (.ref c')) : LamH P q H ps c' H
  | new (l k : Value) (n : H c' = none) (am : ∀ (pos : Pos) (cv : Value), codeAmong pos (ps ++ #[l, k, .ref c']).toList = some cv → codeAmong pos ps.toList = some cv ∨ cv = .ref c') (tr : TriplesOk (ps ++ #[l, k, .ref c']).toList) : LamH P q H ps c' (upd (upd H P (.tbl (ps ++ #[l, k, .ref c']))) c' (LamX.CodeO c' q))
section
variable {X : Cx} {pins : List (Addr × Obj)} {σ : L2.St} {H : Hp} {s : Shared}
def BodyK (X : Cx) (N : List Str) (q : Str) (scope : Scope) (body : Expr) (dom : V → Int → Hp → Prop) : Prop :=
  ∀ (A : Around) (outer : List Env) (s : Shared) (H : Hp) (f c' : Addr), A.handled = none → ∃ tb : TE, PE (cxOf CX0 X.prog X.w X.K X.mg X.base N q scope f (.ref c') A outer s H E0) body tb ∧ ∀ (x : V) (z : Int) (Q : VK), dom x z H → Q (.int z) H → tb (L2.start N [x]) H Q
end
end Dn
set_option Elab.async false
set_option linter.all false
set_option maxRecDepth 100000
set_option maxHeartbeats 0
namespace Dn
open PySem PySem.Spec PyProof.Rows L2
def bestBy (ks : List Int) : Nat → Nat → Bool := fun i j => decide (ks.getD i 0 > ks.getD j 0)
def rMaxK (q : Str) (params : Arguments) (body : Expr) (scope : Scope) (dom : V → Int → Hp → Prop) : List V → List V → Hp → VK → Prop := fun vs zs H Q => ∃ (a f c' : Addr) (xs : List V) (ks : List Int), vs = [.ref a] ∧ zs = [.ref f] ∧ H a = some (.lst xs) ∧ ks.length = xs.length ∧ 0 < xs.length ∧
  H f = some (LamO q params body scope f c') ∧ H c' = some (LamX.CodeO c' q) ∧ (∀ (i : Nat) (x : V) (k : Int), xs[i]? = some x → ks[i]? = some k → dom x k H) ∧ ∀ x, xs[argBest (bestBy ks) (xs.length - 1)]? = some x → Q x H
section
variable {X : Cx} {pins : List (Addr × Obj)} {σ : L2.St} {H : Hp} {s : Shared}
end
end Dn
set_option Elab.async false
set_option linter.all false
set_option maxRecDepth 100000
set_option maxHeartbeats 0
namespace Dn
open PySem PySem.Spec PyProof.Rows L2
def bestA (key : AV → Option Int) : AV → Int → List AV → Option AV
  | b, _, [] => some b
  | b, kb, x :: xs => match key x with
    | some k => if k > kb then bestA key x k xs else bestA key b kb xs
    | none => none
def pMaxBy (key : AV → Option Int) (a : AV) : Option AV := match a with
  | .lst (x :: xs) => match key x with
    | some k => bestA key x k xs
    | none => none
  | _ => none
def tLam (P : Addr) (q : Str) (params : Arguments) (body : Expr) (scope : Scope) : TE := fun σ H Q => ∃ ps : Array Value, H P = some (.tbl ps) ∧ TriplesOk ps.toList ∧ (∀ (pos : Pos) (cv : Value), codeAmong pos ps.toList = some cv → ∃ d, cv = .ref d ∧ H d = some (LamX.CodeO d q)) ∧
  ∀ (f c' : Addr) (H1 : Hp), LamH P q H ps c' H1 → H1 f = none → H1 c' = some (LamX.CodeO c' q) → Q (.ref f) (upd H1 f (LamO q params body scope f c'))
section
variable {X : Cx} {ct : CT} {β : BInv} {Ex : XK} {P : Addr} {q : Str}
end
end Dn
set_option Elab.async false
set_option linter.all false
set_option maxRecDepth 100000
set_option maxHeartbeats 0
namespace Dn
open PySem PySem.Spec PyProof.Rows L2
def domR (x : V) (z : Int) (H : Hp) : Prop := ∃ (t : Addr) (i j : Int), x = .ref t ∧ H t = some (.tup [.int i, .int j]) ∧ z = j - (if 0 > i then 0 else i)
def kRest : AV → Option Int
  | .tup [.int a, .int b] => some (b - (if 0 > a then 0 else a))
  | _ => none
section
variable {P : Program} {w : World} {K : PySem.W.Frag} {mg : Str → Option Value} {base : Heap} {ct : CT} {β : BInv}
theorem fn_defT {x qual : Str} {st : Stmt} {f c : Addr} {fd : FuncData} {N ps : List Str} {k : Nat} {body : SSem} (F : Fun K x qual st f fd) (hcd : fd.code = .ref c) (S : FnScope N ps (defScope st)) (hl : ps.length ≤ N.length)
    (hb : ∀ (A : Around) (outer : List Env) (s : Shared) (H : Hp) (E : XK), Room k (A.deeper (envOfC qual (defScope st) s.heap.objs.size f (.ref c))) → JSs (cxOf (L2.CX P w) P w K mg base N qual (defScope st) f (.ref c) A outer s H E) ct β E (defBody st) body) :
    FnOk P w K mg base (L2.CX P w) (k + 1) f fd ps (spM ⟨K, mg, ct⟩ β ps.length (fnOf ps.length N.length body)) := by
  obtain ⟨oc, od, kV, doc, pm, an, cdv, ct', osl, rfl, lk, hco⟩ := F.ex
  have hcd : cdv = .ref c := hcd
  subst hcd
  refine fn_of lk hco S (fun vs H Q E h => ?_) fun A outer s H vs Q E hr h => ?_
  · obtain ⟨g, ts, _, _, _, _, r, e, _⟩ := h
    rw [r.length, e]
  · obtain ⟨g, ts, ho, hm, hmb, hbx, r, e, h⟩ := h
    refine ⟨_, hb A outer s H E hr, g, _, rel_start ho hm hmb hbx r e hl, ?_⟩
    have h' : okT ⟨K, mg, ct⟩ β E g H ((body (ts.map Slot.fro ++ List.replicate (N.length - ps.length) .un)).bind outV) fun g' H' t => ∀ v, β.I g'.B g'.D H' → RepG ⟨K, mg, ct⟩ g' H' t v → Q v H' := by
      unfold fnOf at h
      rw [if_pos e] at h
      exact h
    refine okT_mono (okT_bind h') fun g' H' o e q => ?_
    cases o with
    | nx ρ => exact fun σ R => okT_ret q .non R.box rep_non
    | rt t => exact okT_ret (c0 := ⟨K, mg, ct⟩) (β := β) (Ex := E) (Q := fun g' H' t => ∀ v, β.I g'.B g'.D H' → RepG ⟨K, mg, ct⟩ g' H' t v → Q v H') q
    | bk ρ => exact (show False from q).elim
    | ct ρ => exact (show False from q).elim
end
section
variable {P : Program} {w : World} {K : PySem.W.Frag} {mg mb : Str → Option Value} {cx : CXT} {lv : Nat} {fa a c TP : Addr} {fd : FuncData} {x : Str} {sp : Sp} {s1 : Shared} {us : List Value} {ns : List Int}
end
end Dn
set_option Elab.async false
set_option linter.all false
set_option maxRecDepth 100000
set_option maxHeartbeats 0
namespace Dn
open PySem PySem.Spec PyProof.Rows L2
def signsOf : AV → Option (List AV)
  | .str s => some (s.cps.toList.map fun c => .str ⟨#[c]⟩)
  | _ => none
def iSigns (f : Sem) : SemI := fun ρ => (f ρ).bind fun p => (lift (rs p.1 p.2)).bind fun a => (lift (signsOf a)).bind fun xs => .ret (xs, p.2)
def pIntS (a : AV) : Option AV := match a with
  | .str s => match PySem.intText? s with
    | some n => if s.length ≤ 640 then some (.int n) else none
    | none => none
  | _ => none
section
variable {X : Cx} {ct : CT} {β : BInv} {Ex : XK} {a tg : Expr} {f : Sem}
end
end Dn
set_option Elab.async false
set_option linter.all false
set_option maxRecDepth 100000
set_option maxHeartbeats 0
namespace Dn
open PySem PySem.Spec PyProof.Rows L2
def tChain3 (r r' r'' : R2) (ta tb tc td : TE) : TE := fun σ H Q => ta σ H fun x H1 => tb σ H1 fun y H2 => r x y H2 fun z H3 => ∃ k, z = .bl k ∧
  (if k = true then tc σ H3 fun y' H4 => r' y y' H4 fun z' H5 => ∃ k', z' = .bl k' ∧ (if k' = true then td σ H5 fun w' H6 => r'' y' w' H6 Q else Q (.bl false) H5) else Q (.bl false) H3)
section
variable {X : Cx} {a b c d : Expr} {ta tb tc td : TE} {pos : Pos}
end
def fChain3 (o o' o'' : AV → AV → Option AV) (f k l r : Sem) : Sem := fun ρ => (f ρ).bind fun p => (k p.2).bind fun q => (lift (rs p.1 q.2)).bind fun a => (lift (rs q.1 q.2)).bind fun b => (lift (o a b)).bind fun z => (lift (blOf z)).bind fun d =>
  if d then (l q.2).bind fun s => (lift (rs q.1 s.2)).bind fun b' => (lift (rs s.1 s.2)).bind fun c => (lift (o' b' c)).bind fun z2 => (lift (blOf z2)).bind fun d2 =>
    if d2 then (r s.2).bind fun t => (lift (rs s.1 t.2)).bind fun c' => (lift (rs t.1 t.2)).bind fun e => (lift (o'' c' e)).bind fun z => .ret (.val z, t.2) else .ret (.val (.bl false), s.2)
  else .ret (.val (.bl false), q.2)
section
variable {X : Cx} {ct : CT} {β : BInv} {Ex : XK} {a b c d : Expr} {f k l m : Sem} {pos : Pos}
end
end Dn
set_option Elab.async false
set_option linter.all false
set_option maxRecDepth 100000
namespace PySem
namespace TrS
open PySem PySem.Spec PyProof.Rows SrtO
section
variable {prog : Program} {w : World} {A : Around} {E : Value → Shared → Prop} {s : Shared}
end
end TrS
end PySem
namespace Dn
open PySem PySem.Spec PyProof.Rows L2
def rSortedQ (K : PySem.W.Frag) : List V → Hp → VK → Prop := fun vs H Q => ∃ (a : Addr) (xs : List V) (k : V → Int × Int), vs = [V.ref a] ∧ (SqL K H a xs ∨ SqT K H a xs) ∧ (∀ x ∈ xs, ∃ t, x = V.ref t ∧ H t = some (.tup [.int (k x).1, .int (k x).2])) ∧
  ∀ ys p, SrtO.Srtd (L2.ltP k) ys → SrtO.Stb (L2.ltP k) ys xs → H p = none → Q (.ref p) (upd H p (.lst ys))
def pSortQ (a : AV) : Option AV := (seqOf a).bind fun xs => (pairsInts xs).map fun ks => .lst ((isortP ks).map prV)
end Dn
set_option linter.all false
set_option maxRecDepth 100000
namespace Dn
open PySem PySem.Spec PyProof.Rows L2
section
variable {prog : Program} {w : World} {A : Around} {E : Value → Shared → Prop} {s : Shared}
end
def SetQ (P : Program) (w : World) (a : Addr) (ns : List Int) : HO := .ext fun h => h.SetOf (PySem.intKind P w) a (fun k => ns.any (· == k)) ns.length
def rSetI (X : Cx) : List V → Hp → VK → Prop := fun vs H Q => ∃ (l : Addr) (ns : List Int), vs = [V.ref l] ∧ SqL X.K H l (ns.map V.int) ∧ ns.Nodup ∧ ns.length ≤ 1000 ∧ ∀ p, H p = none → Q (.ref p) (upd H p (SetQ X.prog X.w p ns))
def rNeSet (X : Cx) : R2 := fun x y H Q => ∃ (a b : Addr) (ns ms : List Int), x = .ref a ∧ y = .ref b ∧ H a = some (SetQ X.prog X.w a ns) ∧ H b = some (SetQ X.prog X.w b ms) ∧ ns.Perm ms ∧ Q (.bl false) H
def setOf1 (a : AV) : Option (List Int) := (lstOf a).bind fun xs => (intsOf xs).bind fun ns => if ns.Nodup ∧ ns.length ≤ 1000 then some ns else none
def pNeS (ns : List Int) (b : AV) : Option AV := (setOf1 b).bind fun ms => if isort ns = isort ms then some (.bl false) else none
def fNeSet (f k : Sem) : Sem := fun ρ => (f ρ).bind fun p => (lift (rs p.1 p.2)).bind fun a => (lift (setOf1 a)).bind fun ns => (k p.2).bind fun q => (lift (rs q.1 q.2)).bind fun b => (lift (pNeS ns b)).bind fun z => .ret (.val z, q.2)
section
variable {X : Cx} {ct : CT} {β : BInv} {Ex : XK} {a b : Expr} {f k : Sem} {pos p1 p2 q1 q2 : Pos}
end
end Dn
set_option Elab.async false
set_option linter.all false
set_option maxRecDepth 100000
namespace PySem.SeqAt
open PySem PySem.Calls PyProof.Rows
section
variable {A : Around} {s : Shared}
end
end PySem.SeqAt
namespace PySem.W
open PySem PySem.Calls PyProof.Rows PySem.SeqAt
section
variable {prog : Program} {w : World} {A : Around} {E : Value → Shared → Prop} {s : Shared}
def TupsOk (ds : List PyData) : Prop := (∀ d, d ∈ ds → ∃ x r, d = .tuple (x :: r)) ∨ ∃ r, ds = .tuple [] :: r ∧ ∀ d, d ∈ r → ∃ t, d = .tuple t
end
end PySem.W
namespace Dn
open PySem PySem.Spec PyProof.Rows L2
def rSortedL (K : PySem.W.Frag) : List V → Hp → VK → Prop := fun vs H Q => ∃ (a : Addr) (xs : List V) (ds : List PyData), vs = [V.ref a] ∧ SqL K H a xs ∧ DpAll K H xs ds ∧ PySem.W.AllAlike ds ∧ PySem.W.TupsOk ds ∧ (ds.Pairwise fun a b => PySem.W.dataLt b a = false) ∧ (∀ d, d ∈ ds → d.depth ≤ 12) ∧ ∀ p, H p = none → Q (.ref p) (upd H p (.lst xs))
def isTup1 : PyData → Bool
  | .tuple (_ :: _) => true
  | _ => false
def isTup0 : PyData → Bool
  | .tuple _ => true
  | _ => false
def tupsB : List PyData → Bool
  | .tuple [] :: r => r.all isTup0
  | ds => ds.all isTup1
def ordB : List PyData → Bool
  | [] => true
  | d :: r => (r.all fun e => !PySem.W.dataLt e d) && ordB r
def likeB (ds : List PyData) : Bool := ds.all fun d => ds.all fun e => PySem.W.alike d e
def pSortL (a : AV) : Option AV := match a with
  | .lst xs => if (xs.all (dat DEP) && likeB (xs.map (toD DEP))) && (tupsB (xs.map (toD DEP)) && ordB (xs.map (toD DEP))) then some (.lst xs) else none
  | _ => none
end Dn
set_option Elab.async false
set_option linter.all false
set_option maxRecDepth 100000
namespace Dn
open PySem PySem.Spec PyProof.Rows L2
def rLtD (K : PySem.W.Frag) : R2 := fun x y H Q => ∃ da db, Dp K H x da ∧ Dp K H y db ∧ PySem.W.alike da db = true ∧ da ≠ .none ∧ da.depth ≤ 12 ∧ Q (.bl (PySem.W.dataLt da db)) H
def pLtD (a b : AV) : Option AV := if dat DEP a && dat DEP b && PySem.W.alike (toD DEP a) (toD DEP b) && !nonD (toD DEP a) then some (.bl (PySem.W.dataLt (toD DEP a) (toD DEP b))) else none
section
variable {X : Cx} {ct : CT} {β : BInv} {Ex : XK} {a : Expr} {f : Sem} {p p2 q pos : Pos}
def pLenSetU (a : AV) : Option AV := match a with
  | .tup xs => (tupsInts xs).bind fun ks => if ks.Nodup ∧ ks.length < 64 then some (.int (ks.length : Nat)) else none
  | _ => none
def tLenSetU (K : PySem.W.Frag) (ta : TE) : TE := fun σ H Q => ta σ H fun x H1 => ∃ (l : Addr) (ks : List (Addr × List Int)), x = .ref l ∧ SqT K H1 l (ks.map fun p => V.ref p.1) ∧ (∀ p ∈ ks, SqT K H1 p.1 (p.2.map V.int)) ∧ ks.length < 64 ∧ (ks.map (·.2)).Nodup ∧ Q (.int (ks.length : Nat)) H1
end
end Dn
set_option Elab.async false
set_option linter.all false
set_option maxRecDepth 100000
namespace Dn
open PySem PySem.Spec PyProof.Rows L2
def prm {α : Type} (d : α) (ix : List Nat) (l : List α) : List α := ix.map fun i => l.getD i d
section
variable {X : Cx} {CX : CXT} {k : Nat} {f : Addr} {fd : FuncData} {ps ks : List Str} {sp : Sp} {E : XK} {x : Str} {p pos : Pos} {kws : List Keyword} {tk : TA} {g : List Value → List Value → List Value} {gV : List V → List V → List V}
def tCallN0 (m : Nat) (sp : Sp) (gV : List V → List V → List V) (E : XK) (tk : TA) : TE := fun σ H Q => tk σ H fun zs H2 => zs.length = m ∧ sp (gV [] zs) H2 Q E
end
def JK (X : Cx) (ct : CT) (β : BInv) (Ex : XK) (kws : List Keyword) (f : SemL) : Prop := PK X kws (rdL (gc X ct) β Ex f)
section
variable {X : Cx} {ct : CT} {β : BInv} {Ex : XK} {a : Expr} {f : Sem} {m : SemL} {kws : List Keyword} {nm : Option Str} {kpos p pos : Pos} {x : Str} {lv n : Nat} {ps : List Str} {fn : List AV → T AV}
theorem PK.imp {t t' : TA} (h : PK X kws t) (i : ∀ σ H Q, t' σ H Q → t σ H Q) : PK X kws t' := ⟨fun pos pins s σ H Q I q => h.run pos pins s σ H Q I (i σ H Q q)⟩
def fnP (fn : List AV → T AV) (ix : List Nat) (m : Nat) : List AV → T AV := fun ts => if ts.length = m then fn (prm .non ix ts) else .bad
structure DfK (P : Program) (w : World) (K : PySem.W.Frag) (mg : Str → Option Value) (base : Heap) (ct : CT) (β : BInv) (lv : Nat) (x : Str) (n : Nat) (ps ks : List Str) (ix : List Nat) (fn : List AV → T AV) : Prop where
  ex : ∃ fa fd, FnOk P w K mg base (L2.CX P w) lv fa fd ps (spM ⟨K, mg, ct⟩ β n fn) ∧ mg x = some (.ref fa) ∧ PySem.W.keepIn K (.ref fa) = true ∧ KBn K fd ps 0 ks (fun _ ws => prm .none ix ws) (fun _ zs => prm .non ix zs)
  len : ∀ ts : List AV, T.all (fun _ => True) (fun _ _ => True) (fn ts) → ts.length = n
end
end Dn
set_option Elab.async false
set_option linter.all false
set_option maxRecDepth 100000
namespace L2
open PySem PySem.Spec PyProof.Rows
def tStepL (K : PySem.W.Frag) (te tk : TE) : TE := fun σ H Q => te σ H fun x H1 => tPart tk σ H1 fun o H2 => ∃ a xs zs i, x = .ref a ∧ o = some i ∧ SqL K H2 a xs ∧ (i = 1 ∧ zs = xs ∨ i = -1 ∧ zs = xs.reverse) ∧ ∀ p, H2 p = none → Q (.ref p) (upd H2 p (.lst zs))
section
variable {X : Cx}
end
end L2
namespace Dn
open PySem PySem.Spec PyProof.Rows L2
def fStepL (f k : Sem) : Sem := fun ρ => (f ρ).bind fun p => (frz p).bind fun p1 => (k p1.2).bind fun q => (lift (rs q.1 q.2)).bind fun b => (lift (lstOf p1.1)).bind fun xs => match b with
  | .int i => if i = 1 then .ret (.val (.lst xs), q.2) else if i = -1 then .ret (.val (.lst xs.reverse), q.2) else .bad
  | _ => .bad
end Dn
set_option Elab.async false
set_option linter.all false
set_option maxRecDepth 100000
set_option maxHeartbeats 2000000
namespace Dn
open PySem PySem.Spec PyProof.Rows L2
abbrev TSE := Addr → Value → Option Addr → TS
def endI (i : Nat) (D : Ends) : Ends := { nx := fun m G => D.nx (m.set i none) G, rt := D.rt, bk := fun m G => D.bk (m.set i none) G, ct := fun m G => D.ct (m.set i none) G }
def wAsL (K : PySem.W.Frag) (i : Nat) (Wo : WX) (D : Ends) : List (Value × TSE) → WX
  | [] => Wo
  | p :: r => fun q d m G => ∃ b, PySem.W.exmOne K q p.1 = some b ∧ (b = true → ∀ a, G a = none → p.2 a q d (endI i D) (m.set i (some (.ref a))) G) ∧ (b = false → wAsL K i Wo D r q d m G)
inductive AsOk (X : Cx) (n : Str) : List ExceptHandler → List (Value × TSE) → Prop
  | nil : AsOk X n [] []
  | cons {x : Str} {C : Value} {ts : TSE} {b0 : Stmt} {su : List Stmt} {p1 p2 : Pos} {hs : List ExceptHandler} {l : List (Value × TSE)} : Names X x C → (∀ (a : Addr) (ox : Obj) (q : Value) (d : Option Addr) (pn : List (Addr × Obj)), Zc q d ox → (∃ us, ox.data = .fields us) → PSs (X.suite a ((a, ox) :: pn)) (b0 :: su) (ts a q d)) → AsOk X n hs l → AsOk X n (.ExceptHandler (some (.Name x p1)) (some n) (b0 :: su) p2 :: hs) ((C, ts) :: l)
end Dn
set_option Elab.async false
set_option linter.all false
set_option maxRecDepth 100000
set_option maxHeartbeats 2000000
namespace Dn
open PySem PySem.Spec PyProof.Rows L2
def kIs : Option Int → Value → Bool
  | some i, v => Value.isInt i v
  | none, .none => true
  | none, _ => false
theorem kIs_shape {k : Option Int} {v : Value} (h : kIs k v = true) : (∃ i t, k = some i ∧ v = .int i t) ∨ (k = none ∧ v = .none) := by
  cases k with
  | some i => obtain ⟨t, rfl⟩ := Value.isInt_shape h; exact .inl ⟨i, t, rfl, rfl⟩
  | none => cases v <;> first | exact .inr ⟨rfl, rfl⟩ | cases h
def kHash : Option Int → Int
  | some i => hashInt i
  | none => 0xFCA86420
section
variable {prog : Program} {w : World} {A : Around} {E : Value → Shared → Prop} {s : Shared}
theorem pyHash_none {Q : Int → Shared → Prop} (h : Q 0xFCA86420 { s with toks := s.toks + 1 }) : wpAny (model prog w) A (pyHash .none) Q E s := by
  have ty : s.TypeIs .none "NoneType" := rfl
  unfold pyHash pyHashByItsType
  refine wpAny_bind ?_
  rw [cRoomFor, if_neg (by decide)]
  refine wpAny_pure ?_
  refine wpAny_bind (wpAny_specialOf ty PySem.F.slot_NoneType_hash.lookup ?_)
  show wpAny _ _ (if (some (Value.builtin "NoneType.__hash__") == some Value.none) = true then _ else _) Q E s
  rw [if_neg (by decide)]
  refine wpAny_bind (wpAny_specialOf ty PySem.F.slot_NoneType_hash.lookup ?_)
  show wpAny _ _ (callSpecialIfBoundUnlessNone? .none "__hash__" _ >>= _) Q E s
  refine wpAny_bind (wpAny_callSpecialIfBoundUnlessNone?_slot ty PySem.F.slot_NoneType_hash (wpAny_call_entry PySem.F.slot_NoneType_hash ty PySem.F.entry_NoneType_hash (show wpAny _ _ (do ret (← mkInt 0xFCA86420)) _ _ s from wpAny_ret_mkInt ?_) (PySem.F.args_NoneType_hash_1 _)))
  show wpAny _ _ (if (decide (-(2 : Int) ^ 63 ≤ 0xFCA86420) && decide ((0xFCA86420 : Int) < 2 ^ 63)) = true then _ else _) Q E _
  rw [if_pos (by decide)]
  exact wpAny_pure h
theorem eqBool_none {Q : Bool → Shared → Prop} (h : Q true s) : wpAny (model prog w) A (eqBool .none .none) Q E s := by
  unfold eqBool
  refine wpAny_holding ?_
  rw [if_pos (by decide)]
  exact wpAny_bind (wpAny_rule (wpAny_pure h))
end
def nonKind (prog : Program) (w : World) : PySem.KeyKind prog w (Option Int) where
  is := kIs
  hash := kHash
  inj := fun v a b ha hb => by
    rcases kIs_shape ha with ⟨i, t, rfl, rfl⟩ | ⟨rfl, rfl⟩
    · rcases kIs_shape hb with ⟨j, u, rfl, e⟩ | ⟨rfl, e⟩
      · injection e with e1 _; rw [e1]
      · exact nomatch e
    · rcases kIs_shape hb with ⟨j, u, rfl, e⟩ | ⟨rfl, e⟩
      · exact nomatch e
      · rfl
  byValue := fun k v h => by rcases kIs_shape h with ⟨i, t, rfl, rfl⟩ | ⟨rfl, rfl⟩ <;> rfl
  pyHash := fun hv h => by
    rcases kIs_shape hv with ⟨i, t, rfl, rfl⟩ | ⟨rfl, rfl⟩
    · exact wpAny_pyHash_int h
    · exact pyHash_none h
  eqBool := fun {A E s a b u v Q} hu hv h => by
    rcases kIs_shape hu with ⟨i, t, rfl, rfl⟩ | ⟨rfl, rfl⟩
    · rcases kIs_shape hv with ⟨j, y, rfl, rfl⟩ | ⟨rfl, rfl⟩
      · refine wpAny_eqBool_int ?_
        have e : decide (some i = some j) = (i == j) := by
          by_cases z : i = j
          · subst z; simp
          · simp [z]
        rwa [e] at h
      · exact SeqAt.EqAt.int_none i t _ _ _ _ (by simpa using h)
    · rcases kIs_shape hv with ⟨j, y, rfl, rfl⟩ | ⟨rfl, rfl⟩
      · exact SeqAt.EqAt.none_int j y _ _ _ _ (by simpa using h)
      · exact eqBool_none (by simpa using h)
  «strs» := fun k x t v h => by rcases kIs_shape h with ⟨i, u, rfl, e⟩ | ⟨rfl, e⟩ <;> exact nomatch e
abbrev Tb := List (Option Int × Str)
def lkTb (tb : Tb) (k : Option Int) : Option Str := (tb.find? fun p => decide (p.1 = k)).map (·.2)
def kN : Option Int → V
  | some i => .int i
  | none => .non
def TabAt (P : Program) (w : World) (tb : Tb) (a : Addr) (h : Heap) : Prop := ∃ f, h.MapOf (nonKind P w) a f ∧ ∀ k x, lkTb tb k = some x → ∃ t, f k = some (.str x t)
def TbO (P : Program) (w : World) (tb : Tb) (a : Addr) : HO := .ext fun h => TabAt P w tb a h
def EmO (P : Program) (w : World) (a : Addr) : HO := .ext fun h => h.DictOf (nonKind P w) a []
def tDispN (P : Program) (w : World) (tb : Tb) : TE := fun σ H Q => ∀ p, H p = none → Q (.ref p) (upd H p (TbO P w tb p))
def tLk (P : Program) (w : World) (tb : Tb) (ty : TE) : TE := fun σ H Q => ∀ p, H p = none → ty σ (upd H p (TbO P w tb p)) fun y H2 => H2 p = some (TbO P w tb p) ∧ ∃ k x, y = kN k ∧ lkTb tb k = some x ∧ Q (.str x) H2
def pLk (tb : Tb) : AV → Option AV
  | .int i => (lkTb tb (some i)).map AV.str
  | .non => (lkTb tb none).map AV.str
  | _ => none
abbrev TbT := List (Str × Str)
def lkT (tb : TbT) (k : Str) : Option Str := (tb.find? fun p => decide (p.1 = k)).map (·.2)
def pLkT (tb : TbT) : AV → Option AV
  | .str k => (lkT tb k).map AV.str
  | _ => none
def tbK (tb : TbT) : List (Key × V) := tb.map fun p => (Sum.inr p.1, V.str p.2)
end Dn
set_option Elab.async false
set_option linter.all false
set_option maxRecDepth 100000
set_option maxHeartbeats 2000000
namespace Dn
open PySem PySem.Spec PyProof.Rows L2
def pIsi1O (cs : List Nat) (u : String) (a : AV) : Option AV := match a with
  | .ins c _ => if c ∈ cs then some (.bl false) else none
  | t => pIsi u t
def NoK (X : Cx) (ct : CT) (u : String) (cs : List Nat) : Prop := ∀ c ∈ cs, ∃ C, C8.InsC X.K C ∧ X.mg (ct c).1 = some (.ref C) ∧ PySem.W.subIn X.K (.ref C) (.type u) = some false
section
variable {X : Cx} {ct : CT} {β : BInv} {Ex : XK} {a : Expr} {f : Sem} {pos p p2 : Pos} {u : String}
end
noncomputable def sTryL2 (m : Env' → T Env') (s1 : Nat → Bool) (h1 : Nat → List AV → SSem) (s2 : Nat → Bool) (h2 : Nat → List AV → SSem) : SSem := fun ρ => tryT (m ρ) (fun ρ' => .ret (.nx ρ')) fun c xs => if s1 c then h1 c xs ρ else if s2 c then h2 c xs ρ else .exc c xs
def HtsOk (X : Cx) (ct : CT) (β : BInv) (Ex : XK) (i : Nat) (sub : Nat → Bool) (hnd : Nat → List AV → SSem) (ts : Addr → Value → Option Addr → TS) : Prop := ∀ (k : Nat) (xs : List AV) (g : G) (H : Hp) (C : Addr) (d : Option Addr) (us : List V) (ρ : Env') (σ : L2.St) (a : Addr) (D : Ends), sub k = true → Rel (gc X ct) β g ρ σ H → X.mg (ct k).1 = some (.ref C) → DOk H d (ct k).2 us → us.length = (ct k).2.length → RepsG (gc X ct) g H xs us → okT (gc X ct) β Ex g H (hnd k xs ρ) (endOk (gc X ct) β D) → H a = none →
      ts a (.ref C) d { nx := fun σ' H' => D.nx (σ'.set i none) H', rt := D.rt, bk := fun σ' H' => D.bk (σ'.set i none) H', ct := fun σ' H' => D.ct (σ'.set i none) H' } (σ.set i (some (.ref a))) H
section
variable {X : Cx} {ct : CT} {β : BInv} {Ex : XK} {p1 p2 q1 q2 posT : Pos} {a0 b0 : Stmt} {as bs body : List Stmt}
end
end Dn
set_option Elab.async false
set_option linter.all false
set_option maxRecDepth 100000
set_option maxHeartbeats 0
namespace Dn
open PySem PySem.Spec PyProof.Rows L2
def inR (val : Nat → Int) (i : Nat) (x : Int) : Bool := (List.range i).any fun j => val j == x
section
variable {P : Program} {w : World} {A : Around} {E : Value → Shared → Prop} {s : Shared}
def MadeI (w : World) (s : Shared) (ns : List Int) (r : Value) (s2 : Shared) : Prop :=
  r = .none ∧ ∃ h' tk m, s2 = { s with heap := h', toks := tk } ∧ SetR w h' s.heap.objs.size (inR (fun i => ns.getD i 0) ns.length) m ∧ m ≤ ns.length ∧ ∀ b o, s.heap.get? b = some o → h'.get? b = some o
end
end Dn
set_option Elab.async false
set_option linter.all false
set_option maxRecDepth 100000
set_option maxHeartbeats 2000000
namespace Dn
open PySem PySem.Spec PyProof.Rows L2
def insU (x : Int) : List Int → List Int
  | [] => [x]
  | y :: r => if x = y then y :: r else if x < y then x :: y :: r else y :: insU x r
def srtU : List Int → List Int
  | [] => []
  | x :: r => insU x (srtU r)
def rSetOfI (K : PySem.W.Frag) (w : World) : List V → Hp → VK → Prop := fun xs H Q => ∃ (l : Addr) (ns : List Int), xs = [V.ref l] ∧ SqT K H l (ns.map V.int) ∧ ns.length < 64 ∧ ∀ a m, H a = none → m ≤ ns.length → Q (.ref a) (upd H a (SetO w a (inR (fun i => ns.getD i 0) ns.length) m))
def pSortSetI (a : AV) : Option AV := match a with
  | .tup xs => (intsOf xs).bind fun ns => if ns.length < 64 then some (.lst ((srtU ns).map AV.int)) else none
  | _ => none
section
variable {X : Cx} {ct : CT} {β : BInv} {Ex : XK} {a : Expr} {f : Sem} {pos p pos2 p2 : Pos}
end
end Dn
set_option Elab.async false
set_option linter.all false
set_option maxRecDepth 100000
set_option maxHeartbeats 2000000
namespace Dn
open PySem PySem.Spec PyProof.Rows L2
section
variable {prog : Program} {w : World} {A : Around} {E : Value → Shared → Prop} {s : Shared}
end
def tStepT (K : PySem.W.Frag) (te tk : TE) : TE := fun σ H Q => te σ H fun x H1 => tPart tk σ H1 fun o H2 => ∃ a xs, x = .ref a ∧ o = some (-1) ∧ SqT K H2 a xs ∧ ∀ p, H2 p = none → Q (.ref p) (upd H2 p (.tup xs.reverse))
def tupOf : AV → Option (List AV)
  | .tup xs => some xs
  | _ => none
def fStepT (f k : Sem) : Sem := fun ρ => (f ρ).bind fun p => (frz p).bind fun p1 => (k p1.2).bind fun q => (lift (rs q.1 q.2)).bind fun b => (lift (tupOf p1.1)).bind fun xs => match b with
  | .int i => if i = -1 then .ret (.val (.tup xs.reverse), q.2) else .bad
  | _ => .bad
end Dn
set_option Elab.async false
set_option linter.all false
set_option maxRecDepth 100000
set_option maxHeartbeats 2000000
namespace Dn
open PySem PySem.Spec PyProof.Rows L2
section
variable {X : Cx} {C : Addr} {bmB : List Value} {B newId initId : String}
end
def sRaise0 (c : Nat) : SSem := fun ρ => .exc c []
structure Er0 (K : PySem.W.Frag) (mg : Str → Option Value) (nm : Str) (C : Addr) : Prop where
  mgC : mg nm = some (.ref C)
  ex : PySem.W.excIn K C [.type "ValueError", .type "Exception", .type "BaseException", .type "object"] "ValueError.__new__" = true
  kp : PySem.W.keepIn K (.ref C) = true
  exB : PySem.W.subIn K (.ref C) (.type "BaseException") = some true
  ty : PySem.W.typeIn K (.ref C) = some (.type "type")
section
variable {X : Cx} {ct : CT} {β : BInv} {Ex : XK} {pos p pos' : Pos}
end
def rIsX0 (K : PySem.W.Frag) (cls : Value) (d : Option Addr) (a : Addr) : List V → Hp → VK → Prop := fun xs H Q => ∃ (D : Addr) (c : V) (cv : Value) (b : Bool), cls = .ref D ∧ d = none ∧ ExcC K D ∧ (PySem.W.clsIn K D).isSome = true ∧ xs = [.ref a, c] ∧ (∀ u, RelV c u → u = cv) ∧ PySem.W.kitOne K (.ref D) cv = some b ∧ Q (.bl b) H
def tsC (K : PySem.W.Frag) (i j : Nat) (CA : Addr) (o1 o2 : Str) (a : Addr) (cls : Value) (d : Option Addr) : TS := tSeq (tAsg (tIf (tB (tCB (rIsX0 K cls d a) (tCons (tVar i) (tCons (tC (.ref CA)) tNil)))) (tC (.str o1)) (tC (.str o2))) (gName j)) tNext
def hndC (i j : Nat) (bA : Nat → Bool) (o1 o2 : Str) (k : Nat) (xs : List AV) : SSem := fun ρ => if i < ρ.length ∧ j < ρ.length ∧ i ≠ j then .ret (.nx ((ρ.set j (.fro (.str (if bA k = true then o1 else o2)))).set i .un)) else .bad
end Dn
set_option Elab.async false
set_option linter.all false
set_option maxRecDepth 100000
set_option maxHeartbeats 2000000
namespace Dn
open PySem PySem.Spec PyProof.Rows L2
def tsF (K : PySem.W.Frag) (i j : Nat) (f : Str) (a : Addr) (cls : Value) (d : Option Addr) : TS := tSeq (tAsg (tXfX K a cls d f (tVar i)) (gName j)) tNext
def hndF (i j : Nat) (k : Nat) (xs : List AV) : SSem := fun ρ => if i < ρ.length ∧ j < ρ.length ∧ i ≠ j then (match xs with
  | [t] => .ret (.nx ((ρ.set j (.fro t)).set i .un))
  | _ => .bad) else .bad
def tsC2 (K : PySem.W.Frag) (i j : Nat) (CA CB : Addr) (o1 o2 : Str) (a : Addr) (cls : Value) (d : Option Addr) : TS := tSeq (tAsg (tIf (tAnd (tB (tCB (rIsX0 K cls d a) (tCons (tVar i) (tCons (tC (.ref CA)) tNil)))) (tNot (tB (tCB (rIsX0 K cls d a) (tCons (tVar i) (tCons (tC (.ref CB)) tNil)))))) (tC (.str o1)) (tC (.str o2))) (gName j)) tNext
def hndC2 (i j : Nat) (bA bB : Nat → Bool) (o1 o2 : Str) (k : Nat) (xs : List AV) : SSem := fun ρ => if i < ρ.length ∧ j < ρ.length ∧ i ≠ j then .ret (.nx ((ρ.set j (.fro (.str (if (bA k && !bB k) = true then o1 else o2)))).set i .un)) else .bad
end Dn
set_option Elab.async false
set_option linter.all false
set_option maxRecDepth 100000
set_option maxHeartbeats 2000000
namespace Dn
open PySem PySem.Spec PyProof.Rows L2
section
variable {X : Cx} {CX : CXT} {a b e : Expr} {es : List Expr} {te : TE} {t : TA} {E : L2.St → XK} {q pos : Pos}
def tCallX (X : Cx) (CX : CXT) (E : L2.St → XK) (te : TE) (t : TA) : TE := fun σ H Q => te σ H fun v H1 => ∃ f k fd ps sp, v = .ref f ∧ FnOk X.prog X.w X.K X.mg X.base CX k f fd ps sp ∧ Room k X.A ∧ PySem.W.keepIn X.K (.ref f) = true ∧ Binds X.K fd ps [] ∧ t σ H1 fun vs H2 => sp vs H2 Q (E σ)
end
def fPick (i : Nat) (f0 f1 : List AV → T AV) (k : SemL) : Sem := fun ρ => match ρ[i]? with
  | some (.fro (.int z)) => if z = 0 then fCall f0 [] k ρ else if z = 1 then fCall f1 [] k ρ else .bad
  | _ => .bad
section
variable {X : Cx} {ct : CT} {β : BInv} {Ex : XK} {e : Expr} {es : List Expr} {m : SemL} {q p1 p2 p3 p4 pos : Pos} {x0 x1 y : Str} {lv0 lv1 i n0 n1 : Nat} {ps0 ps1 : List Str} {f0 f1 : List AV → T AV}
end
end Dn
set_option Elab.async false
set_option linter.all false
set_option maxRecDepth 100000
set_option maxHeartbeats 2000000
namespace HN
open PySem PySem.Spec PyProof.Rows PySem.SeqAt
open AutoSeq1 (wpAny_loadPart')
open MeetsSeq MeetsSeq2 MeetsSeq3 SeqRoads2
section
variable {prog : Program} {w : World} {A : Around} {R : Result → Shared → Prop}
def NoI (prog : Program) (w : World) (A : Around) (E : Value → Shared → Prop) (l : Addr) (x : Value) (N : Nat) (I : Nat → Shared → Prop) : Prop :=
  ∀ i s, I i s → ∃ (its : Array Value) (n : Nat) (dd : Option Addr) (sl : Array (Option Value)), s.heap.get? l = some { cls := .type "list", dict := dd, data := .seq its n, slots := sl } ∧ its.size = N ∧
    ∀ h1 : i < its.size, wpAny (model prog w) A.in1 (eqBool its[i] x) (fun r s' => r = false ∧ I (i + 1) s') E s
theorem eqBool_none {a : Addr} {Q : Bool → Shared → Prop} {E : Value → Shared → Prop} {s : Shared} (h : wpAny (model prog w) A (richCompare .Eq (.ref a) .none) (fun v s' => ∃ r, v = .bool r ∧ Q r s') E s) : wpAny (model prog w) A (eqBool (.ref a) .none) Q E s := by
  unfold eqBool
  refine wpAny_holding (wpAny_ite_split (fun z => absurd z (by simp)) fun _ => ?_)
  refine wpAny_bind (wpAny_mono h (fun v s' hv => ?_) fun _ _ z => z)
  obtain ⟨r, rfl, q⟩ := hv
  exact wpAny_truthy_bool q
end
end HN
namespace Dn
open PySem PySem.Spec PyProof.Rows L2
def loopNo (K : PySem.W.Frag) (C : Addr) (sp : Sp) (E : XK) (p : Addr) (all : List V) (Q : VK) : List V → Hp → Prop
  | [], H => Q (.bl false) H
  | v :: r, H => ∃ a dx fs, v = V.ref a ∧ H a = some (.ins C dx fs) ∧ sp [.ref a, .non] H (fun z H' => z = .bl false ∧ SqL K H' p all ∧ loopNo K C sp E p all Q r H') E
def rNoIn (K : PySem.W.Frag) (C : Addr) (sp : Sp) (E : XK) : R2 := fun x y H Q => ∃ p all, x = V.non ∧ y = V.ref p ∧ SqL K H p all ∧ loopNo K C sp E p all Q all H
def noInL (c : Nat) (fn : List AV → T AV) : List AV → T AV
  | [] => .ret (.bl false)
  | .ins c1 xs :: r => if c1 = c then (fn [.ins c1 xs, .non]).bind fun t => match t with
    | .bl false => noInL c fn r
    | _ => .bad else .bad
  | _ :: _ => .bad
def noInK (c : Nat) (fn : List AV → T AV) (a b : AV) (ρ : Env') : T (Hd × Env') := match a with
  | .non => match b with
    | .lst xs => (noInL c fn xs).bind fun t => .ret (.val t, ρ)
    | _ => .bad
  | _ => .bad
def fNoIn (c : Nat) (fn : List AV → T AV) (fa fb : Sem) : Sem := fun ρ => (fa ρ).bind fun p => (frz p).bind fun p1 => (fb p1.2).bind fun q => (frz q).bind fun s => noInK c fn p1.1 s.1 s.2
section
variable {X : Cx} {ct : CT} {β : BInv} {Ex : XK} {a b : Expr} {fa fb : Sem} {pos p p2 : Pos} {lv n c : Nat} {ps : List Str} {fn : List AV → T AV}
end
def pIsCN (c : Nat) (a : AV) : Option AV := match a with
  | .ins c1 _ => if c1 = c then some (.bl true) else none
  | .non => some (.bl false)
  | _ => none
section
variable {X : Cx} {ct : CT} {β : BInv} {Ex : XK} {a : Expr} {fa : Sem} {pos p p2 : Pos} {c : Nat}
end
end Dn
set_option Elab.async false
set_option linter.all false
set_option maxRecDepth 100000
set_option maxHeartbeats 2000000
namespace Dn
open PySem PySem.Spec PyProof.Rows L2
def spMN (c0 : Gc) (β : BInv) (n : Nat) (fn : List AV → T (List AV)) : Sp := fun vs H Q E => ∃ (g : G) (ts : List AV), (∀ i, g.own i = none) ∧ (∀ a, g.M a → H a ≠ none ∧ ∀ ws, H a ≠ some (.tup ws)) ∧ (∀ a, g.M a → ¬ g.B a) ∧ β.I g.B g.D H ∧ RepsG c0 g H ts vs ∧ ts.length = n ∧
  okT c0 β E g H (fn ts) fun g' H' xs => ∀ a ws, H a = none → ¬ g'.B a → H' a = some (.lst ws) → β.I g'.B g'.D H' → RepL c0 (fun b => g'.M b ∨ g'.B b ∨ b = a) g'.D H' xs ws → Q (.ref a) H'
def JSN (X : Cx) (ct : CT) (β : BInv) (Ex : XK) (st : List Stmt) (f : Env' → T (List AV × Env')) : Prop := PSs X st fun D σ H => ∃ g ρ, Rel (gc X ct) β g ρ σ H ∧ okT (gc X ct) β Ex g H (f ρ) fun g' H' p => ∀ i a ws σ', Rel (gc X ct) β g' p.2 σ' H' → g'.own i = some a → H' a = some (.lst ws) → RepsG (gc X ct) g' H' p.1 ws → D.rt (.ref a) H'
def nRetV (i : Nat) : Env' → T (List AV × Env') := fun ρ => match ρ[i]? with
  | some (.ml xs) => .ret (xs, ρ)
  | _ => .bad
def nSeq (f : SSem) (k : Env' → T (List AV × Env')) : Env' → T (List AV × Env') := fun ρ => (f ρ).bind fun
  | .nx ρ' => k ρ'
  | _ => .bad
section
variable {X : Cx} {ct : CT} {β : BInv} {Ex : XK} {st : Stmt} {sts : List Stmt} {s : SSem} {k : Env' → T (List AV × Env')} {pos p : Pos} {x : Str} {i : Nat}
end
def fnOfN (np n : Nat) (body : Env' → T (List AV × Env')) : List AV → T (List AV) := fun ts => if ts.length = np then (body (ts.map Slot.fro ++ List.replicate (n - np) .un)).bind fun p => .ret p.1 else .bad
section
variable {P : Program} {w : World} {K : PySem.W.Frag} {mg : Str → Option Value} {base : Heap} {ct : CT} {β : BInv}
end
structure DfN (P : Program) (w : World) (K : PySem.W.Frag) (mg : Str → Option Value) (base : Heap) (ct : CT) (β : BInv) (lv : Nat) (x : Str) (n : Nat) (ps : List Str) (fn : List AV → T (List AV)) : Prop where
  ex : ∃ fa fd, FnOk P w K mg base (L2.CX P w) lv fa fd ps (spMN ⟨K, mg, ct⟩ β n fn) ∧ mg x = some (.ref fa) ∧ PySem.W.keepIn K (.ref fa) = true ∧ Binds K fd ps []
  len : ∀ ts : List AV, T.all (fun _ => True) (fun _ _ => True) (fn ts) → ts.length = n
section
variable {c0 : Gc} {β : BInv} {Ex : XK} {g g1 g' : G} {H H1 : Hp} {ρ : Env'} {σ : L2.St} {a : Addr} {ws : List V}
end
def nCall (fn : List AV → T (List AV)) (k : SemL) : SemN := fun ρ => (k ρ).bind fun p => (fn p.1).bind fun xs => .ret (xs, p.2)
section
variable {X : Cx} {ct : CT} {β : BInv} {Ex : XK} {e : Expr} {es : List Expr} {m : SemL} {pos p : Pos} {x : Str} {lv n : Nat} {ps : List Str} {fn : List AV → T (List AV)}
end
end Dn
set_option Elab.async false
set_option linter.all false
set_option maxRecDepth 100000
set_option maxHeartbeats 2000000
namespace Dn
open PySem PySem.Spec PyProof.Rows L2
section
variable {P : Program} {w : World} {A : Around} {E : Value → Shared → Prop} {s : Shared}
end
def rSetOfIL (K : PySem.W.Frag) (w : World) : List V → Hp → VK → Prop := fun xs H Q => ∃ (l : Addr) (ns : List Int), xs = [V.ref l] ∧ SqL K H l (ns.map V.int) ∧ ns.length < 64 ∧ ∀ a m, H a = none → m ≤ ns.length → Q (.ref a) (upd H a (SetO w a (inR (fun i => ns.getD i 0) ns.length) m))
def pSortSetIL (a : AV) : Option AV := match a with
  | .lst xs => (intsOf xs).bind fun ns => if ns.length < 64 then some (.lst ((srtU ns).map AV.int)) else none
  | _ => none
section
variable {X : Cx} {ct : CT} {β : BInv} {Ex : XK} {a : Expr} {f : Sem} {pos p pos2 p2 : Pos}
end
end Dn
set_option Elab.async false
set_option linter.all false
set_option maxRecDepth 100000
namespace Dn
open PySem PySem.Spec PyProof.Rows L2
open PySem.W PySem.SeqAt
def plainE (b : Nat) : Nat → AV → Bool
  | _, .non => true
  | _, .bl _ => true
  | _, .int i => decide (0 ≤ i ∧ i < 1000000000000000000000000000000000000000000000000000000000000)
  | n + 1, .tup xs => decide (xs.length ≤ b) && xs.all (plainE b n)
  | _, _ => false
def lenE (b : Nat) : Nat → Nat
  | 0 => 60
  | n + 1 => 63 + b * (lenE b n + 2)
def iZipT (f k : Sem) : SemI := fun ρ => (f ρ).bind fun p => (frz p).bind fun q => (k q.2).bind fun p2 => (frz p2).bind fun q2 => (lift (tupOf q.1)).bind fun xs => (lift (tupOf q2.1)).bind fun ys => .ret (zipA xs ys, q2.2)
section
variable {X : Cx} {ct : CT} {β : BInv} {Ex : XK} {e e2 : Expr} {f k : Sem} {p pos tpos : Pos} {elts : List Expr} {kk : Nat}
end
end Dn
set_option Elab.async false
set_option linter.all false
set_option maxRecDepth 100000
set_option maxHeartbeats 2000000
namespace Dn
open PySem PySem.Spec PyProof.Rows L2
section
variable {X : Cx} {pins : List (Addr × Obj)} {σ : L2.St} {H : Hp} {s : Shared}
theorem made2 {c P : Addr} {q : Str} {ps : Array Value} {params : Arguments} {body : Expr} {scope : Scope} {pos : Pos} {Er : Value → Shared → Prop} {Q : Value → Shared → Prop} (I : Inv X pins σ H s) (TB : LamX.TabB X.base X.mg c P) (hcode : X.env.code = .ref c) (hq : X.env.qual ++ "<lambda>" = q)
    (hP : H P = some (.tbl ps)) (ht : TriplesOk ps.toList) (ha : ∀ (pos : Pos) (cv : Value), codeAmong pos ps.toList = some cv → ∃ d, cv = .ref d ∧ H d = some (LamX.CodeO d q)) (hdef : defaultsOf params X.env = ([], [])) (hfree : ∀ y ∈ scope.names, y.2 = .free → ∃ c, X.env.cells.lookup y.1 = some c)
    (h : ∀ (f c' : Addr) (pm ctv : Value) (H1 : Hp) (s' : Shared), LamH P q H ps c' H1 → H1 c' = some (LamX.CodeO c' q) → Inv X pins σ H1 s' → s'.heap.get? f = some (PySem.W.kla_obj "<lambda>" q params body scope (cloFrom X.env.cells scope.names []) pm c' ctv) → H1 f = none → f ∉ frs X.stack → Q (.ref f) s') :
    wpAny (model X.prog X.w) X.A (eval (.Lambda params body scope pos) X.env) Q Er s := by
  subst hq
  have tab : s.heap.get? P = some { cls := .none, data := .fields ps } := I.hok P _ hP
  have bu : s.heap.BuiltinsAt X.mg P := TB.bm.keeps I.bk
  have nofr : ∀ f, s.heap.objs.size ≤ f → f ∉ frs X.stack := fun f hf z => by
    rcases List.mem_cons.mp (I.stkSub _ z) with e | e
    · have h1 := I.lt
      rw [← e] at h1
      exact Nat.lt_irrefl _ (Nat.lt_of_lt_of_le h1 hf)
    · exact I.nofs hf e
  refine PySem.W.kla_eval hdef ?_
  cases look : codeAmong pos ps.toList with
  | some cv =>
    obtain ⟨d, rfl, ed⟩ := ha pos cv look
    refine PySem.W.kla_makeFunctionHit (mg := X.mg) (c := c) (P := P) (ps := ps) (closure_ok hfree) I.ok.glob (I.mod.glob.keeps I.bk) hcode (TB.code.keeps I.bk) tab ht look bu fun ctv g tk kp sz => ?_
    have fn : H g.objs.size = none := I.hok.fresh sz
    exact h g.objs.size d _ ctv H _ (.hit pos look) ed (I.kept fun b o e => Heap.get?_push_of_some _ (kp b o e)) (Heap.get?_push_size _ rfl) fn (nofr _ sz)
  | none =>
    refine PySem.W.kla_makeFunction (mg := X.mg) (c := c) (P := P) (ps := ps) (closure_ok hfree) I.ok.glob (I.mod.glob.keeps I.bk) hcode (TB.code.keeps I.bk) tab ht look TB.gP bu fun d ctv g tk but ge lt rc tb => ?_
    obtain ⟨d2, oc, us, t, e2, ho, hd, hu⟩ := rc
    cases e2
    have nd : H d = none := I.hok.fresh ge
    have eL : (ps ++ #[rawInt pos.line, rawInt pos.col, .ref d]).toList = ps.toList ++ [rawInt pos.line, rawInt pos.col, .ref d] := by simp
    have sz : s.heap.objs.size ≤ g.objs.size := Nat.le_trans ge (Nat.le_of_lt lt)
    have I1 := LamX.inv_table (q := X.env.qual ++ "<lambda>") (t' := tk) (more := #[rawInt pos.line, rawInt pos.col, .ref d]) (h' := g.push (PySem.W.kla_obj "<lambda>" (X.env.qual ++ "<lambda>") params body scope (cloFrom X.env.cells scope.names []) ((X.mg "__name__").getD .none) d ctv)) I hP
      (fun b o nb e => Heap.get?_push_of_some _ (but b o nb e)) (Heap.get?_push_of_some _ tb) ge ⟨oc, us, t, Heap.get?_push_of_some _ ho, hd, hu⟩
    have n1 : g.objs.size ≠ d := Nat.ne_of_gt lt
    have n2 : g.objs.size ≠ P := Nat.ne_of_gt (Nat.lt_of_lt_of_le (Heap.lt_size tab) sz)
    refine h g.objs.size d _ ctv _ _ (.new (rawInt pos.line) (rawInt pos.col) nd (fun p' cv z => ?_) ?_) upd_same I1 (Heap.get?_push_size _ rfl) (by rw [upd_ne n1, upd_ne n2]; exact I.hok.fresh sz) (nofr _ sz)
    · rw [eL] at z
      exact LamX.among_app _ ht z
    · rw [eL]
      exact PySem.TriplesOk_snoc _ _ _ _ ht
end
theorem box_tab {c0 : Gc} {β : BInv} {P : Addr} {q : Str} {g1 : G} {ρ : Env'} {σ : L2.St} {H1 : Hp} (R1 : Rel c0 (BoxT β P q) g1 ρ σ H1) :
    ∃ ps : Array Value, H1 P = some (.tbl ps) ∧ TriplesOk ps.toList ∧ (∀ (pos : Pos) (cv : Value), codeAmong pos ps.toList = some cv → ∃ d, cv = .ref d ∧ H1 d = some (LamX.CodeO d q)) ∧
      ∀ (c' : Addr) (H2 : Hp), LamH P q H1 ps c' H2 → H2 c' = some (LamX.CodeO c' q) → ∃ g2 : G, Ext g1 g2 H1 H2 ∧ Rel c0 (BoxT β P q) g2 ρ σ H2 := by
  obtain ⟨B1, Tb, eB, nB, hbx, tP, ps, eP, tr, cd, m⟩ := R1.box
  refine ⟨ps, eP, tr, fun pos cv z => ?_, fun c' H2 lh hcf => ?_⟩
  · obtain ⟨d, e1, e2, e3⟩ := cd pos cv z
    exact ⟨d, e1, (m d e2).resolve_left e3⟩
  have hBP : g1.B P := (eB P).mpr (.inr tP)
  have stay : ∀ b o, H1 b = some o → b ≠ P → H2 b = some o := fun b o e n => by
    cases lh with
    | hit pos e' => exact e
    | new l k n' am tr' => rw [upd_ne (ne_of_none e n'), upd_ne n]; exact e
  let g2 : G := { g1 with B := fun a => g1.B a ∨ (a = c' ∧ H1 c' = none) }
  have e2 : Ext g1 g2 H1 H2 := by
    refine ⟨fun b o e _ nb => stay b o e fun z => nb (by rw [z]; exact hBP), fun b hb => ?_, rfl, fun b z => .inl z, fun b z => z.elim .inl fun z => .inr (by rw [z.1]; exact z.2), fun b z => z, fun i b z => .inl ⟨i, z⟩, rfl⟩
    cases q' : H1 b with
    | none => exact absurd q' hb
    | some o =>
      by_cases hp : b = P
      · rw [hp]
        cases lh with
        | hit pos e' => rw [eP]; exact (nomatch ·)
        | new l k n' am tr' =>
          rw [upd_ne (ne_of_none eP n'), upd_same]
          exact (nomatch ·)
      · rw [stay b o q' hp]; exact (nomatch ·)
  have box2 : (BoxT β P q).I g2.B g2.D H2 := by
    have hb1 : β.I B1 g1.D H2 := β.frame hbx fun b hb => by
      cases q' : H1 b with
      | none => exact absurd q' (β.live hbx hb)
      | some o => exact stay b o q' fun z => nB P tP (by rw [← z]; exact hb)
    cases lh with
    | hit pos e' =>
      obtain ⟨d', e3, e4, e5⟩ := cd pos _ e'
      cases e3
      have e4 := (m _ e4).resolve_left e5
      refine ⟨B1, Tb, fun b => ?_, nB, hb1, tP, ps, eP, tr, cd, m⟩
      constructor
      · rintro (z | ⟨_, z⟩)
        · exact (eB b).mp z
        · rw [e4] at z; cases z
      · exact fun z => .inl ((eB b).mpr z)
    | new l k n' am tr' =>
      refine ⟨B1, fun b => Tb b ∨ b = c', fun b => ?_, fun b tb hb => ?_, hb1, .inl tP, _, ?_, tr', fun pos cv e => ?_, fun b tb => ?_⟩
      · constructor
        · rintro (z | ⟨z, _⟩)
          · exact ((eB b).mp z).imp id .inl
          · exact .inr (.inr z)
        · rintro (z | z | z)
          · exact .inl ((eB b).mpr (.inl z))
          · exact .inl ((eB b).mpr (.inr z))
          · exact .inr ⟨z, n'⟩
      · rcases tb with tb | tb
        · exact nB b tb hb
        · rw [tb] at hb
          exact β.live hbx hb n'
      · rw [upd_ne (ne_of_none eP n'), upd_same]
      · rcases am pos cv e with z | z
        · obtain ⟨d2, e5, e6, e7⟩ := cd pos cv z
          exact ⟨d2, e5, .inl e6, e7⟩
        · exact ⟨c', z, .inr rfl, (ne_of_none eP n').symm⟩
      · rcases tb with tb | tb
        · exact (m b tb).imp id fun z => by rw [upd_ne (ne_of_none z n'), upd_ne (fun h => by rw [h, eP] at z; unfold LamX.CodeO at z; cases z)]; exact z
        · rw [tb]
          exact .inr hcf
  exact ⟨g2, e2, R1.step e2 rfl (fun i b o h1 h2 => stay b o h2 fun z => (R1.sep i b h1).2 (by rw [z]; exact hBP)) box2⟩
theorem pe_actW {X : Cx} {pins : List (Addr × Obj)} {σ : L2.St} {H : Hp} {s : Shared} {CXg : CXT} {Eg : XK} {Ng : List Str} {qg : Str} {sg : Scope} {g f c' : Addr} {cdg pm ctv : Value} {params : Arguments} {body : Expr} {scope : Scope} {k i : Nat} {a q : Str} {pn : List (Addr × Obj)} {xe : Value → Shared → Prop} {W : WX} {tb : XK → TE} {p1 p2 : Pos}
    (I : Inv X pins σ H s) (L : LamX.LamS X.env.scope scope) (hq : X.env.qual ++ "<lambda>" = q) (hf : s.heap.get? f = some (PySem.W.kla_obj "<lambda>" q params body scope (cloFrom X.env.cells scope.names []) pm c' ctv)) (hfn : H f = none) (hfr : f ∉ frs X.stack)
    (hbind : bindArgs (PySem.W.kla_fn "<lambda>" q params body scope (cloFrom X.env.cells scope.names []) pm (.ref c') ctv) ⟨[], []⟩ = pure [])
    (tk : Takes ((cxOf CXg X.prog X.w X.K X.mg X.base Ng qg sg g cdg X.A X.stack s H Eg).tr pn xe) W) (hr : Room (k + 1) (X.A.deeper (envOfC qg sg s.heap.objs.size g cdg)))
    (hbody : ∀ (E : XK) (A : Around) (outer : List Env) (s : Shared) (H : Hp), Room k (A.deeper (LamX.lamEnv X scope s.heap.objs.size f c')) → PE (LamX.lamCx X A outer s H E scope f c') body (tb E))
    (hN : Ng[i]? = some a) (hv : Vis sg a) (hd : (a == ("__debug__" : Str)) = false := by decide) (hcd : (a == ("__classdict__" : Str)) = false := by decide) :
    PE ((cxOf CXg X.prog X.w X.K X.mg X.base Ng qg sg g cdg X.A X.stack s H Eg).tr pn xe) (.Call (.Name a p1) [] [] p2)
      (fun σZ HZ Q => σZ[i]? = some (some (.ref f)) ∧ HZ c' = some (LamX.CodeO c' q) ∧ tb (fun cls d H' => W cls d σZ H') σ HZ Q) := by
  subst hq
  refine ⟨fun pinsZ sZ σZ HZ Q IZ h => ?_⟩
  obtain ⟨hs, hc, ht⟩ := h
  refine wpAny_Call_Name_kw (thn ((pe_var (pos := p1) (i := i) hN hv hd hcd).run pinsZ sZ σZ HZ (fun v H1 => v = .ref f ∧ H1 = HZ) IZ ⟨.ref f, hs, rfl, rfl⟩) fun u s1 ⟨v, H1, I1, r1, q1⟩ => ?_)
  obtain ⟨ev, eH⟩ := q1
  subst ev
  rw [eH] at I1
  obtain rfl : u = Value.ref f := r1
  have of1 := I1.base.keep f _ hf hfn hfr (fun z => nomatch (show f ∈ ([] : List Addr) from z))
  refine PySem.W.callWith_F0 ⟨_, _, _, _, of1⟩ ?_
  have un : Un (frs X.stack) [] H HZ s.heap s1.heap := I1.base
  obtain ⟨⟨oc, vs, t, hoc, hdc, hvc⟩, _, _⟩ := I1.hok c' _ hc
  have rc : codeAny (model X.prog X.w) (X.A.deeper (envOfC qg sg s.heap.objs.size g cdg)) (.call (.ref f) ⟨[], []⟩) (CR (L2.CX X.prog X.w) (envOfC qg sg s.heap.objs.size g cdg :: X.stack) X.prog X.w HZ s1 Q (fun cls d H' => W cls d σZ H')) s1 := by
    refine PySem.W.kla_callFunE hr.depth of1 rfl L.co L.gen rfl ⟨c', oc, vs, t, rfl, hoc, hdc, hvc⟩ ?_
    rw [hbind]
    refine wpAny_pure (wpAny_newFunctionEnv (fun y hy => (L.own y hy).2) (fun y hy => absurd hy (by simp)) (fun h₁ hns hsb => ⟨I1.nolimit.fresh _ hsb, ?_⟩) L.kind)
    show codeAny _ _ (.expr body (LamX.lamEnv X scope s1.heap.objs.size f c')) _ _
    have kp : ∀ b o, s1.heap.get? b = some o → h₁.get? b = some o := fun b o e => hsb.extBut b o (Nat.ne_of_lt (Heap.lt_size e)) (Heap.get?_push_of_some _ e)
    have J : Inv (LamX.lamCx X (X.A.deeper (envOfC qg sg s.heap.objs.size g cdg)) (envOfC qg sg s.heap.objs.size g cdg :: X.stack) s1 HZ (fun cls d H' => W cls d σZ H') scope f c') [] σ HZ { s1 with heap := h₁, toks := s1.toks + ([] : List (Str × Value)).length } :=
      LamX.lam_start2 I L I1.env0 hr.hd un hns kp
    refine PySem.W.kla_codeExpr (wpAny_mono ((hbody _ _ _ s1 HZ (hr.deeper _)).run [] _ _ HZ Q J ht) (fun v s' hq => ?_) fun e s' hq => hq)
    obtain ⟨w', H', J', rv, q⟩ := hq
    exact ⟨w', H', J'.os, J'.bare, J'.base, J'.hok, rv, q⟩
  refine wpAny_call (codeAny_mono rc fun r s' hq => ?_)
  cases r with
  | error e => exact tk e s' (XE.of_call I1 (fun cls d H' h => h) hq)
  | ok fl =>
    cases fl with
    | ret u => exact I1.after hq
    | next => exact False.elim hq
    | brk => exact False.elim hq
    | cont => exact False.elim hq
abbrev Zc2 (X : Cx) (Ng : List Str) (x : Str) (sg : Scope) (g : Addr) (cdg : Value) (s : Shared) (H : Hp) : Cx := cxOf C8.CX0 X.prog X.w X.K X.mg X.base Ng x sg g cdg X.A X.stack s H C8.E0
def GivesW (X : Cx) (Ng : List Str) (x : Str) (sg : Scope) (g : Addr) (cdg : Value) (bg : List Stmt) (a : Str) (q : Str) (TT : (XK → Hp → VK → Prop) → Hp → VK → Prop) : Prop :=
  ∀ (f c' : Addr) (s : Shared) (H : Hp) (Q : VK) (tl : XK → Hp → VK → Prop),
    (∀ (W : WX) (pn : List (Addr × Obj)) (xe : Value → Shared → Prop) (p1 p2 : Pos), Takes ((Zc2 X Ng x sg g cdg s H).tr pn xe) W →
      PE ((Zc2 X Ng x sg g cdg s H).tr pn xe) (.Call (.Name a p1) [] [] p2) (fun σZ HZ Q => σZ[0]? = some (some (.ref f)) ∧ HZ c' = some (LamX.CodeO c' q) ∧ tl (fun cls d H' => W cls d σZ H') HZ Q)) →
    H c' = some (LamX.CodeO c' q) → TT tl H Q →
    ∃ t, PSs (Zc2 X Ng x sg g cdg s H).nox bg t ∧ t { nx := fun _ H' => Q .non H', rt := Q } (L2.start Ng [.ref f]) H
def D0r (Q : VK) : Ends := { nx := fun _ H' => Q .non H', rt := Q }
def D1r (Q : VK) : Ends := { nx := fun σ H => tVar 1 σ H Q, rt := Q }
def st1 (Ng : List Str) (f : Addr) (lit : V) : L2.St := (L2.start Ng [.ref f]).set 1 (some lit)
def TTy (K : PySem.W.Frag) (CS : Addr) (lit : V) (ts : Addr → Value → Option Addr → TS) (Ng : List Str) : (XK → Hp → VK → Prop) → Hp → VK → Prop := fun tl H Q =>
  ∀ f, tl (fun cls d H' => wAs K (.ref CS) 2 ts (fun _ _ _ _ => False) (D1r Q) cls d (st1 Ng f lit) H') H fun _ H2 => tVar 1 (st1 Ng f lit) H2 Q
theorem gives_try {X : Cx} {Ng : List Str} {x a x0 n e q : Str} {sg : Scope} {g CS : Addr} {cdg : Value} {lit : V} {e0 : Expr} {b0 : Stmt} {su : List Stmt} {ts : Addr → Value → Option Addr → TS} {p1 p2 p3 p4 p5 p6 p7 p8 pa pb : Pos}
    (hN : Ng.Nodup) (h0 : ∀ f : Addr, (L2.start Ng [V.ref f])[0]? = some (some (V.ref f))) (h1 : Ng[1]? = some x0) (h2 : Ng[2]? = some n) (lx : sg.names.lookup x0 = some .local) (ln : sg.names.lookup n = some .local)
    (hge : sg.names.lookup e = some .globalImplicit) (hme : X.mg e = some (.ref CS)) (hde : (e == ("__debug__" : Str)) = false) (hdx : (x0 == ("__debug__" : Str)) = false) (hcx : (x0 == ("__classdict__" : Str)) = false)
    (hlit : ∀ Y : Cx, PE Y e0 (tC lit)) (hs0 : ∀ env : Env, swapsWith e0 (some (.Name x0 pa)) pb.line env = pure false) (hs1 : ∀ env : Env, swapsWith (.Call (.Name a p1) [] [] p2) none p3.line env = pure false)
    (hsu : ∀ (s : Shared) (H : Hp) (a : Addr) (oe : Obj) (cls : Value) (d : Option Addr) (pn : List (Addr × Obj)), Zc cls d oe → (∃ vs, oe.data = .fields vs) → PSs ((Zc2 X Ng x sg g cdg s H).nox.suite a ((a, oe) :: pn)) (b0 :: su) (ts a cls d)) :
    GivesW X Ng x sg g cdg [.Assign [.Name x0 pa] e0 pb, .Try [.Expr (.Call (.Name a p1) [] [] p2) p3] [.ExceptHandler (some (.Name e p4)) (some n) (b0 :: su) p5] [] [] p6, .Return (some (.Name x0 p7)) p8] a q (TTy X.K CS lit ts Ng) := by
  intro f c' s H Q tl act hc h
  have hgl : Gl (Zc2 X Ng x sg g cdg s H).nox e := hge
  have tr := ps_try_as (X := (Zc2 X Ng x sg g cdg s H).nox) (n := n) (i := 2) (x := e) (c := .ref CS) (body := [.Expr (.Call (.Name a p1) [] [] p2) p3]) (pos := p6) (np := p4) (pos' := p5) (b₀ := b0) (suite := su) (ts := ts) (Wout := fun _ _ _ _ => False)
    (tb := fun W D σ H' => σ[0]? = some (some (V.ref f)) ∧ H' c' = some (LamX.CodeO c' q) ∧ tl (fun cls d H2 => W cls d σ H2) H' fun _ H2 => D.nx σ H2)
    rfl rfl hN h2 ln ⟨hgl, hde, .inl hme⟩ LamX.takes0 (fun W pn xe tk _ => PSs.imp (pss_one (ps_expr (act W pn xe p1 p2 tk) (hs1 _))) fun D σ H h => h) (hsu s H)
  refine ⟨_, pss_cons (ps_set (X := (Zc2 X Ng x sg g cdg s H).nox) (i := 1) hN h1 (.inl lx) (hlit _) (hs0 _) (.inr lx)) (pss_cons tr (pss_one (ps_ret (pe_var (X := (Zc2 X Ng x sg g cdg s H).nox) (i := 1) (pos := p7) h1 (.inl lx) hdx hcx)))), ?_⟩
  have s0 : (st1 Ng f lit)[0]? = some (some (V.ref f)) := by
    unfold st1
    rw [List.getElem?_set_ne (by decide)]
    exact h0 f
  exact ⟨s0, hc, h f⟩
theorem pe_lamW {X : Cx} {TT : (XK → Hp → VK → Prop) → Hp → VK → Prop} {x a q : Str} {g c P : Addr} {k : Nat} {pg : Arguments} {bg : List Stmt} {sg : Scope} {dV kV doc pm cdv ct oc : Value} {an od : Option Addr} {osl : Array (Option Value)} {Ng : List Str}
    {params : Arguments} {body : Expr} {scope : Scope} {tb : XK → TE} {p lpos pos : Pos} (hg : Gl X x) (hm : X.mg x = some (.ref g)) (hk : PySem.W.keepIn X.K (.ref g) = true)
    (lk : X.K.lookup g = some ⟨oc, od, .func (PySem.W.fnOf x x pg bg sg dV kV doc pm an cdv ct), osl⟩) (hcg : PySem.W.codeIn X.K cdv x = true) (hb : L2.Binds X.K (PySem.W.fnOf x x pg bg sg dV kV doc pm an cdv ct) [a] []) (Sg : FnScope Ng [a] sg) (hNg : Ng[0]? = some a) (hva : Vis sg a)
    (hq : X.env.qual ++ "<lambda>" = q) (hG : GivesW X Ng x sg g cdv bg a q TT)
    (TB : LamX.TabB X.base X.mg c P) (hcode : X.env.code = .ref c) (hr : Room (k + 2) X.A) (L : LamX.LamS X.env.scope scope) (hdef : defaultsOf params X.env = ([], []))
    (hbind : ∀ (cl : List (Str × Addr)) (pm cv ctv : Value), bindArgs (PySem.W.kla_fn "<lambda>" q params body scope cl pm cv ctv) ⟨[], []⟩ = pure [])
    (hbody : ∀ (E : XK) (A : Around) (outer : List Env) (s : Shared) (H : Hp) (f c' : Addr), Room k (A.deeper (LamX.lamEnv X scope s.heap.objs.size f c')) → PE (LamX.lamCx X A outer s H E scope f c') body (tb E))
    (hdb : (x == ("__debug__" : Str)) = false := by decide +kernel) (hd : (a == ("__debug__" : Str)) = false := by decide +kernel) (hcd : (a == ("__classdict__" : Str)) = false := by decide +kernel) :
    PE X (.Call (.Name x p) [.Lambda params body scope lpos] [] pos) (fun σ H Q => ∃ ps : Array Value, H P = some (.tbl ps) ∧ TriplesOk ps.toList ∧ (∀ (pos : Pos) (cv : Value), codeAmong pos ps.toList = some cv → ∃ d, cv = .ref d ∧ H d = some (LamX.CodeO d q)) ∧
      ∀ (c' : Addr) (H1 : Hp), LamH P q H ps c' H1 → H1 c' = some (LamX.CodeO c' q) → TT (fun E H' Q' => tb E σ H' Q') H1 Q) := by
  refine ⟨fun pins s σ H Q I h => ?_⟩
  obtain ⟨ps, hP, tr, cd, h⟩ := h
  refine wpAny_Call_Name_kw (ld_glob I hg hm ?_ hdb)
  refine PySem.W.callWith_K (h₀ := X.base) I.ok.mod.kin hk ?_ (by rfl) (by rfl)
  show wpAny _ _ (spliced ((false, eval (.Lambda params body scope lpos) X.env) :: backTo pos (starEach [] X.env))) _ _ s
  refine Calls.spliced_cons (made2 I TB hcode hq hP tr cd hdef (L.has I.ok) fun f c' pm' ctv H1 s' lh hco I1 hf hfn hfr => ?_)
  refine Calls.spliced_nil ⟨I1.kIn, ?_⟩
  have rc : codeAny (model X.prog X.w) X.A (.call (.ref g) ⟨[.ref f], []⟩) (CR C8.CX0 X.stack X.prog X.w H1 s' Q C8.E0) s' := by
    refine LamX.run_ofS (N := Ng) (ps := [a]) (us := [.ref f]) (vs := [.ref f]) lk hcg Sg hr I1.env0 (hb s' [.ref f] I1.kIn rfl) (.cons rfl .nil) rfl fun hr' => ?_
    obtain ⟨t', ht', hq'⟩ := hG f c' s' H1 Q (fun E H' Q' => tb E σ H' Q') (fun W pn xe p1 p2 tk => pe_actW (i := 0) I1 L hq hf hfn hfr (hbind _ _ _ _) tk hr' (fun E A outer s H hr2 => hbody E A outer s H f c' hr2) hNg hva hd hcd) hco (h c' H1 lh hco)
    exact ⟨t', ht'.nox, hq'⟩
  refine wpAny_call (codeAny_mono rc fun r s2 hq => ?_)
  cases r with
  | error e => exact (show False from hq).elim
  | ok fl =>
    cases fl with
    | ret u => exact I1.after hq
    | next => exact False.elim hq
    | brk => exact False.elim hq
    | cont => exact False.elim hq
noncomputable def fLam (lit : AV) (m : Env' → T AV) (sub : Nat → Bool) (hv : Nat → List AV → Option AV) : Sem := fun ρ => tryT (m ρ) (fun _ => .ret (.val lit, ρ)) fun c xs => if sub c = true then (match hv c xs with
  | some t => .ret (.val t, ρ)
  | none => .bad) else .bad
theorem j_lamW {X : Cx} {ct0 : CT} {β : BInv} {Ex : XK} {x a q : Str} {g c P CS : Addr} {k : Nat} {pg : Arguments} {bg : List Stmt} {sg : Scope} {dV kV doc pm cdv ct oc : Value} {an od : Option Addr} {osl : Array (Option Value)} {Ng : List Str}
    {params : Arguments} {body : Expr} {scope : Scope} {p lpos pos : Pos} {m : Env' → T AV} {sub : Nat → Bool} {hv : Nat → List AV → Option AV} {ts : Addr → Value → Option Addr → TS} {lit : V} {litA : AV} (hg : Gl X x) (hm : X.mg x = some (.ref g)) (hk : PySem.W.keepIn X.K (.ref g) = true)
    (lk : X.K.lookup g = some ⟨oc, od, .func (PySem.W.fnOf x x pg bg sg dV kV doc pm an cdv ct), osl⟩) (hcg : PySem.W.codeIn X.K cdv x = true) (hb : L2.Binds X.K (PySem.W.fnOf x x pg bg sg dV kV doc pm an cdv ct) [a] []) (Sg : FnScope Ng [a] sg) (hNg : Ng[0]? = some a) (hva : Vis sg a)
    (hq : X.env.qual ++ "<lambda>" = q) (hG : GivesW X Ng x sg g cdv bg a q (TTy X.K CS lit ts Ng)) (hl3 : ∀ f, (L2.start Ng [V.ref f]).length = 3)
    (TB : LamX.TabB X.base X.mg c P) (hcode : X.env.code = .ref c) (hr : Room (k + 2) X.A) (L : LamX.LamS X.env.scope scope) (hdef : defaultsOf params X.env = ([], []))
    (hbind : ∀ (cl : List (Str × Addr)) (pm cv ctv : Value), bindArgs (PySem.W.kla_fn "<lambda>" q params body scope cl pm cv ctv) ⟨[], []⟩ = pure [])
    (hbody : ∀ (E : XK) (A : Around) (outer : List Env) (s : Shared) (H : Hp) (f c' : Addr), Room k (A.deeper (LamX.lamEnv X scope s.heap.objs.size f c')) → PE (LamX.lamCx X A outer s H E scope f c') body (rdX (gc X ct0) (BoxT β P q) (fun cls d _ H => E cls d H) m))
    (hrep : ∀ g H, RepG (gc X ct0) g H litA lit)
    (hsub : ∀ k C, X.mg (ct0 k).1 = some (.ref C) → PySem.W.exmOne X.K (.ref C) (.ref CS) = some (sub k))
    (hval : ∀ (k : Nat) (xs : List AV) (us : List V) (g : G) (H : Hp) (C a : Addr) (d : Option Addr) (t : AV) (σ' : L2.St) (D : Ends), sub k = true → hv k xs = some t → X.mg (ct0 k).1 = some (.ref C) → DOk H d (ct0 k).2 us → us.length = (ct0 k).2.length → RepsG (gc X ct0) g H xs us → σ'.length = 3 →
      (∀ v, RepG (gc X ct0) g H t v → D.nx ((σ'.set 2 (some (.ref a))).set 1 (some v)) H) → ts a (.ref C) d D (σ'.set 2 (some (.ref a))) H)
    (hdb : (x == ("__debug__" : Str)) = false := by decide +kernel) (hd : (a == ("__debug__" : Str)) = false := by decide +kernel) (hcd : (a == ("__classdict__" : Str)) = false := by decide +kernel) :
    JE X ct0 (BoxT β P q) Ex (.Call (.Name x p) [.Lambda params body scope lpos] [] pos) (fLam litA m sub hv) := by
  refine PE.imp (pe_lamW (tb := fun E => rdX (gc X ct0) (BoxT β P q) (fun cls d _ H => E cls d H) m) hg hm hk lk hcg hb Sg hNg hva hq hG TB hcode hr L hdef hbind hbody hdb hd hcd) fun σ H Q h => ?_
  obtain ⟨g1, ρ, R, h⟩ := h
  obtain ⟨ps, eP, tr, cd, nxt⟩ := box_tab R
  refine ⟨ps, eP, tr, cd, fun c' H2 lh hco f => ?_⟩
  obtain ⟨g2, e2, R2⟩ := nxt c' H2 lh hco
  have l3 : (st1 Ng f lit).length = 3 := by
    unfold st1
    rw [List.length_set]
    exact hl3 f
  refine ⟨g2, ρ, R2, T.all_mono (tryT_all h) (fun t z g' H' e v R' rv => ?_) fun k xs q2 g' H' C d us e' R' hm' hd' hl' rx => ?_⟩
  · have z : okT (gc X ct0) (BoxT β P q) Ex g1 H (.ret (Hd.val litA, ρ)) fun g' H' p => ∀ v, Rel (gc X ct0) (BoxT β P q) g' p.2 σ H' → RepH (gc X ct0) g' σ H' p.1 v → Q v H' := z
    exact ⟨lit, by unfold st1; rw [List.getElem?_set_self (by rw [hl3]; decide)], okT_ret' z (e2.trans e) lit R' (hrep g' H')⟩
  · have q3 : okT (gc X ct0) (BoxT β P q) Ex g1 H (if sub k = true then (match hv k xs with
        | some t => T.ret (Hd.val t, ρ)
        | none => T.bad) else T.bad) fun g' H' p => ∀ v, Rel (gc X ct0) (BoxT β P q) g' p.2 σ H' → RepH (gc X ct0) g' σ H' p.1 v → Q v H' := q2
    refine ⟨sub k, hsub k C hm', fun hb1 a na => ?_, fun hb0 => ?_⟩
    · rw [if_pos hb1] at q3
      cases ev : hv k xs with
      | none => rw [ev] at q3; exact (show False from q3).elim
      | some t =>
        rw [ev] at q3
        refine hval k xs us g' H' C a d t (st1 Ng f lit) _ hb1 ev hm' hd' hl' rx l3 fun v rv => ?_
        refine ⟨v, ?_, okT_ret' q3 (e2.trans e') v R' rv⟩
        rw [List.getElem?_set_ne (by decide), List.getElem?_set_self (by rw [List.length_set, l3]; decide)]
    · rw [if_neg (by rw [hb0]; decide)] at q3
      exact (show False from q3).elim
def tsK (K : PySem.W.Frag) (i j : Nat) (CA CB : Addr) (f o : Str) (a : Addr) (cls : Value) (d : Option Addr) : TS := tSeq (tAsg (tAndV (tOp (rEqD K) (tXfX K a cls d f (tVar i)) (tC (.str o))) (tAndV (tCB (rIsX K cls d a) (tCons (tVar i) (tCons (tC (.ref CA)) tNil))) (tNotV (tCB (rIsX K cls d a) (tCons (tVar i) (tCons (tC (.ref CB)) tNil)))))) (gName j)) tNext
def hvK (o : Str) (bA bB : Nat → Bool) (k : Nat) (xs : List AV) : Option AV := match xs with
  | [t] => if (dat DEP t && dat DEP (.str o)) = true then some (.bl (aeq DEP t (.str o) && (bA k && !bB k))) else none
  | _ => none
def hvE (o : Str) (bA bB : Nat → Bool) (k : Nat) (xs : List AV) : Option AV := if (bA k && !bB k) = true then (match xs with
  | [t] => some t
  | _ => none) else some (.str o)
theorem tsE_ok {c0 : Gc} {g : G} {H : Hp} {k : Nat} {CA CB C a : Addr} {d : Option Addr} {f o : Str} {bA bB : Nat → Bool} {xs : List AV} {us : List V} {t : AV} {σ' : L2.St} {D : Ends}
    (hA : PySem.W.kitOne c0.K (.ref C) (.ref CA) = some (bA k)) (hB : PySem.W.kitOne c0.K (.ref C) (.ref CB) = some (bB k)) (E1 : ExcC c0.K C) (E2 : (PySem.W.clsIn c0.K C).isSome = true) (E3 : XfC c0.K C) (E4 : PySem.W.findIn c0.K (.ref C) f = some none) (h2 : (c0.ct k).2 = [f])
    (ev : hvE o bA bB k xs = some t) (hd : DOk H d (c0.ct k).2 us) (hl : us.length = (c0.ct k).2.length) (rx : RepsG c0 g H xs us) (l3 : σ'.length = 3)
    (h : ∀ v, RepG c0 g H t v → D.nx ((σ'.set 2 (some (.ref a))).set 1 (some v)) H) : tsE c0.K 2 1 CA CB f o a (.ref C) d D (σ'.set 2 (some (.ref a))) H := by
  have si : (σ'.set 2 (some (.ref a)))[2]? = some (some (V.ref a)) := List.getElem?_set_self (by rw [l3]; decide)
  rw [h2] at hd hl
  obtain ⟨d, e0, hd2⟩ := hd.at
  subst e0
  clear hd
  have hd := hd2
  obtain ⟨y, rfl⟩ : ∃ y, us = [y] := by
    match us, hl with
    | [y], _ => exact ⟨y, rfl⟩
  unfold hvE at ev
  have last : (if (bA k && !bB k) = true then D.nx ((σ'.set 2 (some (.ref a))).set 1 (some y)) H else D.nx ((σ'.set 2 (some (.ref a))).set 1 (some (.str o))) H) := by
    by_cases hb : (bA k && !bB k) = true
    · rw [if_pos hb] at ev ⊢
      match xs, rx, ev with
      | [u], rx, ev =>
        cases ev
        rw [RepsG, RepL] at rx
        obtain ⟨v, r, e, ry, _⟩ := rx
        cases e
        exact h _ ry
      | [], _, ev => cases ev
      | _ :: _ :: _, _, ev => cases ev
    · rw [if_neg hb] at ev ⊢
      cases ev
      exact h _ (by rw [RepG, Rep])
  refine ⟨_, si, C, d, _, .ref CA, .ref CA, bA k, rfl, rfl, E1, E2, hd, rfl, fun u r => r, hA, bA k, rfl, ?_⟩
  cases eA : bA k with
  | false =>
    rw [eA] at last
    exact last
  | true =>
    rw [eA] at last
    refine ⟨_, si, C, d, _, .ref CB, .ref CB, bB k, rfl, rfl, E1, E2, hd, rfl, fun u r => r, hB, bB k, rfl, ?_⟩
    cases eB : bB k with
    | true =>
      rw [eB] at last
      exact last
    | false =>
      rw [eB] at last
      refine ⟨_, si, rfl, C, d, _, y, rfl, E3, E4, rfl, hd, ?_, last⟩
      show List.lookup f [(f, y)] = some y
      simp
structure Lf (K : PySem.W.Frag) (mg : Str → Option Value) (x : Str) (st : Stmt) (a : Str) : Prop where
  ex : ∃ (fa : Addr) (fd : FuncData), Fun K x x st fa fd ∧ mg x = some (.ref fa) ∧ PySem.W.keepIn K (.ref fa) = true ∧ Binds K fd [a] []
theorem j_lamF {X : Cx} {ct0 : CT} {β : BInv} {Ex : XK} {x a q : Str} {st : Stmt} {c P CS : Addr} {k : Nat} {Ng : List Str}
    {params : Arguments} {body : Expr} {scope : Scope} {p lpos pos : Pos} {m : Env' → T AV} {sub : Nat → Bool} {hv : Nat → List AV → Option AV} {ts : Addr → Value → Option Addr → TS} {lit : V} {litA : AV}
    (D : Lf X.K X.mg x st a) (Sg : FnScope Ng [a] (defScope st)) (TB : LamX.TabB X.base X.mg c P) (hr : Room (k + 2) X.A)
    (hG : ∀ (g : Addr) (cdv : Value), GivesW X Ng x (defScope st) g cdv (defBody st) a q (TTy X.K CS lit ts Ng))
    (hbody : ∀ (E : XK) (A : Around) (outer : List Env) (s : Shared) (H : Hp) (f c' : Addr), Room k (A.deeper (LamX.lamEnv X scope s.heap.objs.size f c')) → JX (LamX.lamCx X A outer s H E scope f c') ct0 (BoxT β P q) body m)
    (hrep : ∀ g H, RepG (gc X ct0) g H litA lit)
    (hsub : ∀ k C, X.mg (ct0 k).1 = some (.ref C) → PySem.W.exmOne X.K (.ref C) (.ref CS) = some (sub k))
    (hval : ∀ (k : Nat) (xs : List AV) (us : List V) (g : G) (H : Hp) (C a : Addr) (d : Option Addr) (t : AV) (σ' : L2.St) (D : Ends), sub k = true → hv k xs = some t → X.mg (ct0 k).1 = some (.ref C) → DOk H d (ct0 k).2 us → us.length = (ct0 k).2.length → RepsG (gc X ct0) g H xs us → σ'.length = 3 →
      (∀ v, RepG (gc X ct0) g H t v → D.nx ((σ'.set 2 (some (.ref a))).set 1 (some v)) H) → ts a (.ref C) d D (σ'.set 2 (some (.ref a))) H)
    (L : LamX.LamS X.env.scope scope) (hbind : ∀ (cl : List (Str × Addr)) (pm cv ctv : Value), bindArgs (PySem.W.kla_fn "<lambda>" q params body scope cl pm cv ctv) ⟨[], []⟩ = pure [])
    (hg : Gl X x := by rfl) (hNg : Ng[0]? = some a := by rfl) (hva : Vis (defScope st) a := by first | exact Or.inl rfl | exact Or.inr (Or.inl rfl) | exact Or.inr (Or.inr rfl)) (hl3 : ∀ f, (L2.start Ng [V.ref f]).length = 3 := by intro f; rfl)
    (hq : X.env.qual ++ "<lambda>" = q := by rfl) (hcode : X.env.code = .ref c := by rfl) (hdef : defaultsOf params X.env = ([], []) := by rfl)
    (hdb : (x == ("__debug__" : Str)) = false := by decide +kernel) (hd : (a == ("__debug__" : Str)) = false := by decide +kernel) (hcd : (a == ("__classdict__" : Str)) = false := by decide +kernel) :
    JE X ct0 (BoxT β P q) Ex (.Call (.Name x p) [.Lambda params body scope lpos] [] pos) (fLam litA m sub hv) := by
  obtain ⟨fa, fd, F, hm, hk, hb⟩ := D.ex
  obtain ⟨oc, od, kV, doc, pm, an, cdv, ct', osl, rfl, lk, hco⟩ := F.ex
  refine j_lamW hg hm hk lk hco hb Sg hNg hva hq (hG fa cdv) hl3 TB hcode hr L hdef hbind (fun E A outer s H f c' hr2 => ?_) hrep hsub hval hdb hd hcd
  have tk : Takes (LamX.lamCx X A outer s H E scope f c') (fun cls d _ H => E cls d H) := takes_of rfl rfl rfl rfl
  exact hbody E A outer s H f c' hr2 (fun cls d _ H => E cls d H) [] (LamX.lamCx X A outer s H E scope f c').xe tk
theorem fLam_exc {lit : AV} {m : Env' → T AV} {sub : Nat → Bool} {hv : Nat → List AV → Option AV} {ρ : Env'} {c : Nat} {xs : List AV} {t : AV} (h : m ρ = .exc c xs) (hs : sub c = true) (ht : hv c xs = some t) : fLam lit m sub hv ρ = .ret (.val t, ρ) := by
  unfold fLam
  rw [h]
  show (if sub c = true then _ else _) = _
  rw [if_pos hs, ht]
theorem fLam_ret {lit : AV} {m : Env' → T AV} {sub : Nat → Bool} {hv : Nat → List AV → Option AV} {ρ : Env'} {t : AV} (h : m ρ = .ret t) : fLam lit m sub hv ρ = .ret (.val lit, ρ) := by
  unfold fLam
  rw [h]
  rfl
end Dn
set_option Elab.async false
set_option linter.all false
set_option maxRecDepth 100000
set_option maxHeartbeats 2000000
namespace Dn
open PySem PySem.Spec PyProof.Rows L2
def spLawT2 (K : PySem.W.Frag) (P P2 : Addr) : Sp := fun vs H Q _ => ∃ (a : Addr) (ns : List Int), vs = [.ref a] ∧ SqL K H a (ns.map V.int) ∧ ns.length ≤ 63 ∧ H P = some (.tbl #[]) ∧ H P2 = some (.tbl #[]) ∧ ∀ H', Q (.bl true) H'
def gT2 (P P2 : Addr) : G := ⟨fun _ => False, fun _ => none, fun a => a = P ∨ a = P2, fun _ => False, none⟩
theorem boxT_start2 {β : BInv} {P P2 : Addr} {q q2 : Str} {H : Hp} (ne : P ≠ P2) (hb : β.I (fun _ => False) (fun _ => False) H) (h : H P = some (.tbl #[])) (h2 : H P2 = some (.tbl #[])) : (BoxT (BoxT β P q) P2 q2).I (fun a => a = P ∨ a = P2) (fun _ => False) H :=
  ⟨fun a => a = P, fun a => a = P2, fun a => Iff.rfl, fun a z y => ne (y.symm.trans z), boxT_start hb h, rfl, #[], h2, trivial, fun pos cv z => by
    have z' : codeAmong pos [] = some cv := z
    simp [codeAmong] at z', fun a => .inl⟩
theorem lawT2_sp {K : PySem.W.Frag} {mg : Str → Option Value} {ct : CT} {β : BInv} {TP TP2 : Addr} {q q2 : Str} {fn : List AV → T AV} (ne : TP ≠ TP2) (hb : ∀ H, β.I (fun _ => False) (fun _ => False) H) (h : ∀ ns : List Int, ns.length ≤ 63 → (fn [.scr ns]).Al (fun t => t = .bl true) NoX)
    {vs : List V} {H : Hp} {Q : VK} {E : XK} (hs : spLawT2 K TP TP2 vs H Q E) : spM ⟨K, mg, ct⟩ (BoxT (BoxT β TP q) TP2 q2) 1 fn vs H Q E := by
  obtain ⟨a, ns, rfl, hS, hl, hP, hP2, k⟩ := hs
  refine ⟨gT2 TP TP2, [.scr ns], fun _ => rfl, fun _ z => z.elim, fun _ z => z.elim, boxT_start2 ne (hb H) hP hP2, .one ?_, rfl, ?_⟩
  · rw [Rep]
    refine ⟨a, rfl, ?_⟩
    rcases hS with z | z
    · refine .inl ⟨?_, z⟩
      rintro (y | ⟨_, y⟩ | y)
      · exact y
      · cases y
      · have y : a = TP ∨ a = TP2 := y
        rcases y with y | y
        · rw [y] at z
          rcases z with z | ⟨o, z⟩ <;> rw [hP] at z <;> cases z
        · rw [y] at z
          rcases z with z | ⟨o, z⟩ <;> rw [hP2] at z <;> cases z
    · exact .inr fun H' => .inr z
  · refine T.all_mono (al_iff.mp (h ns hl)) (fun t et g' H' _ v _ rv => ?_) fun _ _ z => z.elim
    subst et
    rw [RepG, Rep] at rv
    subst rv
    exact k H'
theorem law_endTA2 {P : Program} {w : World} {K : PySem.W.Frag} {mg : Str → Option Value} {base : Heap} {ct : CT} {β : BInv} {lv : Nat} {fa TP TP2 : Addr} {q q2 : Str} {fd : FuncData} {x : Str} {fn : List AV → T AV} (F : FnOk P w K mg base (L2.CX P w) lv fa fd [x] (spM ⟨K, mg, ct⟩ (BoxT (BoxT β TP q) TP2 q2) 1 fn))
    (ne : TP ≠ TP2) (hb : ∀ H, β.I (fun _ => False) (fun _ => False) H) (h : ∀ ns : List Int, ns.length ≤ 63 → (fn [.scr ns]).Al (fun t => t = .bl true) NoX) : FnOk P w K mg base (L2.CX P w) lv fa fd [x] (spLawT2 K TP TP2) := F.imp fun vs H Q E hs => lawT2_sp ne hb h hs
end Dn
set_option Elab.async false
set_option linter.all false
set_option maxRecDepth 100000
set_option maxHeartbeats 0
namespace K52
open PySem PySem.Spec PyProof.Rows L2 Dn
structure Bl (mg : Str → Option Value) : Prop where
  n__ : mg "" = none
  n_abs : mg "abs" = none
  n_bool : mg "bool" = none
  n_divmod : mg "divmod" = none
  n_enumerate : mg "enumerate" = none
  n_int : mg "int" = none
  n_isinstance : mg "isinstance" = none
  n_lcm : mg "lcm" = some (.builtin "math.lcm")
  n_len : mg "len" = none
  n_list : mg "list" = none
  n_max : mg "max" = none
  n_min : mg "min" = none
  n_range : mg "range" = none
  n_sorted : mg "sorted" = none
  n_tuple : mg "tuple" = none
def CT0 : CT := fun
  | 0 => ("InvalidDays", ["at"])
  | _ => ("", [])
structure Ers (K : PySem.W.Frag) (mg : Str → Option Value) (C_TurnError : Addr) (C_InvalidMisses : Addr) (C_InvalidDays : Addr) : Prop where
  e_TurnError : ErC K mg "TurnError" C_TurnError
  e_InvalidMisses : ErC K mg "InvalidMisses" C_InvalidMisses
  e_InvalidDays : ErC K mg "InvalidDays" C_InvalidDays
  m_InvalidDays : mg "InvalidDays" = some (.ref C_InvalidDays)
  x_InvalidDays : ErX K C_InvalidDays "at"
  s_InvalidDays_InvalidDays : PySem.W.subIn K (.ref C_InvalidDays) (.ref C_InvalidDays) = some true
  s_InvalidDays_TurnError : PySem.W.subIn K (.ref C_InvalidDays) (.ref C_TurnError) = some true
  s_InvalidDays_InvalidMisses : PySem.W.subIn K (.ref C_InvalidDays) (.ref C_InvalidMisses) = some false
  n_InvalidDays_InvalidMisses : (Value.ref C_InvalidDays == Value.ref C_InvalidMisses) = false
def sb_InvalidDays : Nat → Bool := fun k => k == 0
theorem xm_InvalidDays {K : PySem.W.Frag} {mg : Str → Option Value} {C_TurnError : Addr} {C_InvalidMisses : Addr} {C_InvalidDays : Addr} (ER : Ers K mg C_TurnError C_InvalidMisses C_InvalidDays) (T : Bl mg) : ∀ k C, mg (CT0 k).1 = some (.ref C) → PySem.W.exmOne K (.ref C) (.ref C_InvalidDays) = some (sb_InvalidDays k)
  | 0, C, h => by
    have e : some (Value.ref C_InvalidDays) = some (Value.ref C) := ER.m_InvalidDays.symm.trans h
    cases e
    exact exm_of ER.e_InvalidDays ER.s_InvalidDays_InvalidDays
  | k + 1, C, h => by
    have e : none = some (Value.ref C) := T.n__.symm.trans h
    cases e
abbrev BB0 : BInv := BoxI okB
abbrev f_law_take : List AV → T AV := fDraw
abbrev BB1 (TP1 : Addr) : BInv := BoxT BB0 TP1 (("_law_all_heard" ++ ".<locals>.") ++ "<lambda>")
abbrev BB (TP1 TP2 : Addr) : BInv := BoxT (BB1 TP1) TP2 (("law" ++ ".<locals>.") ++ "<lambda>")
abbrev FUEL : Nat := 1000
noncomputable section
variable {P : Program} {w : World} {K : PySem.W.Frag} {mg : Str → Option Value} {base : Heap} {TP1 TP2 : Addr}
abbrev N_law_box : List Str := ["_law_script", "_law_k", "_law_own", "_law_cell", "_law_seed", "_law_one"]
def S2f0_law_box : SSem := (sSet 4 (fBin pMod (fUn pInt (fBin pAdd (fBin pAdd (fBin pMul (fVar 4) (fC (.int 16807))) (fBin pMod (fUn pAbs (fVar 5)) (fC (.int 2147483629)))) (fVar 1))) (fC (.int 2147483647))))
def K2f0_law_box : SSem := sSeq S2f0_law_box sNil
theorem U2f0_law_box {a : Dn.Slot} {l : Env'} : K2f0_law_box (a :: l) = sSeq S2f0_law_box sNil (a :: l) := rfl
def S0_law_box : SSem := (sSet 3 (fIf (fBlT (fBin pLt (fVar 1) (fUn pLen (fVar 0)))) (fUn pAbs (fBin pIx (fVar 0) (fVar 1))) (fC (.int 0))))
def S1_law_box : SSem := (sSet 4 (fBin pAdd (fBin pAdd (fBin pMul (fC (.int 100291)) (fVar 2)) (fBin pMul (fC (.int 7753)) (fVar 1))) (fC (.int 37))))
def S2_law_box : SSem := (sFor (iSeq (fSl (fVar 0) none (some (fC (.int 40))))) (tgName 5) K2f0_law_box)
def S3_law_box : SSem := (sRetBox testB (nLst (lCons (fIf (fBlT (fBin pGe (fVar 3) (fBin pPow (fC (.int 10)) (fC (.int 18))))) (fVar 3) (fC (.int 0))) (lCons (fBin pAdd (fVar 4) (fC (.int 1))) lNil))))
def K3_law_box : SSem := sSeq S3_law_box sNil
theorem U3_law_box {a : Dn.Slot} {l : Env'} : K3_law_box (a :: l) = sSeq S3_law_box sNil (a :: l) := rfl
def K2_law_box : SSem := sSeq S2_law_box K3_law_box
theorem U2_law_box {a : Dn.Slot} {l : Env'} : K2_law_box (a :: l) = sSeq S2_law_box K3_law_box (a :: l) := rfl
def K1_law_box : SSem := sSeq S1_law_box K2_law_box
theorem U1_law_box {a : Dn.Slot} {l : Env'} : K1_law_box (a :: l) = sSeq S1_law_box K2_law_box (a :: l) := rfl
def K0_law_box : SSem := sSeq S0_law_box K1_law_box
theorem U0_law_box {a : Dn.Slot} {l : Env'} : K0_law_box (a :: l) = sSeq S0_law_box K1_law_box (a :: l) := rfl
def b_law_box : SSem := K0_law_box
def f_law_box : List AV → T AV := fnOf 3 6 b_law_box
theorem S_law_box : FnScope N_law_box ["_law_script", "_law_k", "_law_own"] (defScope s_law_box) := ⟨rfl, rfl, rfl, by decide +kernel, rfl, by decide +kernel, by decide +kernel⟩
theorem l_law_box {C_TurnError : Addr} {C_InvalidMisses : Addr} {C_InvalidDays : Addr} (T : Bl mg) (ER : Ers K mg C_TurnError C_InvalidMisses C_InvalidDays) {f : Addr} {cdv : Value} {A : Around} {outer : List Env} {s : Shared} {H : Hp} {E : XK} (hr : Room 0 (A.deeper (envOfC "_law_box" (defScope s_law_box) s.heap.objs.size f cdv))) :
  JSs (cxOf (L2.CX P w) P w K mg base N_law_box "_law_box" (defScope s_law_box) f cdv A outer s H E) CT0 BB0 E (defBody s_law_box) b_law_box := by
  have S := S_law_box
  have h64 : (A.deeper (envOfC "_law_box" (defScope s_law_box) s.heap.objs.size f cdv)).units + 64 < cLine := by
    have := hr.un
    omega
  have h65 : (A.deeper (envOfC "_law_box" (defScope s_law_box) s.heap.objs.size f cdv)).units + 65 < cLine := by
    have := hr.un
    omega
  have h1 : (A.deeper (envOfC "_law_box" (defScope s_law_box) s.heap.objs.size f cdv)).units + 1 < cLine := by
    have := hr.un
    omega
  refine js_cons ?_ (js_cons ?_ (js_cons ?_ (js_cons ?_ js_nil)))
  · exact (js_set 3 (j_ifExp (jt_cmp op_lt o_lt.op (j_var 1) (j_callB call_len o_len (by rfl) T.n_len (by decide +kernel) (j_var 0)) (nomark _)) (j_callB call_abs o_abs (by rfl) T.n_abs (by decide +kernel) (j_ix (j_var 0) (j_var 1))) j_int) S.nd)
  · exact (js_set 4 (j_bin' op_addA o_add (j_bin' op_addA o_add (j_bin' op_mulA o_mul j_int (j_var 2)) (j_bin' op_mulA o_mul j_int (j_var 1))) j_int) S.nd)
  · refine js_for passOwnB (by rfl) (ji_seq (j_sl (j_var 0) jo_none (jo_some j_int))) (jg_name 5 S.nd) ?_
    refine js_cons ?_ js_nil
    · exact (js_set 4 (j_bin op_mod o_mod (j_callTy call_int1 o_int (by rfl) T.n_int (by decide +kernel) (j_bin' op_addA o_add (j_bin' op_addA o_add (j_bin' op_mulA o_mul (j_var 4) j_int) (j_bin op_mod o_mod (j_callB call_abs o_abs (by rfl) T.n_abs (by decide +kernel) (j_var 5)) j_int)) (j_var 1))) j_int) S.nd)
  · exact (js_retBox testB_ok (jn_lst (jl_cons (j_ifExp (jt_cmp op_ge o_ge.op (j_var 3) (j_bin op_pow o_pow j_int j_int) (nomark _)) (j_var 3) j_int) (jl_cons (j_bin' op_addA o_add (j_var 4) j_int) jl_nil))))
theorem d_law_box {C_TurnError : Addr} {C_InvalidMisses : Addr} {C_InvalidDays : Addr} {fa : Addr} {fd : FuncData} (F : Fun K "_law_box" "_law_box" s_law_box fa fd) (h1 : mg "_law_box" = some (.ref fa)) (h2 : PySem.W.keepIn K (.ref fa) = true) (b : Binds K fd ["_law_script", "_law_k", "_law_own"] []) (T : Bl mg) (ER : Ers K mg C_TurnError C_InvalidMisses C_InvalidDays) : Df P w K mg base CT0 BB0 1 "_law_box" 3 ["_law_script", "_law_k", "_law_own"] f_law_box :=
  ⟨⟨fa, fd, fn_def (N := N_law_box) (ps := ["_law_script", "_law_k", "_law_own"]) (k := 0) (body := b_law_box) F S_law_box (by decide) fun _ _ _ _ _ _ hr => l_law_box T ER  hr, h1, h2, b⟩, fnOf_len⟩
theorem scTake : FnScope ["_law_box_here", "_law_limit", "_law_digit"] ["_law_box_here", "_law_limit"] (defScope s_law_take) := ⟨rfl, rfl, rfl, by decide +kernel, rfl, by decide +kernel, by decide +kernel⟩
theorem ok_take {f : Addr} {fd : FuncData} (F : Fun K "_law_take" "_law_take" s_law_take f fd) (T : Bl mg) : FnOk P w K mg base CX0 1 f fd ["_law_box_here", "_law_limit"] (spDraw okB) := by
  refine F.ok scTake (fun vs H Q E h => ?_) (fun cdv A outer s H vs Q E hr h => ?_)
  · obtain ⟨D, b, l, rfl, _⟩ := h
    rfl
  · obtain ⟨D, b, l, rfl, hD, ⟨c, s, rfl, hc0, hs0, hs1⟩, hb, hb2, q⟩ := h
    refine ⟨_, pss_cons (ps_if (pt_cmpR op_gt (pe_ix ix_list (pv 0) pe_int (fun _ _ => rfl)) pe_int (nomark _))
        (pss_cons (ps_set (i := 2) scTake.nd rfl (.inl rfl) (pe_op op_mod (pe_callTy call_int1 (by rfl) T.n_int (by decide +kernel) (pa_cons (pe_ix ix_list (pv 0) pe_int (fun _ _ => rfl)) pa_nil)) (pv 1)))
        (pss_cons (ps_asg (pe_op op_fdivW (pe_ix ix_list (pv 0) pe_int (fun _ _ => rfl)) (pv 1)) (pg_sub (pv 0) pe_int set_list))
        (pss_one (ps_ret (pv 2))))) pss_nil)
      (pss_cons (ps_asg (pe_op op_mod (pe_callTy call_int1 (by rfl) T.n_int (by decide +kernel) (pa_cons (pe_op op_add (pe_op op_mul (pe_ix ix_list (pv 0) pe_int (fun _ _ => rfl)) pe_int) pe_int) pa_nil)) pe_int) (pg_sub (pv 0) pe_int set_list))
      (pss_one (ps_ret (pe_op op_mod (pe_callTy call_int1 (by rfl) T.n_int (by decide +kernel) (pa_cons (pe_op op_fdiv (pe_ix ix_list (pv 0) pe_int (fun _ _ => rfl)) pe_int) pa_nil)) (pv 1))))), ?_⟩
    have hbp : (0 : Int) < b := by omega
    refine ⟨_, rfl, D, [.int c, .int s], 0, .int c, rfl, rfl, SqL.of hD, rfl, _, _, rfl, rfl, _, rfl, ?_⟩
    by_cases hc : 0 < c
    · rw [decide_eq_true hc]
      refine iteT ⟨_, rfl, D, [.int c, .int s], 0, .int c, rfl, rfl, SqL.of hD, rfl, .inl ⟨_, rfl, _, rfl, _, _, rfl, rfl, hbp, ?_⟩⟩
      refine ⟨_, rfl, D, [.int c, .int s], 0, .int c, rfl, rfl, SqL.of hD, rfl, _, rfl, _, _, rfl, rfl, wide_div (b := 64) hbp (by omega) (by decide) (by decide), ?_⟩
      refine ⟨_, rfl, D, [.int c, .int s], 0, 0, rfl, rfl, hD, rfl, _, rfl, ?_⟩
      exact q (c % b) [.int (c / b), .int s] (Int.emod_nonneg _ (by omega)) (Int.emod_lt_of_pos _ hbp) ⟨_, _, rfl, Int.ediv_nonneg hc0 (by omega), hs0, hs1⟩
    · rw [decide_eq_false hc]
      refine iteF ?_
      have r0 := Int.emod_nonneg (s * 48271 + 40031) (by decide : (2147483647 : Int) ≠ 0)
      have r1 := Int.emod_lt_of_pos (s * 48271 + 40031) (by decide : (0 : Int) < 2147483647)
      refine ⟨_, rfl, D, [.int c, .int s], 1, .int s, rfl, rfl, SqL.of hD, rfl, _, _, rfl, rfl, .inr ⟨by decide, by decide⟩, _, _, rfl, rfl, .inl ⟨_, rfl, _, _, rfl, rfl, (by decide : (0 : Int) < 2147483647), ?_⟩⟩
      refine ⟨_, rfl, D, [.int c, .int s], 1, 1, rfl, rfl, hD, rfl, ?_⟩
      have h2 : (upd H D (.lst ([V.int c, .int s].set 1 (.int ((s * 48271 + 40031) % 2147483647))))) D = some (.lst [.int c, .int ((s * 48271 + 40031) % 2147483647)]) := upd_same
      refine ⟨_, rfl, D, [.int c, .int ((s * 48271 + 40031) % 2147483647)], 1, .int ((s * 48271 + 40031) % 2147483647), rfl, rfl, SqL.of h2, rfl, _, _, rfl, rfl, ⟨by decide, by decide⟩, .inl ⟨_, rfl, _, rfl, _, _, rfl, rfl, hbp, ?_⟩⟩
      exact q _ [.int c, .int ((s * 48271 + 40031) % 2147483647)] (Int.emod_nonneg _ (by omega)) (Int.emod_lt_of_pos _ hbp) ⟨_, _, rfl, hc0, r0, by omega⟩
abbrev N_law_days : List Str := ["_law_box_here", "_law_period", "_law_most", "_law_found", "_law_turn", "_law_day"]
def S1f0_law_days : SSem := (sSet 5 (fCall f_law_take [] (lCons (fVar 0) (lCons (fVar 1) lNil))))
def S1f1_law_days : SSem := (sExpr (fExtend 3 (fIf (fBlT (fBin pNotIn (fVar 5) (fVar 3))) (fNew (nLst (lCons (fVar 5) lNil))) (fNew (nLst lNil)))))
def K1f1_law_days : SSem := sSeq S1f1_law_days sNil
theorem U1f1_law_days {a : Dn.Slot} {l : Env'} : K1f1_law_days (a :: l) = sSeq S1f1_law_days sNil (a :: l) := rfl
def K1f0_law_days : SSem := sSeq S1f0_law_days K1f1_law_days
theorem U1f0_law_days {a : Dn.Slot} {l : Env'} : K1f0_law_days (a :: l) = sSeq S1f0_law_days K1f1_law_days (a :: l) := rfl
def S0_law_days : SSem := (sSetN 3 (nLst lNil))
def S1_law_days : SSem := (sFor (iRange1 (fBin pAdd (fC (.int 1)) (fCall f_law_take [] (lCons (fVar 0) (lCons (fVar 2) lNil))))) (tgName 4) K1f0_law_days)
def S2_law_days : SSem := (sRet (fVar 3))
def K2_law_days : SSem := sSeq S2_law_days sNil
theorem U2_law_days {a : Dn.Slot} {l : Env'} : K2_law_days (a :: l) = sSeq S2_law_days sNil (a :: l) := rfl
def K1_law_days : SSem := sSeq S1_law_days K2_law_days
theorem U1_law_days {a : Dn.Slot} {l : Env'} : K1_law_days (a :: l) = sSeq S1_law_days K2_law_days (a :: l) := rfl
def K0_law_days : SSem := sSeq S0_law_days K1_law_days
theorem U0_law_days {a : Dn.Slot} {l : Env'} : K0_law_days (a :: l) = sSeq S0_law_days K1_law_days (a :: l) := rfl
def b_law_days : SSem := K0_law_days
def f_law_days : List AV → T AV := fnOf 3 6 b_law_days
theorem S_law_days : FnScope N_law_days ["_law_box_here", "_law_period", "_law_most"] (defScope s_law_days) := ⟨rfl, rfl, rfl, by decide +kernel, rfl, by decide +kernel, by decide +kernel⟩
theorem l_law_days {C_TurnError : Addr} {C_InvalidMisses : Addr} {C_InvalidDays : Addr} (T : Bl mg) (ER : Ers K mg C_TurnError C_InvalidMisses C_InvalidDays) (D_law_take : Df P w K mg base CT0 BB0 1 "_law_take" 2 ["_law_box_here", "_law_limit"] f_law_take) {f : Addr} {cdv : Value} {A : Around} {outer : List Env} {s : Shared} {H : Hp} {E : XK} (hr : Room 1 (A.deeper (envOfC "_law_days" (defScope s_law_days) s.heap.objs.size f cdv))) :
  JSs (cxOf (L2.CX P w) P w K mg base N_law_days "_law_days" (defScope s_law_days) f cdv A outer s H E) CT0 BB0 E (defBody s_law_days) b_law_days := by
  have S := S_law_days
  have h64 : (A.deeper (envOfC "_law_days" (defScope s_law_days) s.heap.objs.size f cdv)).units + 64 < cLine := by
    have := hr.un
    omega
  have h65 : (A.deeper (envOfC "_law_days" (defScope s_law_days) s.heap.objs.size f cdv)).units + 65 < cLine := by
    have := hr.un
    omega
  have h1 : (A.deeper (envOfC "_law_days" (defScope s_law_days) s.heap.objs.size f cdv)).units + 1 < cLine := by
    have := hr.un
    omega
  refine js_cons ?_ (js_cons ?_ (js_cons ?_ js_nil))
  · exact (js_setN 3 (jn_lst jl_nil) S.nd)
  · refine js_for passOwnB (by rfl) (ji_range1 (by rfl) T.n_range (j_bin' op_addA o_add j_int (j_callD (lv := 1) D_law_take (hr.mono (by decide)) passB (jl_cons (j_var 0) (jl_cons (j_var 2) jl_nil))))) (jg_name 4 S.nd) ?_
    refine js_cons ?_ (js_cons ?_ js_nil)
    · exact (js_set 5 (j_callD (lv := 1) D_law_take (hr.mono (by decide)) passB (jl_cons (j_var 0) (jl_cons (j_var 1) jl_nil))) S.nd)
    · exact (js_expr (j_extend 3 (j_ifExp (jt_cmp ((op_notInD h65).or (op_notInT h65)) o_notIn.op (j_var 5) (j_var 3) rfl) (j_new (jn_lst (jl_cons (j_var 5) jl_nil))) (j_new (jn_lst jl_nil))) (fun te he => pe_bm PySem.F.plainAttrs_list PySem.F.slot_list_extend PySem.F.type_list_extend mt_extend (pv 3) (pa_cons he pa_nil))))
  · exact (js_ret (j_var 3))
theorem d_law_days {C_TurnError : Addr} {C_InvalidMisses : Addr} {C_InvalidDays : Addr} {fa : Addr} {fd : FuncData} (F : Fun K "_law_days" "_law_days" s_law_days fa fd) (h1 : mg "_law_days" = some (.ref fa)) (h2 : PySem.W.keepIn K (.ref fa) = true) (b : Binds K fd ["_law_box_here", "_law_period", "_law_most"] []) (T : Bl mg) (ER : Ers K mg C_TurnError C_InvalidMisses C_InvalidDays) (D_law_take : Df P w K mg base CT0 BB0 1 "_law_take" 2 ["_law_box_here", "_law_limit"] f_law_take) : Df P w K mg base CT0 BB0 2 "_law_days" 3 ["_law_box_here", "_law_period", "_law_most"] f_law_days :=
  ⟨⟨fa, fd, fn_def (N := N_law_days) (ps := ["_law_box_here", "_law_period", "_law_most"]) (k := 1) (body := b_law_days) F S_law_days (by decide) fun _ _ _ _ _ _ hr => l_law_days T ER D_law_take hr, h1, h2, b⟩, fnOf_len⟩
abbrev N_law_pick : List Str := ["_law_box_here", "_law_some"]
def S0_law_pick : SSem := (sRet (fBin pIx (fVar 1) (fCall f_law_take [] (lCons (fVar 0) (lCons (fUn pLen (fVar 1)) lNil)))))
def K0_law_pick : SSem := sSeq S0_law_pick sNil
theorem U0_law_pick {a : Dn.Slot} {l : Env'} : K0_law_pick (a :: l) = sSeq S0_law_pick sNil (a :: l) := rfl
def b_law_pick : SSem := K0_law_pick
def f_law_pick : List AV → T AV := fnOf 2 2 b_law_pick
theorem S_law_pick : FnScope N_law_pick ["_law_box_here", "_law_some"] (defScope s_law_pick) := ⟨rfl, rfl, rfl, by decide +kernel, rfl, by decide +kernel, by decide +kernel⟩
theorem l_law_pick {C_TurnError : Addr} {C_InvalidMisses : Addr} {C_InvalidDays : Addr} (T : Bl mg) (ER : Ers K mg C_TurnError C_InvalidMisses C_InvalidDays) (D_law_take : Df P w K mg base CT0 BB0 1 "_law_take" 2 ["_law_box_here", "_law_limit"] f_law_take) {f : Addr} {cdv : Value} {A : Around} {outer : List Env} {s : Shared} {H : Hp} {E : XK} (hr : Room 1 (A.deeper (envOfC "_law_pick" (defScope s_law_pick) s.heap.objs.size f cdv))) :
  JSs (cxOf (L2.CX P w) P w K mg base N_law_pick "_law_pick" (defScope s_law_pick) f cdv A outer s H E) CT0 BB0 E (defBody s_law_pick) b_law_pick := by
  have S := S_law_pick
  have h64 : (A.deeper (envOfC "_law_pick" (defScope s_law_pick) s.heap.objs.size f cdv)).units + 64 < cLine := by
    have := hr.un
    omega
  have h65 : (A.deeper (envOfC "_law_pick" (defScope s_law_pick) s.heap.objs.size f cdv)).units + 65 < cLine := by
    have := hr.un
    omega
  have h1 : (A.deeper (envOfC "_law_pick" (defScope s_law_pick) s.heap.objs.size f cdv)).units + 1 < cLine := by
    have := hr.un
    omega
  refine js_cons ?_ js_nil
  · exact (js_ret (j_ix (j_var 1) (j_callD (lv := 1) D_law_take (hr.mono (by decide)) passB (jl_cons (j_var 0) (jl_cons (j_callB call_len o_len (by rfl) T.n_len (by decide +kernel) (j_var 1)) jl_nil)))))
theorem d_law_pick {C_TurnError : Addr} {C_InvalidMisses : Addr} {C_InvalidDays : Addr} {fa : Addr} {fd : FuncData} (F : Fun K "_law_pick" "_law_pick" s_law_pick fa fd) (h1 : mg "_law_pick" = some (.ref fa)) (h2 : PySem.W.keepIn K (.ref fa) = true) (b : Binds K fd ["_law_box_here", "_law_some"] []) (T : Bl mg) (ER : Ers K mg C_TurnError C_InvalidMisses C_InvalidDays) (D_law_take : Df P w K mg base CT0 BB0 1 "_law_take" 2 ["_law_box_here", "_law_limit"] f_law_take) : Df P w K mg base CT0 BB0 2 "_law_pick" 2 ["_law_box_here", "_law_some"] f_law_pick :=
  ⟨⟨fa, fd, fn_def (N := N_law_pick) (ps := ["_law_box_here", "_law_some"]) (k := 1) (body := b_law_pick) F S_law_pick (by decide) fun _ _ _ _ _ _ hr => l_law_pick T ER D_law_take hr, h1, h2, b⟩, fnOf_len⟩
abbrev N_law_heard : List Str := ["_law_work", "_law_found", "e"]
theorem S_law_heard : FnScope N_law_heard ["_law_work"] (defScope s_law_heard) := ⟨rfl, rfl, rfl, by decide +kernel, rfl, by decide +kernel, by decide +kernel⟩
theorem hw_law_heard {X : Cx} {C_TurnError : Addr} {C_InvalidMisses : Addr} {C_InvalidDays : Addr} (ER : Ers X.K X.mg C_TurnError C_InvalidMisses C_InvalidDays) (T : Bl X.mg) : ∀ (k : Nat) (xs : List AV) (us : List V) (g : Dn.G) (H : Hp) (C a : Addr) (d : Option Addr) (t : AV) (σ' : L2.St) (D : Ends), sb_InvalidDays k = true → (hvE "odd" (fun _ => true) (fun _ => false)) k xs = some t → X.mg (CT0 k).1 = some (.ref C) → DOk H d (CT0 k).2 us → us.length = (CT0 k).2.length → RepsG (gc X CT0) g H xs us → σ'.length = 3 →
    (∀ v, RepG (gc X CT0) g H t v → D.nx ((σ'.set 2 (some (.ref a))).set 1 (some v)) H) → tsE X.K 2 1 C_TurnError C_InvalidMisses "at" "odd" a (.ref C) d D (σ'.set 2 (some (.ref a))) H := fun k xs us g H C a d t σ' D hk ev hm hd hl rx l3 h => by
  obtain rfl : k = 0 := beq_iff_eq.mp hk
  have e : some (Value.ref C_InvalidDays) = some (Value.ref C) := ER.e_InvalidDays.mgC.symm.trans hm
  cases e
  exact tsE_ok (c0 := gc X CT0) (kit_of ER.e_TurnError ER.s_InvalidDays_TurnError (by intro z; cases z)) (kit_of ER.e_InvalidMisses ER.s_InvalidDays_InvalidMisses (fun _ => ER.n_InvalidDays_InvalidMisses)) ER.x_InvalidDays.ex ER.e_InvalidDays.clI ER.x_InvalidDays.xf ER.x_InvalidDays.no rfl ev hd hl rx l3 h
theorem gw_law_heard {X : Cx} {C_TurnError : Addr} {C_InvalidMisses : Addr} {C_InvalidDays : Addr} (ER : Ers X.K X.mg C_TurnError C_InvalidMisses C_InvalidDays) (T : Bl X.mg) {q : Str} (hr : Room 2 X.A) : ∀ (g : Addr) (cdv : Value), GivesW X N_law_heard "_law_heard" (defScope s_law_heard) g cdv (defBody s_law_heard) "_law_work" q (TTy X.K C_InvalidDays (.str "let") (tsE X.K 2 1 C_TurnError C_InvalidMisses "at" "odd") N_law_heard) := fun g cdv =>
  gives_try S_law_heard.nd (by intro f; rfl) (by rfl) (by rfl) (by rfl) (by rfl) (by rfl) ER.e_InvalidDays.mgC (by decide +kernel) (by decide +kernel) (by decide +kernel) (fun _ => pe_str) (by intros; rfl) (by intros; rfl) (fun s H a oe cls d pn hz hf => pss_handE (X := (Zc2 X N_law_heard "_law_heard" (defScope s_law_heard) g cdv s H).nox) (i := 2) (j := 1) hz hf S_law_heard.nd (by rfl) (by rfl) (by first | exact Or.inl rfl | exact Or.inr (Or.inl rfl) | exact Or.inr (Or.inr rfl)) (by first | exact Or.inl rfl | exact Or.inr rfl) (by first | exact .inl rfl | exact .inr rfl) (by rfl) T.n_isinstance (by rfl) ER.e_TurnError.mgC (by rfl) ER.e_InvalidMisses.mgC (by decide +kernel) (by decide +kernel) (by decide +kernel) (by decide +kernel) (by intros; rfl) (by intros; rfl))
abbrev N_far_item : List Str := ["row", "period", "at", "rounds", "rest"]
def S0_far_item : SSem := (sAsg (fBin pDivmod (fVar 2) (fUn pLen (fVar 0))) (tgTup 2 (tgCons (tgName 3) (tgCons (tgName 4) tgNil))))
def S1_far_item : SSem := (sRet (fBin pAdd (fBin pMul (fVar 3) (fVar 1)) (fBin pIx (fVar 0) (fVar 4))))
def K1_far_item : SSem := sSeq S1_far_item sNil
theorem U1_far_item {a : Dn.Slot} {l : Env'} : K1_far_item (a :: l) = sSeq S1_far_item sNil (a :: l) := rfl
def K0_far_item : SSem := sSeq S0_far_item K1_far_item
theorem U0_far_item {a : Dn.Slot} {l : Env'} : K0_far_item (a :: l) = sSeq S0_far_item K1_far_item (a :: l) := rfl
def b_far_item : SSem := K0_far_item
def f_far_item : List AV → T AV := fnOf 3 5 b_far_item
theorem S_far_item : FnScope N_far_item ["row", "period", "at"] (defScope s_far_item) := ⟨rfl, rfl, rfl, by decide +kernel, rfl, by decide +kernel, by decide +kernel⟩
theorem l_far_item {C_TurnError : Addr} {C_InvalidMisses : Addr} {C_InvalidDays : Addr} (T : Bl mg) (ER : Ers K mg C_TurnError C_InvalidMisses C_InvalidDays) {f : Addr} {cdv : Value} {A : Around} {outer : List Env} {s : Shared} {H : Hp} {E : XK} (hr : Room 0 (A.deeper (envOfC "far_item" (defScope s_far_item) s.heap.objs.size f cdv))) :
  JSs (cxOf (L2.CX P w) P w K mg base N_far_item "far_item" (defScope s_far_item) f cdv A outer s H E) CT0 BB0 E (defBody s_far_item) b_far_item := by
  have S := S_far_item
  have h64 : (A.deeper (envOfC "far_item" (defScope s_far_item) s.heap.objs.size f cdv)).units + 64 < cLine := by
    have := hr.un
    omega
  have h65 : (A.deeper (envOfC "far_item" (defScope s_far_item) s.heap.objs.size f cdv)).units + 65 < cLine := by
    have := hr.un
    omega
  have h1 : (A.deeper (envOfC "far_item" (defScope s_far_item) s.heap.objs.size f cdv)).units + 1 < cLine := by
    have := hr.un
    omega
  refine js_cons ?_ (js_cons ?_ js_nil)
  · exact (js_asg (j_callB2 call_divmod o_divmod (by rfl) T.n_divmod (by decide +kernel) (j_var 2) (j_callB call_len o_len (by rfl) T.n_len (by decide +kernel) (j_var 0))) (jg_tup (by rfl) (jg_cons (jg_name 3 S.nd) (jg_cons (jg_name 4 S.nd) jg_nil))))
  · exact (js_ret (j_bin' op_addA o_add (j_bin' op_mulA o_mul (j_var 3) (j_var 1)) (j_ix (j_var 0) (j_var 4))))
theorem d_far_item {C_TurnError : Addr} {C_InvalidMisses : Addr} {C_InvalidDays : Addr} {fa : Addr} {fd : FuncData} (F : Fun K "far_item" "far_item" s_far_item fa fd) (h1 : mg "far_item" = some (.ref fa)) (h2 : PySem.W.keepIn K (.ref fa) = true) (b : Binds K fd ["row", "period", "at"] []) (T : Bl mg) (ER : Ers K mg C_TurnError C_InvalidMisses C_InvalidDays) : Df P w K mg base CT0 BB0 1 "far_item" 3 ["row", "period", "at"] f_far_item :=
  ⟨⟨fa, fd, fn_def (N := N_far_item) (ps := ["row", "period", "at"]) (k := 0) (body := b_far_item) F S_far_item (by decide) fun _ _ _ _ _ _ hr => l_far_item T ER  hr, h1, h2, b⟩, fnOf_len⟩
abbrev N_widest_gap : List Str := ["days", "period", "misses", "at", "day"]
def C0_widest_gap : SemN := nLc [3, 4] (iEnum (fVar 0)) (tgTup 2 (tgCons (tgName 3) (tgCons (tgName 4) tgNil))) fYes (fBin pSub (fCall f_far_item [] (lCons (fVar 0) (lCons (fVar 1) (lCons (fBin pAdd (fBin pAdd (fVar 3) (fVar 2)) (fC (.int 1))) lNil)))) (fVar 4))
def S0_widest_gap : SSem := (sRet (fUn pMax1 (fNew C0_widest_gap)))
def K0_widest_gap : SSem := sSeq S0_widest_gap sNil
theorem U0_widest_gap {a : Dn.Slot} {l : Env'} : K0_widest_gap (a :: l) = sSeq S0_widest_gap sNil (a :: l) := rfl
def b_widest_gap : SSem := K0_widest_gap
def f_widest_gap : List AV → T AV := fnOf 3 5 b_widest_gap
theorem S_widest_gap : FnScope N_widest_gap ["days", "period", "misses"] (defScope s_widest_gap) := ⟨rfl, rfl, rfl, by decide +kernel, rfl, by decide +kernel, by decide +kernel⟩
theorem l_widest_gap {C_TurnError : Addr} {C_InvalidMisses : Addr} {C_InvalidDays : Addr} (T : Bl mg) (ER : Ers K mg C_TurnError C_InvalidMisses C_InvalidDays) (D_far_item : Df P w K mg base CT0 BB0 1 "far_item" 3 ["row", "period", "at"] f_far_item) {f : Addr} {cdv : Value} {A : Around} {outer : List Env} {s : Shared} {H : Hp} {E : XK} (hr : Room 1 (A.deeper (envOfC "widest_gap" (defScope s_widest_gap) s.heap.objs.size f cdv))) :
  JSs (cxOf (L2.CX P w) P w K mg base N_widest_gap "widest_gap" (defScope s_widest_gap) f cdv A outer s H E) CT0 BB0 E (defBody s_widest_gap) b_widest_gap := by
  have S := S_widest_gap
  have h64 : (A.deeper (envOfC "widest_gap" (defScope s_widest_gap) s.heap.objs.size f cdv)).units + 64 < cLine := by
    have := hr.un
    omega
  have h65 : (A.deeper (envOfC "widest_gap" (defScope s_widest_gap) s.heap.objs.size f cdv)).units + 65 < cLine := by
    have := hr.un
    omega
  have h1 : (A.deeper (envOfC "widest_gap" (defScope s_widest_gap) s.heap.objs.size f cdv)).units + 1 < cLine := by
    have := hr.un
    omega
  refine js_cons ?_ js_nil
  · exact (js_ret (j_callB (cr_max rfl) o_max1 (by rfl) T.n_max (by decide +kernel) (j_new (jn_lc (own := [("at", 3), ("day", 4)]) (by rfl) S.nd (blkOk_by (N := N_widest_gap) (sc := defScope s_widest_gap) (by decide +kernel)) (by decide) (ji_enumA (by rfl) T.n_enumerate (j_var 0)) (fun _ _ _ _ _ => (jg_tup (by rfl) (jg_cons (jg_name 3 S.nd) (jg_cons (jg_name 4 S.nd) jg_nil)))) (fun _ _ _ _ _ => jts_nil) (fun _ _ _ _ _ => (j_bin op_sub o_sub (j_callD (lv := 1) D_far_item (hr.mono (by decide)) passE0 (jl_cons (j_var 0) (jl_cons (j_var 1) (jl_cons (j_bin' op_addA o_add (j_bin' op_addA o_add (j_var 3) (j_var 2)) j_int) jl_nil)))) (j_var 4)))))))
theorem d_widest_gap {C_TurnError : Addr} {C_InvalidMisses : Addr} {C_InvalidDays : Addr} {fa : Addr} {fd : FuncData} (F : Fun K "widest_gap" "widest_gap" s_widest_gap fa fd) (h1 : mg "widest_gap" = some (.ref fa)) (h2 : PySem.W.keepIn K (.ref fa) = true) (b : Binds K fd ["days", "period", "misses"] []) (T : Bl mg) (ER : Ers K mg C_TurnError C_InvalidMisses C_InvalidDays) (D_far_item : Df P w K mg base CT0 BB0 1 "far_item" 3 ["row", "period", "at"] f_far_item) : Df P w K mg base CT0 BB0 2 "widest_gap" 3 ["days", "period", "misses"] f_widest_gap :=
  ⟨⟨fa, fd, fn_def (N := N_widest_gap) (ps := ["days", "period", "misses"]) (k := 1) (body := b_widest_gap) F S_widest_gap (by decide) fun _ _ _ _ _ _ hr => l_widest_gap T ER D_far_item hr, h1, h2, b⟩, fnOf_len⟩
abbrev N_is_sequence : List Str := ["value"]
def S0_is_sequence : SSem := (sRet (fUn (pIsi2 "list" "tuple") (fVar 0)))
def K0_is_sequence : SSem := sSeq S0_is_sequence sNil
theorem U0_is_sequence {a : Dn.Slot} {l : Env'} : K0_is_sequence (a :: l) = sSeq S0_is_sequence sNil (a :: l) := rfl
def b_is_sequence : SSem := K0_is_sequence
def f_is_sequence : List AV → T AV := fnOf 1 1 b_is_sequence
theorem S_is_sequence : FnScope N_is_sequence ["value"] (defScope s_is_sequence) := ⟨rfl, rfl, rfl, by decide +kernel, rfl, by decide +kernel, by decide +kernel⟩
theorem l_is_sequence {C_TurnError : Addr} {C_InvalidMisses : Addr} {C_InvalidDays : Addr} (T : Bl mg) (ER : Ers K mg C_TurnError C_InvalidMisses C_InvalidDays) {f : Addr} {cdv : Value} {A : Around} {outer : List Env} {s : Shared} {H : Hp} {E : XK} (hr : Room 0 (A.deeper (envOfC "is_sequence" (defScope s_is_sequence) s.heap.objs.size f cdv))) :
  JSs (cxOf (L2.CX P w) P w K mg base N_is_sequence "is_sequence" (defScope s_is_sequence) f cdv A outer s H E) CT0 BB0 E (defBody s_is_sequence) b_is_sequence := by
  have S := S_is_sequence
  have h64 : (A.deeper (envOfC "is_sequence" (defScope s_is_sequence) s.heap.objs.size f cdv)).units + 64 < cLine := by
    have := hr.un
    omega
  have h65 : (A.deeper (envOfC "is_sequence" (defScope s_is_sequence) s.heap.objs.size f cdv)).units + 65 < cLine := by
    have := hr.un
    omega
  have h1 : (A.deeper (envOfC "is_sequence" (defScope s_is_sequence) s.heap.objs.size f cdv)).units + 1 < cLine := by
    have := hr.un
    omega
  refine js_cons ?_ js_nil
  · exact (js_ret (j_isi2 kinds_list kinds_tuple (by rfl) T.n_isinstance (by rfl) T.n_list (by decide +kernel) (by rfl) T.n_tuple (by decide +kernel) (j_var 0)))
theorem d_is_sequence {C_TurnError : Addr} {C_InvalidMisses : Addr} {C_InvalidDays : Addr} {fa : Addr} {fd : FuncData} (F : Fun K "is_sequence" "is_sequence" s_is_sequence fa fd) (h1 : mg "is_sequence" = some (.ref fa)) (h2 : PySem.W.keepIn K (.ref fa) = true) (b : Binds K fd ["value"] []) (T : Bl mg) (ER : Ers K mg C_TurnError C_InvalidMisses C_InvalidDays) : Df P w K mg base CT0 BB0 1 "is_sequence" 1 ["value"] f_is_sequence :=
  ⟨⟨fa, fd, fn_def (N := N_is_sequence) (ps := ["value"]) (k := 0) (body := b_is_sequence) F S_is_sequence (by decide) fun _ _ _ _ _ _ hr => l_is_sequence T ER  hr, h1, h2, b⟩, fnOf_len⟩
abbrev N_is_integer : List Str := ["value"]
def b_is_integer : SSem := (sSeq (sRet (fAnd (fUn (pIsi "int") (fVar 0)) (fNot (fUn (pIsi "bool") (fVar 0)))))
  sNil)
def f_is_integer : List AV → T AV := fnOf 1 1 b_is_integer
theorem S_is_integer : FnScope N_is_integer ["value"] (defScope s_is_integer) := ⟨rfl, rfl, rfl, by decide +kernel, rfl, by decide +kernel, by decide +kernel⟩
theorem l_is_integer {C_TurnError : Addr} {C_InvalidMisses : Addr} {C_InvalidDays : Addr} (T : Bl mg) (ER : Ers K mg C_TurnError C_InvalidMisses C_InvalidDays) {f : Addr} {cdv : Value} {A : Around} {outer : List Env} {s : Shared} {H : Hp} {E : XK} (hr : Room 0 (A.deeper (envOfC "is_integer" (defScope s_is_integer) s.heap.objs.size f cdv))) :
  JSs (cxOf (L2.CX P w) P w K mg base N_is_integer "is_integer" (defScope s_is_integer) f cdv A outer s H E) CT0 BB0 E (defBody s_is_integer) b_is_integer := by
  have S := S_is_integer
  have h64 : (A.deeper (envOfC "is_integer" (defScope s_is_integer) s.heap.objs.size f cdv)).units + 64 < cLine := by
    have := hr.un
    omega
  have h65 : (A.deeper (envOfC "is_integer" (defScope s_is_integer) s.heap.objs.size f cdv)).units + 65 < cLine := by
    have := hr.un
    omega
  have h1 : (A.deeper (envOfC "is_integer" (defScope s_is_integer) s.heap.objs.size f cdv)).units + 1 < cLine := by
    have := hr.un
    omega
  refine js_cons ?_ js_nil
  · exact (js_ret (j_and (j_isi kinds_int (by rfl) T.n_isinstance (by rfl) T.n_int (by decide +kernel) (j_var 0)) (j_one (j_not (j_isi kinds_bool (by rfl) T.n_isinstance (by rfl) T.n_bool (by decide +kernel) (j_var 0))))))
theorem d_is_integer {C_TurnError : Addr} {C_InvalidMisses : Addr} {C_InvalidDays : Addr} {fa : Addr} {fd : FuncData} (F : Fun K "is_integer" "is_integer" s_is_integer fa fd) (h1 : mg "is_integer" = some (.ref fa)) (h2 : PySem.W.keepIn K (.ref fa) = true) (b : Binds K fd ["value"] []) (T : Bl mg) (ER : Ers K mg C_TurnError C_InvalidMisses C_InvalidDays) : Df P w K mg base CT0 BB0 1 "is_integer" 1 ["value"] f_is_integer :=
  ⟨⟨fa, fd, fn_def (N := N_is_integer) (ps := ["value"]) (k := 0) (body := b_is_integer) F S_is_integer (by decide) fun _ _ _ _ _ _ hr => l_is_integer T ER  hr, h1, h2, b⟩, fnOf_len⟩
abbrev N_is_whole : List Str := ["value", "least"]
def b_is_whole : SSem := (sSeq (sRet (fAnd (fCall f_is_integer [] (lCons (fVar 0) lNil)) (fBin pGe (fVar 0) (fVar 1))))
  sNil)
def f_is_whole : List AV → T AV := fnOf 2 2 b_is_whole
theorem S_is_whole : FnScope N_is_whole ["value", "least"] (defScope s_is_whole) := ⟨rfl, rfl, rfl, by decide +kernel, rfl, by decide +kernel, by decide +kernel⟩
theorem l_is_whole {C_TurnError : Addr} {C_InvalidMisses : Addr} {C_InvalidDays : Addr} (T : Bl mg) (ER : Ers K mg C_TurnError C_InvalidMisses C_InvalidDays) (D_is_integer : Df P w K mg base CT0 BB0 1 "is_integer" 1 ["value"] f_is_integer) {f : Addr} {cdv : Value} {A : Around} {outer : List Env} {s : Shared} {H : Hp} {E : XK} (hr : Room 1 (A.deeper (envOfC "is_whole" (defScope s_is_whole) s.heap.objs.size f cdv))) :
  JSs (cxOf (L2.CX P w) P w K mg base N_is_whole "is_whole" (defScope s_is_whole) f cdv A outer s H E) CT0 BB0 E (defBody s_is_whole) b_is_whole := by
  have S := S_is_whole
  have h64 : (A.deeper (envOfC "is_whole" (defScope s_is_whole) s.heap.objs.size f cdv)).units + 64 < cLine := by
    have := hr.un
    omega
  have h65 : (A.deeper (envOfC "is_whole" (defScope s_is_whole) s.heap.objs.size f cdv)).units + 65 < cLine := by
    have := hr.un
    omega
  have h1 : (A.deeper (envOfC "is_whole" (defScope s_is_whole) s.heap.objs.size f cdv)).units + 1 < cLine := by
    have := hr.un
    omega
  refine js_cons ?_ js_nil
  · exact (js_ret (j_and (j_callD (lv := 1) D_is_integer (hr.mono (by decide)) passB (jl_cons (j_var 0) jl_nil)) (j_one (j_cmp op_ge o_ge.op (j_var 0) (j_var 1) (nomark _)))))
theorem d_is_whole {C_TurnError : Addr} {C_InvalidMisses : Addr} {C_InvalidDays : Addr} {fa : Addr} {fd : FuncData} (F : Fun K "is_whole" "is_whole" s_is_whole fa fd) (h1 : mg "is_whole" = some (.ref fa)) (h2 : PySem.W.keepIn K (.ref fa) = true) (b : Binds K fd ["value", "least"] []) (T : Bl mg) (ER : Ers K mg C_TurnError C_InvalidMisses C_InvalidDays) (D_is_integer : Df P w K mg base CT0 BB0 1 "is_integer" 1 ["value"] f_is_integer) : Df P w K mg base CT0 BB0 2 "is_whole" 2 ["value", "least"] f_is_whole :=
  ⟨⟨fa, fd, fn_def (N := N_is_whole) (ps := ["value", "least"]) (k := 1) (body := b_is_whole) F S_is_whole (by decide) fun _ _ _ _ _ _ hr => l_is_whole T ER D_is_integer hr, h1, h2, b⟩, fnOf_len⟩
abbrev N_is_below : List Str := ["value", "many"]
def b_is_below : SSem := (sSeq (sRet (fAnd (fCall f_is_whole [] (lCons (fVar 0) (lCons (fC (.int 0)) lNil))) (fBin pLt (fVar 0) (fVar 1))))
  sNil)
def f_is_below : List AV → T AV := fnOf 2 2 b_is_below
theorem S_is_below : FnScope N_is_below ["value", "many"] (defScope s_is_below) := ⟨rfl, rfl, rfl, by decide +kernel, rfl, by decide +kernel, by decide +kernel⟩
theorem l_is_below {C_TurnError : Addr} {C_InvalidMisses : Addr} {C_InvalidDays : Addr} (T : Bl mg) (ER : Ers K mg C_TurnError C_InvalidMisses C_InvalidDays) (D_is_whole : Df P w K mg base CT0 BB0 2 "is_whole" 2 ["value", "least"] f_is_whole) {f : Addr} {cdv : Value} {A : Around} {outer : List Env} {s : Shared} {H : Hp} {E : XK} (hr : Room 2 (A.deeper (envOfC "is_below" (defScope s_is_below) s.heap.objs.size f cdv))) :
  JSs (cxOf (L2.CX P w) P w K mg base N_is_below "is_below" (defScope s_is_below) f cdv A outer s H E) CT0 BB0 E (defBody s_is_below) b_is_below := by
  have S := S_is_below
  have h64 : (A.deeper (envOfC "is_below" (defScope s_is_below) s.heap.objs.size f cdv)).units + 64 < cLine := by
    have := hr.un
    omega
  have h65 : (A.deeper (envOfC "is_below" (defScope s_is_below) s.heap.objs.size f cdv)).units + 65 < cLine := by
    have := hr.un
    omega
  have h1 : (A.deeper (envOfC "is_below" (defScope s_is_below) s.heap.objs.size f cdv)).units + 1 < cLine := by
    have := hr.un
    omega
  refine js_cons ?_ js_nil
  · exact (js_ret (j_and (j_callD (lv := 2) D_is_whole (hr.mono (by decide)) passB (jl_cons (j_var 0) (jl_cons j_int jl_nil))) (j_one (j_cmp op_lt o_lt.op (j_var 0) (j_var 1) (nomark _)))))
theorem d_is_below {C_TurnError : Addr} {C_InvalidMisses : Addr} {C_InvalidDays : Addr} {fa : Addr} {fd : FuncData} (F : Fun K "is_below" "is_below" s_is_below fa fd) (h1 : mg "is_below" = some (.ref fa)) (h2 : PySem.W.keepIn K (.ref fa) = true) (b : Binds K fd ["value", "many"] []) (T : Bl mg) (ER : Ers K mg C_TurnError C_InvalidMisses C_InvalidDays) (D_is_whole : Df P w K mg base CT0 BB0 2 "is_whole" 2 ["value", "least"] f_is_whole) : Df P w K mg base CT0 BB0 3 "is_below" 2 ["value", "many"] f_is_below :=
  ⟨⟨fa, fd, fn_def (N := N_is_below) (ps := ["value", "many"]) (k := 2) (body := b_is_below) F S_is_below (by decide) fun _ _ _ _ _ _ hr => l_is_below T ER D_is_whole hr, h1, h2, b⟩, fnOf_len⟩
abbrev N_ring_days : List Str := ["days", "period", "found", "at", "day"]
def S0t0_ring_days : SSem := (sRaise 0 (lCons (fC (.int 0)) lNil))
def K0t0_ring_days : SSem := sSeq S0t0_ring_days sNil
theorem U0t0_ring_days {a : Dn.Slot} {l : Env'} : K0t0_ring_days (a :: l) = sSeq S0t0_ring_days sNil (a :: l) := rfl
def S2f0t0_ring_days : SSem := (sRaise 0 (lCons (fVar 3) lNil))
def K2f0t0_ring_days : SSem := sSeq S2f0t0_ring_days sNil
theorem U2f0t0_ring_days {a : Dn.Slot} {l : Env'} : K2f0t0_ring_days (a :: l) = sSeq S2f0t0_ring_days sNil (a :: l) := rfl
def S2f0_ring_days : SSem := (sIf (fOrT (fNotT (fTru (fCall f_is_below [] (lCons (fVar 4) (lCons (fVar 1) lNil))))) (tDin 2 (fVar 4))) K2f0t0_ring_days sNil)
def S2f1_ring_days : SSem := (sDput 2 (fVar 4) (fC (.bl true)))
def K2f1_ring_days : SSem := sSeq S2f1_ring_days sNil
theorem U2f1_ring_days {a : Dn.Slot} {l : Env'} : K2f1_ring_days (a :: l) = sSeq S2f1_ring_days sNil (a :: l) := rfl
def K2f0_ring_days : SSem := sSeq S2f0_ring_days K2f1_ring_days
theorem U2f0_ring_days {a : Dn.Slot} {l : Env'} : K2f0_ring_days (a :: l) = sSeq S2f0_ring_days K2f1_ring_days (a :: l) := rfl
def S0_ring_days : SSem := (sIf (fOrT (fNotT (fTru (fCall f_is_sequence [] (lCons (fVar 0) lNil)))) (fBlT (fBin pEq (fUn pLen (fVar 0)) (fC (.int 0))))) K0t0_ring_days sNil)
def S1_ring_days : SSem := (sDnew 2)
def S2_ring_days : SSem := (sFor (iEnum (fVar 0)) (tgTup 2 (tgCons (tgName 3) (tgCons (tgName 4) tgNil))) K2f0_ring_days)
def S3_ring_days : SSem := (sRet (fUn pSorted (fDlist 2)))
def K3_ring_days : SSem := sSeq S3_ring_days sNil
theorem U3_ring_days {a : Dn.Slot} {l : Env'} : K3_ring_days (a :: l) = sSeq S3_ring_days sNil (a :: l) := rfl
def K2_ring_days : SSem := sSeq S2_ring_days K3_ring_days
theorem U2_ring_days {a : Dn.Slot} {l : Env'} : K2_ring_days (a :: l) = sSeq S2_ring_days K3_ring_days (a :: l) := rfl
def K1_ring_days : SSem := sSeq S1_ring_days K2_ring_days
theorem U1_ring_days {a : Dn.Slot} {l : Env'} : K1_ring_days (a :: l) = sSeq S1_ring_days K2_ring_days (a :: l) := rfl
def K0_ring_days : SSem := sSeq S0_ring_days K1_ring_days
theorem U0_ring_days {a : Dn.Slot} {l : Env'} : K0_ring_days (a :: l) = sSeq S0_ring_days K1_ring_days (a :: l) := rfl
def b_ring_days : SSem := K0_ring_days
def f_ring_days : List AV → T AV := fnOf 2 5 b_ring_days
theorem S_ring_days : FnScope N_ring_days ["days", "period"] (defScope s_ring_days) := ⟨rfl, rfl, rfl, by decide +kernel, rfl, by decide +kernel, by decide +kernel⟩
theorem l_ring_days {C_TurnError : Addr} {C_InvalidMisses : Addr} {C_InvalidDays : Addr} (T : Bl mg) (ER : Ers K mg C_TurnError C_InvalidMisses C_InvalidDays) (D_is_sequence : Df P w K mg base CT0 BB0 1 "is_sequence" 1 ["value"] f_is_sequence) (D_InvalidDays : Er P w K mg base "InvalidDays" "at" C_InvalidDays) (D_is_below : Df P w K mg base CT0 BB0 3 "is_below" 2 ["value", "many"] f_is_below) {f : Addr} {cdv : Value} {A : Around} {outer : List Env} {s : Shared} {H : Hp} {E : XK} (hr : Room 3 (A.deeper (envOfC "ring_days" (defScope s_ring_days) s.heap.objs.size f cdv))) :
  JSs (cxOf (L2.CX P w) P w K mg base N_ring_days "ring_days" (defScope s_ring_days) f cdv A outer s H E) CT0 BB0 E (defBody s_ring_days) b_ring_days := by
  have S := S_ring_days
  have h64 : (A.deeper (envOfC "ring_days" (defScope s_ring_days) s.heap.objs.size f cdv)).units + 64 < cLine := by
    have := hr.un
    omega
  have h65 : (A.deeper (envOfC "ring_days" (defScope s_ring_days) s.heap.objs.size f cdv)).units + 65 < cLine := by
    have := hr.un
    omega
  have h1 : (A.deeper (envOfC "ring_days" (defScope s_ring_days) s.heap.objs.size f cdv)).units + 1 < cLine := by
    have := hr.un
    omega
  refine js_cons ?_ (js_cons ?_ (js_cons ?_ (js_cons ?_ js_nil)))
  · refine js_if (jw_pt (jw_or (jt_not (jt_truth (j_callD (lv := 1) D_is_sequence (hr.mono (by decide)) passB (jl_cons (j_var 0) jl_nil)))) (jw_or1 (jt_cmp (op_eqD h64) o_eq.op (j_callB call_len o_len (by rfl) T.n_len (by decide +kernel) (j_var 0)) j_int (nomark _))))) ?_ ?_
    · refine js_cons ?_ js_nil
      · exact (js_raiseE (c := 0) D_InvalidDays rfl (takes_of rfl rfl rfl rfl) (hr.mono (by decide)) (by rfl) (jl_cons j_int jl_nil))
    · exact js_nil
  · exact (js_dnew 2 S.nd)
  · refine js_for passOwnB (by rfl) (ji_enumA (by rfl) T.n_enumerate (j_var 0)) (jg_tup (by rfl) (jg_cons (jg_name 3 S.nd) (jg_cons (jg_name 4 S.nd) jg_nil))) ?_
    refine js_cons ?_ (js_cons ?_ js_nil)
    · refine js_if (jw_pt (jw_or (jt_not (jt_truth (j_callD (lv := 3) D_is_below (hr.mono (by decide)) passB (jl_cons (j_var 4) (jl_cons (j_var 1) jl_nil))))) (jw_or1 (jt_din 2 h1 (j_var 4) (pv 2))))) ?_ ?_
      · refine js_cons ?_ js_nil
        · exact (js_raiseE (c := 0) D_InvalidDays rfl (takes_of rfl rfl rfl rfl) (hr.mono (by decide)) (by rfl) (jl_cons (j_var 3) jl_nil))
      · exact js_nil
    · exact (js_dput 2 h1 (pv 2) (j_var 4) j_bl)
  · exact (js_ret (j_callB cr_sortedA o_sorted (by rfl) T.n_sorted (by decide +kernel) (j_dlist 2 (by rfl) (by rfl) T.n_list (pv 2))))
theorem d_ring_days {C_TurnError : Addr} {C_InvalidMisses : Addr} {C_InvalidDays : Addr} {fa : Addr} {fd : FuncData} (F : Fun K "ring_days" "ring_days" s_ring_days fa fd) (h1 : mg "ring_days" = some (.ref fa)) (h2 : PySem.W.keepIn K (.ref fa) = true) (b : Binds K fd ["days", "period"] []) (T : Bl mg) (ER : Ers K mg C_TurnError C_InvalidMisses C_InvalidDays) (D_is_sequence : Df P w K mg base CT0 BB0 1 "is_sequence" 1 ["value"] f_is_sequence) (D_InvalidDays : Er P w K mg base "InvalidDays" "at" C_InvalidDays) (D_is_below : Df P w K mg base CT0 BB0 3 "is_below" 2 ["value", "many"] f_is_below) : Df P w K mg base CT0 BB0 4 "ring_days" 2 ["days", "period"] f_ring_days :=
  ⟨⟨fa, fd, fn_def (N := N_ring_days) (ps := ["days", "period"]) (k := 3) (body := b_ring_days) F S_ring_days (by decide) fun _ _ _ _ _ _ hr => l_ring_days T ER D_is_sequence D_InvalidDays D_is_below hr, h1, h2, b⟩, fnOf_len⟩
abbrev N_ring_gap : List Str := ["days", "period", "misses"]
def S0_ring_gap : SSem := (sRet (fCall f_widest_gap [] (lCons (fCall f_ring_days [] (lCons (fVar 0) (lCons (fVar 1) lNil))) (lCons (fVar 1) (lCons (fVar 2) lNil)))))
def K0_ring_gap : SSem := sSeq S0_ring_gap sNil
theorem U0_ring_gap {a : Dn.Slot} {l : Env'} : K0_ring_gap (a :: l) = sSeq S0_ring_gap sNil (a :: l) := rfl
def b_ring_gap : SSem := K0_ring_gap
def f_ring_gap : List AV → T AV := fnOf 3 3 b_ring_gap
theorem S_ring_gap : FnScope N_ring_gap ["days", "period", "misses"] (defScope s_ring_gap) := ⟨rfl, rfl, rfl, by decide +kernel, rfl, by decide +kernel, by decide +kernel⟩
theorem l_ring_gap {C_TurnError : Addr} {C_InvalidMisses : Addr} {C_InvalidDays : Addr} (T : Bl mg) (ER : Ers K mg C_TurnError C_InvalidMisses C_InvalidDays) (D_widest_gap : Df P w K mg base CT0 BB0 2 "widest_gap" 3 ["days", "period", "misses"] f_widest_gap) (D_ring_days : Df P w K mg base CT0 BB0 4 "ring_days" 2 ["days", "period"] f_ring_days) {f : Addr} {cdv : Value} {A : Around} {outer : List Env} {s : Shared} {H : Hp} {E : XK} (hr : Room 4 (A.deeper (envOfC "ring_gap" (defScope s_ring_gap) s.heap.objs.size f cdv))) :
  JSs (cxOf (L2.CX P w) P w K mg base N_ring_gap "ring_gap" (defScope s_ring_gap) f cdv A outer s H E) CT0 BB0 E (defBody s_ring_gap) b_ring_gap := by
  have S := S_ring_gap
  have h64 : (A.deeper (envOfC "ring_gap" (defScope s_ring_gap) s.heap.objs.size f cdv)).units + 64 < cLine := by
    have := hr.un
    omega
  have h65 : (A.deeper (envOfC "ring_gap" (defScope s_ring_gap) s.heap.objs.size f cdv)).units + 65 < cLine := by
    have := hr.un
    omega
  have h1 : (A.deeper (envOfC "ring_gap" (defScope s_ring_gap) s.heap.objs.size f cdv)).units + 1 < cLine := by
    have := hr.un
    omega
  refine js_cons ?_ js_nil
  · exact (js_ret (j_callD (lv := 2) D_widest_gap (hr.mono (by decide)) passB (jl_cons (j_callD (lv := 4) D_ring_days (hr.mono (by decide)) passB (jl_cons (j_var 0) (jl_cons (j_var 1) jl_nil))) (jl_cons (j_var 1) (jl_cons (j_var 2) jl_nil)))))
theorem d_ring_gap {C_TurnError : Addr} {C_InvalidMisses : Addr} {C_InvalidDays : Addr} {fa : Addr} {fd : FuncData} (F : Fun K "ring_gap" "ring_gap" s_ring_gap fa fd) (h1 : mg "ring_gap" = some (.ref fa)) (h2 : PySem.W.keepIn K (.ref fa) = true) (b : Binds K fd ["days", "period", "misses"] []) (T : Bl mg) (ER : Ers K mg C_TurnError C_InvalidMisses C_InvalidDays) (D_widest_gap : Df P w K mg base CT0 BB0 2 "widest_gap" 3 ["days", "period", "misses"] f_widest_gap) (D_ring_days : Df P w K mg base CT0 BB0 4 "ring_days" 2 ["days", "period"] f_ring_days) : Df P w K mg base CT0 BB0 5 "ring_gap" 3 ["days", "period", "misses"] f_ring_gap :=
  ⟨⟨fa, fd, fn_def (N := N_ring_gap) (ps := ["days", "period", "misses"]) (k := 4) (body := b_ring_gap) F S_ring_gap (by decide) fun _ _ _ _ _ _ hr => l_ring_gap T ER D_widest_gap D_ring_days hr, h1, h2, b⟩, fnOf_len⟩
abbrev N_first_gaps : List Str := ["days", "period", "misses"]
def C0_first_gaps : SemN := nLc [2] (iRange1 (fUn pLen (fVar 0))) (tgName 2) fYes (fCall f_widest_gap [] (lCons (fVar 0) (lCons (fVar 1) (lCons (fVar 2) lNil))))
def S0_first_gaps : SSem := (sRet (fNew C0_first_gaps))
def K0_first_gaps : SSem := sSeq S0_first_gaps sNil
theorem U0_first_gaps {a : Dn.Slot} {l : Env'} : K0_first_gaps (a :: l) = sSeq S0_first_gaps sNil (a :: l) := rfl
def b_first_gaps : SSem := K0_first_gaps
def f_first_gaps : List AV → T AV := fnOf 2 3 b_first_gaps
theorem S_first_gaps : FnScope N_first_gaps ["days", "period"] (defScope s_first_gaps) := ⟨rfl, rfl, rfl, by decide +kernel, rfl, by decide +kernel, by decide +kernel⟩
theorem l_first_gaps {C_TurnError : Addr} {C_InvalidMisses : Addr} {C_InvalidDays : Addr} (T : Bl mg) (ER : Ers K mg C_TurnError C_InvalidMisses C_InvalidDays) (D_widest_gap : Df P w K mg base CT0 BB0 2 "widest_gap" 3 ["days", "period", "misses"] f_widest_gap) {f : Addr} {cdv : Value} {A : Around} {outer : List Env} {s : Shared} {H : Hp} {E : XK} (hr : Room 2 (A.deeper (envOfC "first_gaps" (defScope s_first_gaps) s.heap.objs.size f cdv))) :
  JSs (cxOf (L2.CX P w) P w K mg base N_first_gaps "first_gaps" (defScope s_first_gaps) f cdv A outer s H E) CT0 BB0 E (defBody s_first_gaps) b_first_gaps := by
  have S := S_first_gaps
  have h64 : (A.deeper (envOfC "first_gaps" (defScope s_first_gaps) s.heap.objs.size f cdv)).units + 64 < cLine := by
    have := hr.un
    omega
  have h65 : (A.deeper (envOfC "first_gaps" (defScope s_first_gaps) s.heap.objs.size f cdv)).units + 65 < cLine := by
    have := hr.un
    omega
  have h1 : (A.deeper (envOfC "first_gaps" (defScope s_first_gaps) s.heap.objs.size f cdv)).units + 1 < cLine := by
    have := hr.un
    omega
  refine js_cons ?_ js_nil
  · exact (js_ret (j_new (jn_lc (own := [("misses", 2)]) (by rfl) S.nd (blkOk_by (N := N_first_gaps) (sc := defScope s_first_gaps) (by decide +kernel)) (by decide) (ji_range1 (by rfl) T.n_range (j_callB call_len o_len (by rfl) T.n_len (by decide +kernel) (j_var 0))) (fun _ _ _ _ _ => (jg_name 2 S.nd)) (fun _ _ _ _ _ => jts_nil) (fun _ _ _ _ _ => (j_callD (lv := 2) D_widest_gap (hr.mono (by decide)) passE0 (jl_cons (j_var 0) (jl_cons (j_var 1) (jl_cons (j_var 2) jl_nil))))))))
theorem d_first_gaps {C_TurnError : Addr} {C_InvalidMisses : Addr} {C_InvalidDays : Addr} {fa : Addr} {fd : FuncData} (F : Fun K "first_gaps" "first_gaps" s_first_gaps fa fd) (h1 : mg "first_gaps" = some (.ref fa)) (h2 : PySem.W.keepIn K (.ref fa) = true) (b : Binds K fd ["days", "period"] []) (T : Bl mg) (ER : Ers K mg C_TurnError C_InvalidMisses C_InvalidDays) (D_widest_gap : Df P w K mg base CT0 BB0 2 "widest_gap" 3 ["days", "period", "misses"] f_widest_gap) : Df P w K mg base CT0 BB0 3 "first_gaps" 2 ["days", "period"] f_first_gaps :=
  ⟨⟨fa, fd, fn_def (N := N_first_gaps) (ps := ["days", "period"]) (k := 2) (body := b_first_gaps) F S_first_gaps (by decide) fun _ _ _ _ _ _ hr => l_first_gaps T ER D_widest_gap hr, h1, h2, b⟩, fnOf_len⟩
abbrev N_least_gap : List Str := ["period", "turnings", "misses"]
def S0_least_gap : SSem := (sRet (fUn pNeg (fBin pDiv (fBin pMul (fUn pNeg (fBin pAdd (fVar 2) (fC (.int 1)))) (fVar 0)) (fVar 1))))
def K0_least_gap : SSem := sSeq S0_least_gap sNil
theorem U0_least_gap {a : Dn.Slot} {l : Env'} : K0_least_gap (a :: l) = sSeq S0_least_gap sNil (a :: l) := rfl
def b_least_gap : SSem := K0_least_gap
def f_least_gap : List AV → T AV := fnOf 3 3 b_least_gap
theorem S_least_gap : FnScope N_least_gap ["period", "turnings", "misses"] (defScope s_least_gap) := ⟨rfl, rfl, rfl, by decide +kernel, rfl, by decide +kernel, by decide +kernel⟩
theorem l_least_gap {C_TurnError : Addr} {C_InvalidMisses : Addr} {C_InvalidDays : Addr} (T : Bl mg) (ER : Ers K mg C_TurnError C_InvalidMisses C_InvalidDays) {f : Addr} {cdv : Value} {A : Around} {outer : List Env} {s : Shared} {H : Hp} {E : XK} (hr : Room 0 (A.deeper (envOfC "least_gap" (defScope s_least_gap) s.heap.objs.size f cdv))) :
  JSs (cxOf (L2.CX P w) P w K mg base N_least_gap "least_gap" (defScope s_least_gap) f cdv A outer s H E) CT0 BB0 E (defBody s_least_gap) b_least_gap := by
  have S := S_least_gap
  have h64 : (A.deeper (envOfC "least_gap" (defScope s_least_gap) s.heap.objs.size f cdv)).units + 64 < cLine := by
    have := hr.un
    omega
  have h65 : (A.deeper (envOfC "least_gap" (defScope s_least_gap) s.heap.objs.size f cdv)).units + 65 < cLine := by
    have := hr.un
    omega
  have h1 : (A.deeper (envOfC "least_gap" (defScope s_least_gap) s.heap.objs.size f cdv)).units + 1 < cLine := by
    have := hr.un
    omega
  refine js_cons ?_ js_nil
  · exact (js_ret (j_un un_neg o_neg (j_bin op_fdivW o_div (j_bin' op_mulA o_mul (j_un un_neg o_neg (j_bin' op_addA o_add (j_var 2) j_int)) (j_var 0)) (j_var 1))))
theorem d_least_gap {C_TurnError : Addr} {C_InvalidMisses : Addr} {C_InvalidDays : Addr} {fa : Addr} {fd : FuncData} (F : Fun K "least_gap" "least_gap" s_least_gap fa fd) (h1 : mg "least_gap" = some (.ref fa)) (h2 : PySem.W.keepIn K (.ref fa) = true) (b : Binds K fd ["period", "turnings", "misses"] []) (T : Bl mg) (ER : Ers K mg C_TurnError C_InvalidMisses C_InvalidDays) : Df P w K mg base CT0 BB0 1 "least_gap" 3 ["period", "turnings", "misses"] f_least_gap :=
  ⟨⟨fa, fd, fn_def (N := N_least_gap) (ps := ["period", "turnings", "misses"]) (k := 0) (body := b_least_gap) F S_least_gap (by decide) fun _ _ _ _ _ _ hr => l_least_gap T ER  hr, h1, h2, b⟩, fnOf_len⟩
abbrev N_is_best : List Str := ["days", "period", "ring", "misses"]
def C0_is_best : SemN := nLc [3] (iRange1 (fUn pLen (fVar 2))) (tgName 3) fYes (fCall f_least_gap [] (lCons (fVar 1) (lCons (fUn pLen (fVar 2)) (lCons (fVar 3) lNil))))
def S0_is_best : SSem := (sSet 2 (fCall f_ring_days [] (lCons (fVar 0) (lCons (fVar 1) lNil))))
def S1_is_best : SSem := (sRet (fBin pEq (fCall f_first_gaps [] (lCons (fVar 2) (lCons (fVar 1) lNil))) (fNew C0_is_best)))
def K1_is_best : SSem := sSeq S1_is_best sNil
theorem U1_is_best {a : Dn.Slot} {l : Env'} : K1_is_best (a :: l) = sSeq S1_is_best sNil (a :: l) := rfl
def K0_is_best : SSem := sSeq S0_is_best K1_is_best
theorem U0_is_best {a : Dn.Slot} {l : Env'} : K0_is_best (a :: l) = sSeq S0_is_best K1_is_best (a :: l) := rfl
def b_is_best : SSem := K0_is_best
def f_is_best : List AV → T AV := fnOf 2 4 b_is_best
theorem S_is_best : FnScope N_is_best ["days", "period"] (defScope s_is_best) := ⟨rfl, rfl, rfl, by decide +kernel, rfl, by decide +kernel, by decide +kernel⟩
theorem l_is_best {C_TurnError : Addr} {C_InvalidMisses : Addr} {C_InvalidDays : Addr} (T : Bl mg) (ER : Ers K mg C_TurnError C_InvalidMisses C_InvalidDays) (D_ring_days : Df P w K mg base CT0 BB0 4 "ring_days" 2 ["days", "period"] f_ring_days) (D_first_gaps : Df P w K mg base CT0 BB0 3 "first_gaps" 2 ["days", "period"] f_first_gaps) (D_least_gap : Df P w K mg base CT0 BB0 1 "least_gap" 3 ["period", "turnings", "misses"] f_least_gap) {f : Addr} {cdv : Value} {A : Around} {outer : List Env} {s : Shared} {H : Hp} {E : XK} (hr : Room 4 (A.deeper (envOfC "is_best" (defScope s_is_best) s.heap.objs.size f cdv))) :
  JSs (cxOf (L2.CX P w) P w K mg base N_is_best "is_best" (defScope s_is_best) f cdv A outer s H E) CT0 BB0 E (defBody s_is_best) b_is_best := by
  have S := S_is_best
  have h64 : (A.deeper (envOfC "is_best" (defScope s_is_best) s.heap.objs.size f cdv)).units + 64 < cLine := by
    have := hr.un
    omega
  have h65 : (A.deeper (envOfC "is_best" (defScope s_is_best) s.heap.objs.size f cdv)).units + 65 < cLine := by
    have := hr.un
    omega
  have h1 : (A.deeper (envOfC "is_best" (defScope s_is_best) s.heap.objs.size f cdv)).units + 1 < cLine := by
    have := hr.un
    omega
  refine js_cons ?_ (js_cons ?_ js_nil)
  · exact (js_set 2 (j_callD (lv := 4) D_ring_days (hr.mono (by decide)) passB (jl_cons (j_var 0) (jl_cons (j_var 1) jl_nil))) S.nd)
  · exact (js_ret (j_cmp (op_eqD h64) o_eq.op (j_callD (lv := 3) D_first_gaps (hr.mono (by decide)) passB (jl_cons (j_var 2) (jl_cons (j_var 1) jl_nil))) (j_new (jn_lc (own := [("misses", 3)]) (by rfl) S.nd (blkOk_by (N := N_is_best) (sc := defScope s_is_best) (by decide +kernel)) (by decide) (ji_range1 (by rfl) T.n_range (j_callB call_len o_len (by rfl) T.n_len (by decide +kernel) (j_var 2))) (fun _ _ _ _ _ => (jg_name 3 S.nd)) (fun _ _ _ _ _ => jts_nil) (fun _ _ _ _ _ => (j_callD (lv := 1) D_least_gap (hr.mono (by decide)) passE0 (jl_cons (j_var 1) (jl_cons (j_callB call_len o_len (by rfl) T.n_len (by decide +kernel) (j_var 2)) (jl_cons (j_var 3) jl_nil))))))) (nomark _)))
theorem d_is_best {C_TurnError : Addr} {C_InvalidMisses : Addr} {C_InvalidDays : Addr} {fa : Addr} {fd : FuncData} (F : Fun K "is_best" "is_best" s_is_best fa fd) (h1 : mg "is_best" = some (.ref fa)) (h2 : PySem.W.keepIn K (.ref fa) = true) (b : Binds K fd ["days", "period"] []) (T : Bl mg) (ER : Ers K mg C_TurnError C_InvalidMisses C_InvalidDays) (D_ring_days : Df P w K mg base CT0 BB0 4 "ring_days" 2 ["days", "period"] f_ring_days) (D_first_gaps : Df P w K mg base CT0 BB0 3 "first_gaps" 2 ["days", "period"] f_first_gaps) (D_least_gap : Df P w K mg base CT0 BB0 1 "least_gap" 3 ["period", "turnings", "misses"] f_least_gap) : Df P w K mg base CT0 BB0 5 "is_best" 2 ["days", "period"] f_is_best :=
  ⟨⟨fa, fd, fn_def (N := N_is_best) (ps := ["days", "period"]) (k := 4) (body := b_is_best) F S_is_best (by decide) fun _ _ _ _ _ _ hr => l_is_best T ER D_ring_days D_first_gaps D_least_gap hr, h1, h2, b⟩, fnOf_len⟩
abbrev N_first_longer : List Str := ["days", "period", "others", "other_period", "gaps", "other_gaps", "misses"]
def S1f0t0_first_longer : SSem := (sRet (fVar 6))
def K1f0t0_first_longer : SSem := sSeq S1f0t0_first_longer sNil
theorem U1f0t0_first_longer {a : Dn.Slot} {l : Env'} : K1f0t0_first_longer (a :: l) = sSeq S1f0t0_first_longer sNil (a :: l) := rfl
def S1f0_first_longer : SSem := (sIf (fBlT (fBin pGt (fCall f_far_item [] (lCons (fVar 4) (lCons (fVar 1) (lCons (fVar 6) lNil)))) (fCall f_far_item [] (lCons (fVar 5) (lCons (fVar 3) (lCons (fVar 6) lNil)))))) K1f0t0_first_longer sNil)
def K1f0_first_longer : SSem := sSeq S1f0_first_longer sNil
theorem U1f0_first_longer {a : Dn.Slot} {l : Env'} : K1f0_first_longer (a :: l) = sSeq S1f0_first_longer sNil (a :: l) := rfl
def S0_first_longer : SSem := (sPar 4 5 (lCons (fCall f_first_gaps [] (lCons (fVar 0) (lCons (fVar 1) lNil))) (lCons (fCall f_first_gaps [] (lCons (fVar 2) (lCons (fVar 3) lNil))) lNil)))
def S1_first_longer : SSem := (sFor (iRange1 (fBin pLcm (fUn pLen (fVar 0)) (fUn pLen (fVar 2)))) (tgName 6) K1f0_first_longer)
def S2_first_longer : SSem := (sRet (fC .non))
def K2_first_longer : SSem := sSeq S2_first_longer sNil
theorem U2_first_longer {a : Dn.Slot} {l : Env'} : K2_first_longer (a :: l) = sSeq S2_first_longer sNil (a :: l) := rfl
def K1_first_longer : SSem := sSeq S1_first_longer K2_first_longer
theorem U1_first_longer {a : Dn.Slot} {l : Env'} : K1_first_longer (a :: l) = sSeq S1_first_longer K2_first_longer (a :: l) := rfl
def K0_first_longer : SSem := sSeq S0_first_longer K1_first_longer
theorem U0_first_longer {a : Dn.Slot} {l : Env'} : K0_first_longer (a :: l) = sSeq S0_first_longer K1_first_longer (a :: l) := rfl
def b_first_longer : SSem := K0_first_longer
def f_first_longer : List AV → T AV := fnOf 4 7 b_first_longer
theorem S_first_longer : FnScope N_first_longer ["days", "period", "others", "other_period"] (defScope s_first_longer) := ⟨rfl, rfl, rfl, by decide +kernel, rfl, by decide +kernel, by decide +kernel⟩
theorem l_first_longer {C_TurnError : Addr} {C_InvalidMisses : Addr} {C_InvalidDays : Addr} (T : Bl mg) (ER : Ers K mg C_TurnError C_InvalidMisses C_InvalidDays) (D_first_gaps : Df P w K mg base CT0 BB0 3 "first_gaps" 2 ["days", "period"] f_first_gaps) (D_far_item : Df P w K mg base CT0 BB0 1 "far_item" 3 ["row", "period", "at"] f_far_item) {f : Addr} {cdv : Value} {A : Around} {outer : List Env} {s : Shared} {H : Hp} {E : XK} (hr : Room 3 (A.deeper (envOfC "first_longer" (defScope s_first_longer) s.heap.objs.size f cdv))) :
  JSs (cxOf (L2.CX P w) P w K mg base N_first_longer "first_longer" (defScope s_first_longer) f cdv A outer s H E) CT0 BB0 E (defBody s_first_longer) b_first_longer := by
  have S := S_first_longer
  have h64 : (A.deeper (envOfC "first_longer" (defScope s_first_longer) s.heap.objs.size f cdv)).units + 64 < cLine := by
    have := hr.un
    omega
  have h65 : (A.deeper (envOfC "first_longer" (defScope s_first_longer) s.heap.objs.size f cdv)).units + 65 < cLine := by
    have := hr.un
    omega
  have h1 : (A.deeper (envOfC "first_longer" (defScope s_first_longer) s.heap.objs.size f cdv)).units + 1 < cLine := by
    have := hr.un
    omega
  refine js_cons ?_ (js_cons ?_ (js_cons ?_ js_nil))
  · exact (js_par 4 5 (by rfl) S.nd (jl_cons (j_callD (lv := 3) D_first_gaps (hr.mono (by decide)) passB (jl_cons (j_var 0) (jl_cons (j_var 1) jl_nil))) (jl_cons (j_callD (lv := 3) D_first_gaps (hr.mono (by decide)) passB (jl_cons (j_var 2) (jl_cons (j_var 3) jl_nil))) jl_nil)))
  · refine js_for passOwnB (by rfl) (ji_range1 (by rfl) T.n_range (j_callFun2 cr_lcm o_lcm (by rfl) T.n_lcm (j_callB call_len o_len (by rfl) T.n_len (by decide +kernel) (j_var 0)) (j_callB call_len o_len (by rfl) T.n_len (by decide +kernel) (j_var 2)))) (jg_name 6 S.nd) ?_
    refine js_cons ?_ js_nil
    · refine js_if (jt_cmp op_gt o_gt.op (j_callD (lv := 1) D_far_item (hr.mono (by decide)) passB (jl_cons (j_var 4) (jl_cons (j_var 1) (jl_cons (j_var 6) jl_nil)))) (j_callD (lv := 1) D_far_item (hr.mono (by decide)) passB (jl_cons (j_var 5) (jl_cons (j_var 3) (jl_cons (j_var 6) jl_nil)))) (nomark _)) ?_ ?_
      · refine js_cons ?_ js_nil
        · exact (js_ret (j_var 6))
      · exact js_nil
  · exact (js_ret j_non)
theorem d_first_longer {C_TurnError : Addr} {C_InvalidMisses : Addr} {C_InvalidDays : Addr} {fa : Addr} {fd : FuncData} (F : Fun K "first_longer" "first_longer" s_first_longer fa fd) (h1 : mg "first_longer" = some (.ref fa)) (h2 : PySem.W.keepIn K (.ref fa) = true) (b : Binds K fd ["days", "period", "others", "other_period"] []) (T : Bl mg) (ER : Ers K mg C_TurnError C_InvalidMisses C_InvalidDays) (D_first_gaps : Df P w K mg base CT0 BB0 3 "first_gaps" 2 ["days", "period"] f_first_gaps) (D_far_item : Df P w K mg base CT0 BB0 1 "far_item" 3 ["row", "period", "at"] f_far_item) : Df P w K mg base CT0 BB0 4 "first_longer" 4 ["days", "period", "others", "other_period"] f_first_longer :=
  ⟨⟨fa, fd, fn_def (N := N_first_longer) (ps := ["days", "period", "others", "other_period"]) (k := 3) (body := b_first_longer) F S_first_longer (by decide) fun _ _ _ _ _ _ hr => l_first_longer T ER D_first_gaps D_far_item hr, h1, h2, b⟩, fnOf_len⟩
abbrev N_no_longer : List Str := ["days", "others", "period"]
def S0_no_longer : SSem := (sRet (fBin pIs (fCall f_first_longer [] (lCons (fCall f_ring_days [] (lCons (fVar 0) (lCons (fVar 2) lNil))) (lCons (fVar 2) (lCons (fCall f_ring_days [] (lCons (fVar 1) (lCons (fVar 2) lNil))) (lCons (fVar 2) lNil))))) (fC .non)))
def K0_no_longer : SSem := sSeq S0_no_longer sNil
theorem U0_no_longer {a : Dn.Slot} {l : Env'} : K0_no_longer (a :: l) = sSeq S0_no_longer sNil (a :: l) := rfl
def b_no_longer : SSem := K0_no_longer
def f_no_longer : List AV → T AV := fnOf 3 3 b_no_longer
theorem S_no_longer : FnScope N_no_longer ["days", "others", "period"] (defScope s_no_longer) := ⟨rfl, rfl, rfl, by decide +kernel, rfl, by decide +kernel, by decide +kernel⟩
theorem l_no_longer {C_TurnError : Addr} {C_InvalidMisses : Addr} {C_InvalidDays : Addr} (T : Bl mg) (ER : Ers K mg C_TurnError C_InvalidMisses C_InvalidDays) (D_first_longer : Df P w K mg base CT0 BB0 4 "first_longer" 4 ["days", "period", "others", "other_period"] f_first_longer) (D_ring_days : Df P w K mg base CT0 BB0 4 "ring_days" 2 ["days", "period"] f_ring_days) {f : Addr} {cdv : Value} {A : Around} {outer : List Env} {s : Shared} {H : Hp} {E : XK} (hr : Room 4 (A.deeper (envOfC "no_longer" (defScope s_no_longer) s.heap.objs.size f cdv))) :
  JSs (cxOf (L2.CX P w) P w K mg base N_no_longer "no_longer" (defScope s_no_longer) f cdv A outer s H E) CT0 BB0 E (defBody s_no_longer) b_no_longer := by
  have S := S_no_longer
  have h64 : (A.deeper (envOfC "no_longer" (defScope s_no_longer) s.heap.objs.size f cdv)).units + 64 < cLine := by
    have := hr.un
    omega
  have h65 : (A.deeper (envOfC "no_longer" (defScope s_no_longer) s.heap.objs.size f cdv)).units + 65 < cLine := by
    have := hr.un
    omega
  have h1 : (A.deeper (envOfC "no_longer" (defScope s_no_longer) s.heap.objs.size f cdv)).units + 1 < cLine := by
    have := hr.un
    omega
  refine js_cons ?_ js_nil
  · exact (js_ret (j_cmp op_isA o_isA.op (j_callD (lv := 4) D_first_longer (hr.mono (by decide)) passB (jl_cons (j_callD (lv := 4) D_ring_days (hr.mono (by decide)) passB (jl_cons (j_var 0) (jl_cons (j_var 2) jl_nil))) (jl_cons (j_var 2) (jl_cons (j_callD (lv := 4) D_ring_days (hr.mono (by decide)) passB (jl_cons (j_var 1) (jl_cons (j_var 2) jl_nil))) (jl_cons (j_var 2) jl_nil))))) j_non (nomark _)))
theorem d_no_longer {C_TurnError : Addr} {C_InvalidMisses : Addr} {C_InvalidDays : Addr} {fa : Addr} {fd : FuncData} (F : Fun K "no_longer" "no_longer" s_no_longer fa fd) (h1 : mg "no_longer" = some (.ref fa)) (h2 : PySem.W.keepIn K (.ref fa) = true) (b : Binds K fd ["days", "others", "period"] []) (T : Bl mg) (ER : Ers K mg C_TurnError C_InvalidMisses C_InvalidDays) (D_first_longer : Df P w K mg base CT0 BB0 4 "first_longer" 4 ["days", "period", "others", "other_period"] f_first_longer) (D_ring_days : Df P w K mg base CT0 BB0 4 "ring_days" 2 ["days", "period"] f_ring_days) : Df P w K mg base CT0 BB0 5 "no_longer" 3 ["days", "others", "period"] f_no_longer :=
  ⟨⟨fa, fd, fn_def (N := N_no_longer) (ps := ["days", "others", "period"]) (k := 4) (body := b_no_longer) F S_no_longer (by decide) fun _ _ _ _ _ _ hr => l_no_longer T ER D_first_longer D_ring_days hr, h1, h2, b⟩, fnOf_len⟩
abbrev N_law_all_heard : List Str := ["_law_days_here", "_law_period", "_law_good", "_law_found"]
def S0_law_all_heard : SSem := (sSetN 3 (nLst (lCons (fLam (.str "let") (mArgs (lCons (fVar 0) (lCons (fVar 1) (lCons (fC (.int 1)) lNil))) f_ring_gap) sb_InvalidDays (hvE "odd" (fun _ => true) (fun _ => false))) lNil)))
def S1_law_all_heard : SSem := (sExpr (fAppend 3 (fLam (.str "let") (mArgs (lCons (fVar 0) (lCons (fVar 1) lNil)) f_is_best) sb_InvalidDays (hvE "odd" (fun _ => true) (fun _ => false)))))
def S2_law_all_heard : SSem := (sExpr (fAppend 3 (fLam (.str "let") (mArgs (lCons (fVar 0) (lCons (fVar 2) (lCons (fVar 1) lNil))) f_no_longer) sb_InvalidDays (hvE "odd" (fun _ => true) (fun _ => false)))))
def S3_law_all_heard : SSem := (sExpr (fAppend 3 (fLam (.str "let") (mArgs (lCons (fVar 2) (lCons (fVar 0) (lCons (fVar 1) lNil))) f_no_longer) sb_InvalidDays (hvE "odd" (fun _ => true) (fun _ => false)))))
def S4_law_all_heard : SSem := (sRet (fVar 3))
def K4_law_all_heard : SSem := sSeq S4_law_all_heard sNil
theorem U4_law_all_heard {a : Dn.Slot} {l : Env'} : K4_law_all_heard (a :: l) = sSeq S4_law_all_heard sNil (a :: l) := rfl
def K3_law_all_heard : SSem := sSeq S3_law_all_heard K4_law_all_heard
theorem U3_law_all_heard {a : Dn.Slot} {l : Env'} : K3_law_all_heard (a :: l) = sSeq S3_law_all_heard K4_law_all_heard (a :: l) := rfl
def K2_law_all_heard : SSem := sSeq S2_law_all_heard K3_law_all_heard
theorem U2_law_all_heard {a : Dn.Slot} {l : Env'} : K2_law_all_heard (a :: l) = sSeq S2_law_all_heard K3_law_all_heard (a :: l) := rfl
def K1_law_all_heard : SSem := sSeq S1_law_all_heard K2_law_all_heard
theorem U1_law_all_heard {a : Dn.Slot} {l : Env'} : K1_law_all_heard (a :: l) = sSeq S1_law_all_heard K2_law_all_heard (a :: l) := rfl
def K0_law_all_heard : SSem := sSeq S0_law_all_heard K1_law_all_heard
theorem U0_law_all_heard {a : Dn.Slot} {l : Env'} : K0_law_all_heard (a :: l) = sSeq S0_law_all_heard K1_law_all_heard (a :: l) := rfl
def b_law_all_heard : SSem := K0_law_all_heard
def f_law_all_heard : List AV → T AV := fnOf 3 4 b_law_all_heard
theorem S_law_all_heard : FnScope N_law_all_heard ["_law_days_here", "_law_period", "_law_good"] (defScope s_law_all_heard) := ⟨rfl, rfl, rfl, by decide +kernel, rfl, by decide +kernel, by decide +kernel⟩
theorem l_law_all_heard {C_TurnError : Addr} {C_InvalidMisses : Addr} {C_InvalidDays : Addr} (T : Bl mg) (ER : Ers K mg C_TurnError C_InvalidMisses C_InvalidDays) (D_law_heard : Lf K mg "_law_heard" s_law_heard "_law_work") (D_ring_gap : Df P w K mg base CT0 (BB1 TP1) 5 "ring_gap" 3 ["days", "period", "misses"] f_ring_gap) (D_is_best : Df P w K mg base CT0 (BB1 TP1) 5 "is_best" 2 ["days", "period"] f_is_best) (D_no_longer : Df P w K mg base CT0 (BB1 TP1) 5 "no_longer" 3 ["days", "others", "period"] f_no_longer) {f : Addr} {cL : Addr} (TB : LamX.TabB base mg cL TP1) {A : Around} {outer : List Env} {s : Shared} {H : Hp} {E : XK} (hr : Room 7 (A.deeper (envOfC "_law_all_heard" (defScope s_law_all_heard) s.heap.objs.size f (.ref cL)))) :
  JSs (cxOf (L2.CX P w) P w K mg base N_law_all_heard "_law_all_heard" (defScope s_law_all_heard) f (.ref cL) A outer s H E) CT0 (BB1 TP1) E (defBody s_law_all_heard) b_law_all_heard := by
  have S := S_law_all_heard
  have h64 : (A.deeper (envOfC "_law_all_heard" (defScope s_law_all_heard) s.heap.objs.size f (.ref cL))).units + 64 < cLine := by
    have := hr.un
    omega
  have h65 : (A.deeper (envOfC "_law_all_heard" (defScope s_law_all_heard) s.heap.objs.size f (.ref cL))).units + 65 < cLine := by
    have := hr.un
    omega
  have h1 : (A.deeper (envOfC "_law_all_heard" (defScope s_law_all_heard) s.heap.objs.size f (.ref cL))).units + 1 < cLine := by
    have := hr.un
    omega
  refine js_cons ?_ (js_cons ?_ (js_cons ?_ (js_cons ?_ (js_cons ?_ js_nil))))
  · exact (js_setN 3 (jn_lst (jl_cons (j_lamF (k := 5) (CS := C_InvalidDays) (ts := tsE K 2 1 C_TurnError C_InvalidMisses "at" "odd") (lit := .str "let") (litA := .str "let") (hv := (hvE "odd" (fun _ => true) (fun _ => false))) D_law_heard S_law_heard TB (hr.mono (by decide)) (gw_law_heard ER T (hr.mono (by decide) : Room 2 _)) (fun E A outer s H f c2 hr => (jx_call (lv := 5) D_ring_gap (hr.mono (by decide)) (fun _ _ => (jl_cons (j_var 0) (jl_cons (j_var 1) (jl_cons j_int jl_nil)))))) (fun _ _ => by rw [RepG, Rep]) (xm_InvalidDays ER T) (hw_law_heard ER T) (LamX.lamS_by (sc := defScope s_law_all_heard) (by decide +kernel)) (by intros; rfl)) jl_nil)) S.nd)
  · exact (js_expr (j_append 3 (j_lamF (k := 5) (CS := C_InvalidDays) (ts := tsE K 2 1 C_TurnError C_InvalidMisses "at" "odd") (lit := .str "let") (litA := .str "let") (hv := (hvE "odd" (fun _ => true) (fun _ => false))) D_law_heard S_law_heard TB (hr.mono (by decide)) (gw_law_heard ER T (hr.mono (by decide) : Room 2 _)) (fun E A outer s H f c2 hr => (jx_call (lv := 5) D_is_best (hr.mono (by decide)) (fun _ _ => (jl_cons (j_var 0) (jl_cons (j_var 1) jl_nil))))) (fun _ _ => by rw [RepG, Rep]) (xm_InvalidDays ER T) (hw_law_heard ER T) (LamX.lamS_by (sc := defScope s_law_all_heard) (by decide +kernel)) (by intros; rfl)) (fun te he => pe_bm PySem.F.plainAttrs_list PySem.F.slot_list_append PySem.F.type_list_append mt_append (pv 3) (pa_cons he pa_nil))))
  · exact (js_expr (j_append 3 (j_lamF (k := 5) (CS := C_InvalidDays) (ts := tsE K 2 1 C_TurnError C_InvalidMisses "at" "odd") (lit := .str "let") (litA := .str "let") (hv := (hvE "odd" (fun _ => true) (fun _ => false))) D_law_heard S_law_heard TB (hr.mono (by decide)) (gw_law_heard ER T (hr.mono (by decide) : Room 2 _)) (fun E A outer s H f c2 hr => (jx_call (lv := 5) D_no_longer (hr.mono (by decide)) (fun _ _ => (jl_cons (j_var 0) (jl_cons (j_var 2) (jl_cons (j_var 1) jl_nil)))))) (fun _ _ => by rw [RepG, Rep]) (xm_InvalidDays ER T) (hw_law_heard ER T) (LamX.lamS_by (sc := defScope s_law_all_heard) (by decide +kernel)) (by intros; rfl)) (fun te he => pe_bm PySem.F.plainAttrs_list PySem.F.slot_list_append PySem.F.type_list_append mt_append (pv 3) (pa_cons he pa_nil))))
  · exact (js_expr (j_append 3 (j_lamF (k := 5) (CS := C_InvalidDays) (ts := tsE K 2 1 C_TurnError C_InvalidMisses "at" "odd") (lit := .str "let") (litA := .str "let") (hv := (hvE "odd" (fun _ => true) (fun _ => false))) D_law_heard S_law_heard TB (hr.mono (by decide)) (gw_law_heard ER T (hr.mono (by decide) : Room 2 _)) (fun E A outer s H f c2 hr => (jx_call (lv := 5) D_no_longer (hr.mono (by decide)) (fun _ _ => (jl_cons (j_var 2) (jl_cons (j_var 0) (jl_cons (j_var 1) jl_nil)))))) (fun _ _ => by rw [RepG, Rep]) (xm_InvalidDays ER T) (hw_law_heard ER T) (LamX.lamS_by (sc := defScope s_law_all_heard) (by decide +kernel)) (by intros; rfl)) (fun te he => pe_bm PySem.F.plainAttrs_list PySem.F.slot_list_append PySem.F.type_list_append mt_append (pv 3) (pa_cons he pa_nil))))
  · exact (js_ret (j_var 3))
theorem d_law_all_heard {cL : Addr} {C_TurnError : Addr} {C_InvalidMisses : Addr} {C_InvalidDays : Addr} {fa : Addr} {fd : FuncData} (F : Fun K "_law_all_heard" "_law_all_heard" s_law_all_heard fa fd) (h1 : mg "_law_all_heard" = some (.ref fa)) (h2 : PySem.W.keepIn K (.ref fa) = true) (hcd : fd.code = .ref cL) (TB : LamX.TabB base mg cL TP1) (b : Binds K fd ["_law_days_here", "_law_period", "_law_good"] []) (T : Bl mg) (ER : Ers K mg C_TurnError C_InvalidMisses C_InvalidDays) (D_law_heard : Lf K mg "_law_heard" s_law_heard "_law_work") (D_ring_gap : Df P w K mg base CT0 (BB1 TP1) 5 "ring_gap" 3 ["days", "period", "misses"] f_ring_gap) (D_is_best : Df P w K mg base CT0 (BB1 TP1) 5 "is_best" 2 ["days", "period"] f_is_best) (D_no_longer : Df P w K mg base CT0 (BB1 TP1) 5 "no_longer" 3 ["days", "others", "period"] f_no_longer) : Df P w K mg base CT0 (BB1 TP1) 8 "_law_all_heard" 3 ["_law_days_here", "_law_period", "_law_good"] f_law_all_heard :=
  ⟨⟨fa, fd, fn_defT (N := N_law_all_heard) (ps := ["_law_days_here", "_law_period", "_law_good"]) (k := 7) (body := b_law_all_heard) F hcd S_law_all_heard (by decide) fun _ _ _ _ _ hr => l_law_all_heard T ER D_law_heard D_ring_gap D_is_best D_no_longer TB hr, h1, h2, b⟩, fnOf_len⟩
abbrev N_law : List Str := ["_law_script", "_law_odd", "_law_k", "_law_box_here", "_law_period", "_law_good", "_law_value", "_law_turn", "_law_at", "_law_bad", "_law_bent"]
def S1f3f0t0_law : SSem := (sRet (fC (.bl false)))
def K1f3f0t0_law : SSem := sSeq S1f3f0t0_law sNil
theorem U1f3f0t0_law {a : Dn.Slot} {l : Env'} : K1f3f0t0_law (a :: l) = sSeq S1f3f0t0_law sNil (a :: l) := rfl
def S1f3f0_law : SSem := (sIf (fBlT (fBin pNe (fCall f_law_all_heard [] (lCons (fVar 6) (lCons (fVar 4) (lCons (fVar 5) lNil)))) (fBin pMul (fNew (nLst (lCons (fC (.int 0)) lNil))) (fC (.int 4))))) K1f3f0t0_law sNil)
def K1f3f0_law : SSem := sSeq S1f3f0_law sNil
theorem U1f3f0_law {a : Dn.Slot} {l : Env'} : K1f3f0_law (a :: l) = sSeq S1f3f0_law sNil (a :: l) := rfl
def S1f4f3t0_law : SSem := (sRet (fC (.bl false)))
def K1f4f3t0_law : SSem := sSeq S1f4f3t0_law sNil
theorem U1f4f3t0_law {a : Dn.Slot} {l : Env'} : K1f4f3t0_law (a :: l) = sSeq S1f4f3t0_law sNil (a :: l) := rfl
def S1f4f4t0_law : SSem := (sRet (fC (.bl false)))
def K1f4f4t0_law : SSem := sSeq S1f4f4t0_law sNil
theorem U1f4f4t0_law {a : Dn.Slot} {l : Env'} : K1f4f4t0_law (a :: l) = sSeq S1f4f4t0_law sNil (a :: l) := rfl
def S1f4f5t0_law : SSem := (sRet (fC (.bl false)))
def K1f4f5t0_law : SSem := sSeq S1f4f5t0_law sNil
theorem U1f4f5t0_law {a : Dn.Slot} {l : Env'} : K1f4f5t0_law (a :: l) = sSeq S1f4f5t0_law sNil (a :: l) := rfl
def S1f4f0_law : SSem := (sSet 8 (fCall f_law_take [] (lCons (fVar 3) (lCons (fBin pAdd (fUn pLen (fVar 5)) (fC (.int 1))) lNil))))
def S1f4f1_law : SSem := (sSet 9 (fCall f_law_pick [] (lCons (fVar 3) (lCons (fBin pAdd (fBin pAdd (fVar 1) (fNew (nLst (lCons (fVar 4) (lCons (fBin pAdd (fVar 4) (fC (.int 5))) lNil))))) (fSl (fVar 5) none (some (fVar 8)))) lNil))))
def S1f4f2_law : SSem := (sSet 10 (fBin pAdd (fBin pAdd (fBin pAdd (fSl (fVar 5) none (some (fVar 8))) (fNew (nLst (lCons (fVar 9) lNil)))) (fSl (fVar 5) (some (fVar 8)) none)) (fNew (nLst (lCons (fC (.str "late")) lNil)))))
def S1f4f3_law : SSem := (sIf (fOrT (fBlT (fBin pNe (fCall f_law_all_heard [] (lCons (fVar 10) (lCons (fVar 4) (lCons (fVar 5) lNil)))) (fBin pMul (fNew (nLst (lCons (fVar 8) lNil))) (fC (.int 4))))) (fBlT (fBin pNe (fCall f_law_all_heard [] (lCons (fUn pTuple (fVar 10)) (lCons (fVar 4) (lCons (fVar 5) lNil)))) (fBin pMul (fNew (nLst (lCons (fVar 8) lNil))) (fC (.int 4)))))) K1f4f3t0_law sNil)
def S1f4f4_law : SSem := (sIf (fBlT (fBin pNe (fLam (.str "let") (mArgs (lCons (fVar 10) (lCons (fNew (nLst lNil)) (lCons (fVar 4) lNil))) f_no_longer) sb_InvalidDays (hvE "odd" (fun _ => true) (fun _ => false))) (fVar 8))) K1f4f4t0_law sNil)
def S1f4f5_law : SSem := (sIf (fBlT (fBin pNe (fCall f_law_all_heard [] (lCons (fVar 5) (lCons (fVar 4) (lCons (fVar 5) lNil)))) (fBin pMul (fNew (nLst (lCons (fC (.str "let")) lNil))) (fC (.int 4))))) K1f4f5t0_law sNil)
def K1f4f5_law : SSem := sSeq S1f4f5_law sNil
theorem U1f4f5_law {a : Dn.Slot} {l : Env'} : K1f4f5_law (a :: l) = sSeq S1f4f5_law sNil (a :: l) := rfl
def K1f4f4_law : SSem := sSeq S1f4f4_law K1f4f5_law
theorem U1f4f4_law {a : Dn.Slot} {l : Env'} : K1f4f4_law (a :: l) = sSeq S1f4f4_law K1f4f5_law (a :: l) := rfl
def K1f4f3_law : SSem := sSeq S1f4f3_law K1f4f4_law
theorem U1f4f3_law {a : Dn.Slot} {l : Env'} : K1f4f3_law (a :: l) = sSeq S1f4f3_law K1f4f4_law (a :: l) := rfl
def K1f4f2_law : SSem := sSeq S1f4f2_law K1f4f3_law
theorem U1f4f2_law {a : Dn.Slot} {l : Env'} : K1f4f2_law (a :: l) = sSeq S1f4f2_law K1f4f3_law (a :: l) := rfl
def K1f4f1_law : SSem := sSeq S1f4f1_law K1f4f2_law
theorem U1f4f1_law {a : Dn.Slot} {l : Env'} : K1f4f1_law (a :: l) = sSeq S1f4f1_law K1f4f2_law (a :: l) := rfl
def K1f4f0_law : SSem := sSeq S1f4f0_law K1f4f1_law
theorem U1f4f0_law {a : Dn.Slot} {l : Env'} : K1f4f0_law (a :: l) = sSeq S1f4f0_law K1f4f1_law (a :: l) := rfl
def S1f0_law : SSem := (sSet 3 (fCall f_law_box [] (lCons (fVar 0) (lCons (fVar 2) (lCons (fC (.int 52)) lNil)))))
def S1f1_law : SSem := (sSet 4 (fBin pAdd (fC (.int 1)) (fCall f_law_take [] (lCons (fVar 3) (lCons (fC (.int 30)) lNil)))))
def S1f2_law : SSem := (sSet 5 (fCall f_law_days [] (lCons (fVar 3) (lCons (fVar 4) (lCons (fC (.int 8)) lNil)))))
def S1f3_law : SSem := (sFor (iSeq (fTup (lCons (fC .non) (lCons (fC (.int 0)) (lCons (fC (.bl true)) (lCons (fC (.str "")) (lCons (fC (.str "012")) (lCons (fNew (nLst lNil)) (lCons (fTup lNil) (lCons (fBin pPow (fC (.int 10)) (fC (.int 20))) (lCons (fNew (nLst (lCons (fNew (nLst (lCons (fNew (nLst (lCons (fNew (nLst (lCons (fNew (nLst (lCons (fNew (nLst (lCons (fNew (nLst (lCons (fNew (nLst (lCons (fC (.int 0)) lNil))) lNil))) lNil))) lNil))) lNil))) lNil))) lNil))) lNil))) lNil))))))))))) (tgName 6) K1f3f0_law)
def S1f4_law : SSem := (sFor (iRange1 (fC (.int 8))) (tgName 7) K1f4f0_law)
def K1f4_law : SSem := sSeq S1f4_law sNil
theorem U1f4_law {a : Dn.Slot} {l : Env'} : K1f4_law (a :: l) = sSeq S1f4_law sNil (a :: l) := rfl
def K1f3_law : SSem := sSeq S1f3_law K1f4_law
theorem U1f3_law {a : Dn.Slot} {l : Env'} : K1f3_law (a :: l) = sSeq S1f3_law K1f4_law (a :: l) := rfl
def K1f2_law : SSem := sSeq S1f2_law K1f3_law
theorem U1f2_law {a : Dn.Slot} {l : Env'} : K1f2_law (a :: l) = sSeq S1f2_law K1f3_law (a :: l) := rfl
def K1f1_law : SSem := sSeq S1f1_law K1f2_law
theorem U1f1_law {a : Dn.Slot} {l : Env'} : K1f1_law (a :: l) = sSeq S1f1_law K1f2_law (a :: l) := rfl
def K1f0_law : SSem := sSeq S1f0_law K1f1_law
theorem U1f0_law {a : Dn.Slot} {l : Env'} : K1f0_law (a :: l) = sSeq S1f0_law K1f1_law (a :: l) := rfl
def S0_law : SSem := (sSet 1 (fNew (nLst (lCons (fC .non) (lCons (fC (.bl true)) (lCons (fC (.bl false)) (lCons (fC (.str "0")) (lCons (fC (.str "")) (lCons (fTup (lCons (fC (.int 0)) lNil)) (lCons (fNew (nLst (lCons (fC (.int 0)) lNil))) (lCons (fBin pSub (fC (.int 0)) (fC (.int 1))) (lCons (fBin pSub (fC (.int 0)) (fC (.int 3))) (lCons (fBin pPow (fC (.int 10)) (fC (.int 20))) (lCons (fNew (nLst lNil)) (lCons (fNew (nLst (lCons (fNew (nLst (lCons (fNew (nLst (lCons (fNew (nLst (lCons (fNew (nLst (lCons (fNew (nLst (lCons (fNew (nLst (lCons (fC (.int 0)) lNil))) lNil))) lNil))) lNil))) lNil))) lNil))) lNil))) lNil)))))))))))))))
def S1_law : SSem := (sFor (iRange1 (fBin pMax2 (fC (.int 1)) (fBin pMin2 (fC (.int 3)) (fUn pLen (fVar 0))))) (tgName 2) K1f0_law)
def S2_law : SSem := (sRet (fC (.bl true)))
def K2_law : SSem := sSeq S2_law sNil
theorem U2_law {a : Dn.Slot} {l : Env'} : K2_law (a :: l) = sSeq S2_law sNil (a :: l) := rfl
def K1_law : SSem := sSeq S1_law K2_law
theorem U1_law {a : Dn.Slot} {l : Env'} : K1_law (a :: l) = sSeq S1_law K2_law (a :: l) := rfl
def K0_law : SSem := sSeq S0_law K1_law
theorem U0_law {a : Dn.Slot} {l : Env'} : K0_law (a :: l) = sSeq S0_law K1_law (a :: l) := rfl
def b_law : SSem := K0_law
def f_law : List AV → T AV := fnOf 1 11 b_law
theorem S_law : FnScope N_law ["_law_script"] (defScope s_law) := ⟨rfl, rfl, rfl, by decide +kernel, rfl, by decide +kernel, by decide +kernel⟩
theorem l_law {C_TurnError : Addr} {C_InvalidMisses : Addr} {C_InvalidDays : Addr} (T : Bl mg) (ER : Ers K mg C_TurnError C_InvalidMisses C_InvalidDays) (D_law_box : Df P w K mg base CT0 (BB TP1 TP2) 1 "_law_box" 3 ["_law_script", "_law_k", "_law_own"] f_law_box) (D_law_take : Df P w K mg base CT0 (BB TP1 TP2) 1 "_law_take" 2 ["_law_box_here", "_law_limit"] f_law_take) (D_law_days : Df P w K mg base CT0 (BB TP1 TP2) 2 "_law_days" 3 ["_law_box_here", "_law_period", "_law_most"] f_law_days) (D_law_all_heard : Df P w K mg base CT0 (BB TP1 TP2) 8 "_law_all_heard" 3 ["_law_days_here", "_law_period", "_law_good"] f_law_all_heard) (D_law_pick : Df P w K mg base CT0 (BB TP1 TP2) 2 "_law_pick" 2 ["_law_box_here", "_law_some"] f_law_pick) (D_law_heard : Lf K mg "_law_heard" s_law_heard "_law_work") (D_no_longer : Df P w K mg base CT0 (BB TP1 TP2) 5 "no_longer" 3 ["days", "others", "period"] f_no_longer) {f : Addr} {cL : Addr} (TB : LamX.TabB base mg cL TP2) {A : Around} {outer : List Env} {s : Shared} {H : Hp} {E : XK} (hr : Room 8 (A.deeper (envOfC "law" (defScope s_law) s.heap.objs.size f (.ref cL)))) :
  JSs (cxOf (L2.CX P w) P w K mg base N_law "law" (defScope s_law) f (.ref cL) A outer s H E) CT0 (BB TP1 TP2) E (defBody s_law) b_law := by
  have S := S_law
  have h64 : (A.deeper (envOfC "law" (defScope s_law) s.heap.objs.size f (.ref cL))).units + 64 < cLine := by
    have := hr.un
    omega
  have h65 : (A.deeper (envOfC "law" (defScope s_law) s.heap.objs.size f (.ref cL))).units + 65 < cLine := by
    have := hr.un
    omega
  have h1 : (A.deeper (envOfC "law" (defScope s_law) s.heap.objs.size f (.ref cL))).units + 1 < cLine := by
    have := hr.un
    omega
  refine js_cons ?_ (js_cons ?_ (js_cons ?_ js_nil))
  · exact (js_set 1 (j_new (jn_lst (jl_cons j_non (jl_cons j_bl (jl_cons j_bl (jl_cons j_str (jl_cons j_str (jl_cons (j_tup (jl_cons j_int jl_nil)) (jl_cons (j_new (jn_lst (jl_cons j_int jl_nil))) (jl_cons (j_bin op_sub o_sub j_int j_int) (jl_cons (j_bin op_sub o_sub j_int j_int) (jl_cons (j_bin op_pow o_pow j_int j_int) (jl_cons (j_new (jn_lst jl_nil)) (jl_cons (j_new (jn_lst (jl_cons (j_new (jn_lst (jl_cons (j_new (jn_lst (jl_cons (j_new (jn_lst (jl_cons (j_new (jn_lst (jl_cons (j_new (jn_lst (jl_cons (j_new (jn_lst (jl_cons j_int jl_nil))) jl_nil))) jl_nil))) jl_nil))) jl_nil))) jl_nil))) jl_nil))) jl_nil)))))))))))))) S.nd)
  · refine js_for passOwnB (by rfl) (ji_range1 (by rfl) T.n_range (j_callB2 (call_max2 rfl) o_max2 (by rfl) T.n_max (by decide +kernel) j_int (j_callB2 (call_min2 rfl) o_min2 (by rfl) T.n_min (by decide +kernel) j_int (j_callB call_len o_len (by rfl) T.n_len (by decide +kernel) (j_var 0))))) (jg_name 2 S.nd) ?_
    refine js_cons ?_ (js_cons ?_ (js_cons ?_ (js_cons ?_ (js_cons ?_ js_nil))))
    · exact (js_set 3 (j_callD (lv := 1) D_law_box (hr.mono (by decide)) passB (jl_cons (j_var 0) (jl_cons (j_var 2) (jl_cons j_int jl_nil)))) S.nd)
    · exact (js_set 4 (j_bin' op_addA o_add j_int (j_callD (lv := 1) D_law_take (hr.mono (by decide)) passB (jl_cons (j_var 3) (jl_cons j_int jl_nil)))) S.nd)
    · exact (js_set 5 (j_callD (lv := 2) D_law_days (hr.mono (by decide)) passB (jl_cons (j_var 3) (jl_cons (j_var 4) (jl_cons j_int jl_nil)))) S.nd)
    · refine js_for passOwnB (by rfl) (ji_seq (j_tup (jl_cons j_non (jl_cons j_int (jl_cons j_bl (jl_cons j_str (jl_cons j_str (jl_cons (j_new (jn_lst jl_nil)) (jl_cons (j_tup jl_nil) (jl_cons (j_bin op_pow o_pow j_int j_int) (jl_cons (j_new (jn_lst (jl_cons (j_new (jn_lst (jl_cons (j_new (jn_lst (jl_cons (j_new (jn_lst (jl_cons (j_new (jn_lst (jl_cons (j_new (jn_lst (jl_cons (j_new (jn_lst (jl_cons (j_new (jn_lst (jl_cons j_int jl_nil))) jl_nil))) jl_nil))) jl_nil))) jl_nil))) jl_nil))) jl_nil))) jl_nil))) jl_nil))))))))))) (jg_name 6 S.nd) ?_
      refine js_cons ?_ js_nil
      · refine js_if (jt_cmp (op_neD h64) o_ne.op (j_callD (lv := 8) D_law_all_heard (hr.mono (by decide)) passB (jl_cons (j_var 6) (jl_cons (j_var 4) (jl_cons (j_var 5) jl_nil)))) (j_bin' op_mulA o_mul (j_new (jn_lst (jl_cons j_int jl_nil))) j_int) (nomark _)) ?_ ?_
        · refine js_cons ?_ js_nil
          · exact (js_ret j_bl)
        · exact js_nil
    · refine js_for passOwnB (by rfl) (ji_range1 (by rfl) T.n_range j_int) (jg_name 7 S.nd) ?_
      refine js_cons ?_ (js_cons ?_ (js_cons ?_ (js_cons ?_ (js_cons ?_ (js_cons ?_ js_nil)))))
      · exact (js_set 8 (j_callD (lv := 1) D_law_take (hr.mono (by decide)) passB (jl_cons (j_var 3) (jl_cons (j_bin' op_addA o_add (j_callB call_len o_len (by rfl) T.n_len (by decide +kernel) (j_var 5)) j_int) jl_nil))) S.nd)
      · exact (js_set 9 (j_callD (lv := 2) D_law_pick (hr.mono (by decide)) passB (jl_cons (j_var 3) (jl_cons (j_bin' op_addA o_add (j_bin' op_addA o_add (j_var 1) (j_new (jn_lst (jl_cons (j_var 4) (jl_cons (j_bin' op_addA o_add (j_var 4) j_int) jl_nil))))) (j_sl (j_var 5) jo_none (jo_some (j_var 8)))) jl_nil))) S.nd)
      · exact (js_set 10 (j_bin' op_addA o_add (j_bin' op_addA o_add (j_bin' op_addA o_add (j_sl (j_var 5) jo_none (jo_some (j_var 8))) (j_new (jn_lst (jl_cons (j_var 9) jl_nil)))) (j_sl (j_var 5) (jo_some (j_var 8)) jo_none)) (j_new (jn_lst (jl_cons j_str jl_nil)))) S.nd)
      · refine js_if (jw_pt (jw_or (jt_cmp (op_neD h64) o_ne.op (j_callD (lv := 8) D_law_all_heard (hr.mono (by decide)) passB (jl_cons (j_var 10) (jl_cons (j_var 4) (jl_cons (j_var 5) jl_nil)))) (j_bin' op_mulA o_mul (j_new (jn_lst (jl_cons (j_var 8) jl_nil))) j_int) (nomark _)) (jw_or1 (jt_cmp (op_neD h64) o_ne.op (j_callD (lv := 8) D_law_all_heard (hr.mono (by decide)) passB (jl_cons (j_callTy call_tuple_of o_tuple (by rfl) T.n_tuple (by decide +kernel) (j_var 10)) (jl_cons (j_var 4) (jl_cons (j_var 5) jl_nil)))) (j_bin' op_mulA o_mul (j_new (jn_lst (jl_cons (j_var 8) jl_nil))) j_int) (nomark _))))) ?_ ?_
        · refine js_cons ?_ js_nil
          · exact (js_ret j_bl)
        · exact js_nil
      · refine js_if (jt_cmp (op_neD h64) o_ne.op (j_lamF (k := 5) (CS := C_InvalidDays) (ts := tsE K 2 1 C_TurnError C_InvalidMisses "at" "odd") (lit := .str "let") (litA := .str "let") (hv := (hvE "odd" (fun _ => true) (fun _ => false))) D_law_heard S_law_heard TB (hr.mono (by decide)) (gw_law_heard ER T (hr.mono (by decide) : Room 2 _)) (fun E A outer s H f c2 hr => (jx_call (lv := 5) D_no_longer (hr.mono (by decide)) (fun _ _ => (jl_cons (j_var 10) (jl_cons (j_new (jn_lst jl_nil)) (jl_cons (j_var 4) jl_nil)))))) (fun _ _ => by rw [RepG, Rep]) (xm_InvalidDays ER T) (hw_law_heard ER T) (LamX.lamS_by (sc := defScope s_law) (by decide +kernel)) (by intros; rfl)) (j_var 8) (nomark _)) ?_ ?_
        · refine js_cons ?_ js_nil
          · exact (js_ret j_bl)
        · exact js_nil
      · refine js_if (jt_cmp (op_neD h64) o_ne.op (j_callD (lv := 8) D_law_all_heard (hr.mono (by decide)) passB (jl_cons (j_var 5) (jl_cons (j_var 4) (jl_cons (j_var 5) jl_nil)))) (j_bin' op_mulA o_mul (j_new (jn_lst (jl_cons j_str jl_nil))) j_int) (nomark _)) ?_ ?_
        · refine js_cons ?_ js_nil
          · exact (js_ret j_bl)
        · exact js_nil
  · exact (js_ret j_bl)
end
end K52
set_option Elab.async false
set_option linter.all false
set_option maxRecDepth 100000
set_option maxHeartbeats 0
namespace K52
open PySem PySem.Spec PyProof.Rows L2 Dn
theorem take_eq {b : Int} (h1 : 1 ≤ b) (h2 : b < 18446744073709551616) : f_law_take [.box, .int b] = T.draw b.toNat fun r => T.ret (AV.int (r : Int)) := take_ok h1 h2
theorem law_box_all (ns : List Int) (k o : Int) (hk0 : 0 ≤ k) (hk : k < 64) (ho0 : 0 ≤ o) (ho : o < 1000) : (f_law_box [.scr ns, .int k, .int o]).Al (fun t => t = .box) NoX := by
  refine aFnQ rfl ?_
  show (K0_law_box [.fro (.scr ns), .fro (.int k), .fro (.int o), .un, .un, .un]).Al _ _
  simp only [U2f0_law_box, U3_law_box, U2_law_box, U1_law_box, U0_law_box, al_seq, nx_nx, lq_nx]
  refine al_cut (fun ρ => ∃ c : Int, 0 ≤ c ∧ ρ = [.fro (.scr ns), .fro (.int k), .fro (.int o), .fro (.int c), .un, .un]) ?_ fun ρ hρ => ?_
  · by_cases h : k < (ns.length : Int)
    · have hg : k.toNat < ns.length := by omega
      have ek : ((k.toNat : Nat) : Int) = k := by omega
      have e : pIx (.scr ns) (.int k) = some (.int (ns.getD k.toNat 0)) := by
        show atI (ns.map AV.int) k = _
        have := atI_nat' (xs := il ns) (i := k.toNat) (by rw [il_len]; exact hg)
        rw [ek] at this
        exact this.trans (il_get hg)
      (try refine al_rd _ (by (simp -dsimp only [↓fBin_b, ↓fUn_b, ↓fBlT_b, ↓fIf_b, ↓sSet_b, ↓frz_val, ↓blOf_b_b, ↓pLen_s_b, ↓pAbs_i_b, ↓pLt_i_b, rs_val, ↓T.bind_assoc, bind_ret', lift_some, decide_true, ↓reduceIte, ↓vf0, rf0, ↓vf1, rf1, ss3, S0_law_box, h, e]); (try simp only [T.bind_ret]); exact rfl) ?_); (try (with_reducible refine al_nx ?_))
      exact ⟨_, by split <;> omega, rfl⟩
    · (try refine al_rd _ (by (simp -dsimp only [↓fBin_b, ↓fUn_b, ↓fBlT_b, ↓fIf_b, ↓sSet_b, ↓fC_b, ↓frz_val, ↓blOf_b_b, ↓pLen_s_b, ↓pLt_i_b, rs_val, ↓T.bind_assoc, bind_ret', lift_some, decide_false, ↓reduceIte, Bool.false_eq_true, ↓vf0, rf0, ↓vf1, rf1, ss3, S0_law_box, h]); (try simp only [T.bind_ret]); exact rfl) ?_); (try (with_reducible refine al_nx ?_))
      exact ⟨0, Int.le_refl _, rfl⟩
  obtain ⟨c, hc, rfl⟩ := hρ
  have m1 := mul_ok (i := 100291) (j := o) (by decide) (by omega)
  have m2 := mul_ok (i := 7753) (j := k) (by decide) (by omega)
  (simp only [U2f0_law_box, U3_law_box, U2_law_box, U1_law_box, U0_law_box, al_seq, nx_nx, lq_nx]; refine al_rd _ (by (simp -dsimp only [↓fBin_b, ↓sSet_b, ↓fC_b, ↓frz_val, ↓pAdd_i_b, rs_val, ↓T.bind_assoc, bind_ret', lift_some, ↓vf1, rf1, ↓vf2, rf2, ss4, S1_law_box, m1, m2]); (try simp only [T.bind_ret]); exact rfl) ?_); (try (with_reducible refine al_nx ?_))
  have hcut : ∃ l, pCut (.scr ns) none (some 40) = some (.lst (il l)) := by
    show ∃ l, some (AV.lst (cutA (ns.map AV.int) none (some 40))) = _
    unfold cutA
    exact ⟨(ns.drop _).take _, by unfold il; rw [List.map_take, List.map_drop]⟩
  obtain ⟨l, hl⟩ := hcut
  (simp only [U2f0_law_box, U3_law_box, U2_law_box, U1_law_box, U0_law_box, al_seq, nx_nx, lq_nx]; refine al_rd _ (by (simp -dsimp only [↓fSl_b, ↓iSeq_b, ↓sFor_b, ↓fC_b, ↓fPart_n, ↓fPart_s, ↓frz_val, ↓seqOf_l_b, ↓intOf_i_b, rs_val, ↓T.bind_assoc, bind_ret', lift_some, ↓vf0, rf0, S2_law_box, hl]); (try simp only [T.bind_ret]); exact rfl) ?_); (try (with_reducible refine al_nx ?_))
  refine al_forL (fun i ρ => ∃ (seed : Int) (s5 : Dn.Slot), 0 ≤ seed ∧ seed ≤ 2147483646 ∧ ρ = [.fro (.scr ns), .fro (.int k), .fro (.int o), .fro (.int c), .fro (.int seed), s5]) ⟨_, _, by omega, by omega, rfl⟩ (fun i x ρ hx hI => ?_) fun ρ hI => ?_
  · obtain ⟨seed, s5, h0, h1, rfl⟩ := hI
    have hi : i < l.length := by
      have := (List.getElem?_eq_some_iff.mp hx).1
      rwa [il_len] at this
    rw [il_get hi] at hx
    cases hx
    generalize l.getD i 0 = v
    (try refine al_rd _ (by (simp -dsimp only [↓tgName_b, ss5]); (try simp only [T.bind_ret]); exact rfl) ?_); (try (with_reducible refine al_nx ?_)); refine al_retI.mpr ?_
    have r0 := Int.emod_nonneg (seed * 16807 + (if v < 0 then -v else v) % 2147483629 + k) (by decide : (2147483647 : Int) ≠ 0)
    have r1 := Int.emod_lt_of_pos (seed * 16807 + (if v < 0 then -v else v) % 2147483629 + k) (by decide : (0 : Int) < 2147483647)
    have m3 := mul_ok (i := seed) (j := 16807) (by omega) (by decide)
    (simp only [U2f0_law_box, U3_law_box, U2_law_box, U1_law_box, U0_law_box, al_seq, nx_nx, lq_nx]; refine al_rd _ (by (simp -dsimp only [↓fBin_b, ↓fUn_b, ↓sSet_b, ↓fC_b, ↓frz_val, ↓pInt_i_b, ↓pAbs_i_b, ↓pAdd_i_b, rs_val, ↓T.bind_assoc, bind_ret', lift_some, mod_ok, Nat.reduceLT, Int.reduceLT, ↓vf1, rf1, ↓vf4, rf4, ss4, ↓vf5, rf5, S2f0_law_box, m3]); (try simp only [T.bind_ret]); exact rfl) ?_); (try (with_reducible refine al_nx ?_))
    refine al_endL ?_
    exact ⟨_, _, r0, by omega, rfl⟩
  · obtain ⟨seed, s5, h0, h1, rfl⟩ := hI
    have p18 : pPow (.int 10) (.int 18) = some (.int 1000000000000000000) := pow_ok (i := 10) (j := 18) (by decide) (by decide)
    have q1 : testB [.int c, .int (seed + 1)] = true := decide_eq_true ⟨hc, by omega, by omega⟩
    have q2 : testB [.int 0, .int (seed + 1)] = true := decide_eq_true ⟨by omega, by omega, by omega⟩
    by_cases h18 : (1000000000000000000 : Int) ≤ c
    · (simp only [U2f0_law_box, U3_law_box, U2_law_box, U1_law_box, U0_law_box, al_seq, nx_nx, lq_nx]; refine al_rd _ (by (simp -dsimp only [↓fBin_b, ↓fBlT_b, ↓fIf_b, ↓lCons_b, ↓nLst_b, ↓sRetBox_b, ↓fC_b, ↓lNil_b, ↓frz_val, ↓blOf_b_b, ↓pAdd_i_b, ↓pGe_i_b, rs_val, ↓T.bind_assoc, bind_ret', lift_some, big, List.length_cons, List.length_nil, decide_true, ↓reduceIte, Nat.reduceLeDiff, Int.zero_add, Nat.zero_add, ↓vf3, rf3, ↓zf3, ↓vf4, rf4, S3_law_box, p18, h18, q1]); (try simp only [T.bind_ret]); exact rfl) ?_); (try (with_reducible refine al_nx ?_))
      exact al_rtF rfl
    · (simp only [U2f0_law_box, U3_law_box, U2_law_box, U1_law_box, U0_law_box, al_seq, nx_nx, lq_nx]; refine al_rd _ (by (simp -dsimp only [↓fBin_b, ↓fBlT_b, ↓fIf_b, ↓lCons_b, ↓nLst_b, ↓sRetBox_b, ↓fC_b, ↓lNil_b, ↓frz_val, ↓blOf_b_b, ↓pAdd_i_b, ↓pGe_i_b, rs_val, ↓T.bind_assoc, bind_ret', lift_some, big, List.length_cons, List.length_nil, decide_false, ↓reduceIte, Nat.reduceLeDiff, Bool.false_eq_true, Int.zero_add, Nat.zero_add, ↓vf3, rf3, ↓vf4, rf4, S3_law_box, p18, h18, q2]); (try simp only [T.bind_ret]); exact rfl) ?_); (try (with_reducible refine al_nx ?_))
      exact al_rtF rfl
theorem is_integer_eq (i : Int) : f_is_integer [.int i] = .ret (.bl true) := by
  unfold f_is_integer b_is_integer; refine t_eq ?_; simp -dsimp only [fnOf, ↓fUn_b, ↓fAnd_b, ↓fNot_b, ↓sSeq_b, ↓sRet_b, ↓frz_val, ↓blOf_b_b, ↓isi_int_int_b, ↓isi_int_bool_b, rs_val, outV_rt, ↓T.bind_assoc, bind_ret', lift_some, List.length_cons, List.length_nil, List.map_cons, List.map_nil, List.append_nil, List.replicate_zero, Bool.not_false, ↓reduceIte, Nat.reduceSub, Int.reduceSub, Int.zero_add, Nat.zero_add, ↓vf0, rf0]
theorem is_whole_eq (i l : Int) : f_is_whole [.int i, .int l] = .ret (.bl (decide (l ≤ i))) := by
  unfold f_is_whole b_is_whole; refine t_eq ?_; simp -dsimp only [fnOf, ↓fBin_b, ↓fAnd_b, ↓lCons_b, ↓fCall_b, ↓sSeq_b, ↓sRet_b, ↓lNil_b, ↓frz_val, ↓blOf_b_b, ↓pGe_i_b, rs_val, outV_rt, ↓T.bind_assoc, bind_ret', lift_some, List.length_cons, List.length_nil, List.map_cons, List.map_nil, List.append_nil, List.replicate_zero, ↓reduceIte, Nat.reduceSub, Int.reduceAdd, Int.reduceSub, Nat.reduceAdd, Int.zero_add, Nat.zero_add, ↓vf0, rf0, ↓zf0, ↓vf1, rf1, is_integer_eq]
theorem is_below_eq (i n : Int) : f_is_below [.int i, .int n] = .ret (.bl (decide (0 ≤ i ∧ i < n))) := by
  by_cases h : 0 ≤ i
  · unfold f_is_below b_is_below; refine t_eq ?_; simp -dsimp only [fnOf, ↓fBin_b, ↓fAnd_b, ↓lCons_b, ↓fCall_b, ↓sSeq_b, ↓sRet_b, ↓fC_b, ↓lNil_b, ↓frz_val, ↓blOf_b_b, ↓pLt_i_b, rs_val, outV_rt, ↓T.bind_assoc, bind_ret', lift_some, List.length_cons, List.length_nil, List.map_cons, List.map_nil, List.append_nil, List.replicate_zero, true_and, Bool.true_and, decide_true, ↓reduceIte, Nat.reduceSub, Int.reduceAdd, Int.reduceSub, Nat.reduceAdd, Int.zero_add, Nat.zero_add, ↓vf0, rf0, ↓zf0, ↓vf1, rf1, is_whole_eq, h]
  · unfold f_is_below b_is_below; refine t_eq ?_; simp -dsimp only [fnOf, ↓fAnd_b, ↓lCons_b, ↓fCall_b, ↓sSeq_b, ↓sRet_b, ↓fC_b, ↓lNil_b, ↓frz_val, ↓blOf_b_b, rs_val, outV_rt, ↓T.bind_assoc, bind_ret', lift_some, List.length_cons, List.length_nil, List.map_cons, List.map_nil, List.append_nil, List.replicate_zero, false_and, Bool.false_and, decide_false, ↓reduceIte, Nat.reduceSub, Int.reduceAdd, Int.reduceSub, Bool.false_eq_true, Nat.reduceAdd, Int.zero_add, Nat.zero_add, ↓vf0, ↓zf0, is_whole_eq, h]
theorem is_seq_eq {t : AV} {xs : List AV} (h : SeqIs t xs) : f_is_sequence [t] = .ret (.bl true) := by
  rcases h with rfl | rfl
  · unfold f_is_sequence b_is_sequence; refine t_eq ?_; simp -dsimp only [fnOf, ↓fUn_b, ↓sSeq_b, ↓sRet_b, ↓frz_val, ↓isi2_lst_b, outV_rt, ↓T.bind_assoc, bind_ret', lift_some, List.length_cons, List.length_nil, List.map_cons, List.map_nil, List.append_nil, List.replicate_zero, ↓reduceIte, Nat.reduceSub, Int.reduceSub, Int.zero_add, Nat.zero_add, ↓vf0, rf0, S0_is_sequence, U0_is_sequence]
  · unfold f_is_sequence b_is_sequence; refine t_eq ?_; simp -dsimp only [fnOf, ↓fUn_b, ↓sSeq_b, ↓sRet_b, ↓frz_val, ↓isi2_tup_b, outV_rt, ↓T.bind_assoc, bind_ret', lift_some, List.length_cons, List.length_nil, List.map_cons, List.map_nil, List.append_nil, List.replicate_zero, ↓reduceIte, Nat.reduceSub, Int.reduceSub, Int.zero_add, Nat.zero_add, ↓vf0, rf0, S0_is_sequence, U0_is_sequence]
def spotsL (n : Nat) (rows : List Rw) (w : Nat) : List Nat := (List.range (per n rows w)).map (sg rows w)
theorem pIn_il (d : Int) (ds : List Int) : pIn (.int d) (.lst (il ds)) = some (.bl (decide (d ∈ ds))) := by
  show (if dat DEP (.int d) && (il ds).all (dat DEP) then some (AV.bl (inAny (.int d) (il ds))) else none) = _
  rw [dat_il, inR_mem]
  rfl
theorem law_pick_all (xs : List AV) (h0 : 0 < xs.length) (h1 : xs.length < 1000) : (f_law_pick [.box, .lst xs]).Al (fun t => t ∈ xs) NoX := by
  refine aFnQ rfl ?_
  show (K0_law_pick [.fro .box, .fro (.lst xs)]).Al _ _
  have tk := take_eq (b := (xs.length : Int)) (by omega) (by omega)
  (simp only [U0_law_pick, al_seq, nx_nx, lq_nx]; refine al_rd _ (by (simp -dsimp only [↓fBin_b, ↓fUn_b, ↓lCons_b, ↓fCall_b, ↓sRet_b, ↓lNil_b, ↓frz_val, ↓pLen_l_b, rs_val, pIx_l, ↓T.bind_assoc, bind_ret', bind_draw', lift_some, List.append_nil, Int.toNat_natCast, ↓vf0, ↓zf0, ↓vf1, rf1, S0_law_pick, tk]); (try simp only [T.bind_ret]); exact rfl) ?_); (try (with_reducible refine al_nx ?_))
  refine al_dr fun r hr => ?_
  have hr2 : r < xs.length := by omega
  have e : atI xs (r : Int) = some xs[r] := by rw [atI_nat' hr2, List.getElem?_eq_getElem hr2]
  (try refine al_rd _ (by (simp -dsimp only [↓T.bind_assoc, bind_ret', lift_some, e]); (try simp only [T.bind_ret]); exact rfl) ?_); (try (with_reducible refine al_nx ?_))
  refine al_rtF ?_
  exact List.getElem_mem hr2
end K52
set_option Elab.async false
set_option linter.all false
set_option maxRecDepth 100000
set_option maxHeartbeats 0
namespace K52
open PySem PySem.Spec PyProof.Rows L2 Dn
def duesI (rows : List Rw) (w m : Nat) : List Int := ((List.range m).filter (dueb rows w)).map fun k : Nat => (k : Int)
theorem far_item_eq (due : List Int) (p : Int) (n : Nat) (h0 : 0 < due.length) (h1 : due.length < 100000) (hp : p.natAbs < 2 ^ 64) (hn : n < 2 ^ 64) : f_far_item [.lst (il due), .int p, .int (n : Int)] = .ret (.int (far due p n)) := by
  have hm : n % due.length < due.length := Nat.mod_lt _ h0
  have e1 : atI (il due) ((n : Int) % (due.length : Int)) = some (.int (due.getD (n % due.length) 0)) := by
    rw [← Int.natCast_emod, atI_nat' (by rw [il_len]; exact hm), il_get hm]
  have mu := mul_ok (i := (n : Int) / (due.length : Int)) (j := p) (by
    rw [← Int.natCast_ediv, Int.natAbs_natCast]
    exact Nat.lt_of_le_of_lt (Nat.div_le_self _ _) (Nat.lt_of_lt_of_le hn (by decide))) (Nat.lt_of_lt_of_le hp (by decide))
  have c0 : 0 < (due.length : Int) := by omega
  have b29 : below (due.length : Int) 29 = true := below_of (by omega)
  unfold f_far_item b_far_item; refine t_eq ?_; simp -dsimp only [fnOf, ↓fBin_b, ↓fUn_b, ↓sSeq_b, ↓sRet_b, ↓sAsg_b, ↓tgName_b, ↓tgNil_b, ↓tgCons_b, ↓tgTup_b, ↓frz_val, ↓pLen_l_b, ↓pAdd_i_b, rs_val, outV_rt, pIx_l, pDivmod_i, ↓T.bind_assoc, bind_ret', lift_some, List.length_cons, List.length_nil, List.map_cons, List.map_nil, List.nil_append, List.cons_append, List.replicate_succ, List.replicate_zero, and_self, ↓reduceIte, Nat.reduceSub, Int.reduceAdd, Int.reduceSub, Nat.reduceAdd, Int.zero_add, Nat.zero_add, ↓vf0, rf0, ↓vf1, rf1, ↓vf2, rf2, ↓vf3, rf3, ss3, ↓vf4, rf4, ss4, S0_far_item, S1_far_item, U1_far_item, U0_far_item, il_len, c0, b29, e1, mu, far]
def enumP : Nat → List Int → List (Nat × Int)
  | _, [] => []
  | i, d :: r => (i, d) :: enumP (i + 1) r
def enV (p : Nat × Int) : AV := .tup [.int (p.1 : Int), .int p.2]
theorem enumP_V : ∀ (l : List Int) (i : Nat), enumL i (il l) = (enumP i l).map enV
  | [], _ => rfl
  | d :: r, i => by
    show AV.tup [.int (i : Int), .int d] :: enumL (i + 1) (il r) = _
    rw [enumP_V r (i + 1)]
    rfl
theorem enumP_len : ∀ (l : List Int) (i : Nat), (enumP i l).length = l.length
  | [], _ => rfl
  | d :: r, i => by rw [enumP, List.length_cons, List.length_cons, enumP_len r]
theorem enumP_g (due : List Int) (p : Int) (m : Nat) : ∀ (l : List Int) (i : Nat), (enumP i l).map (fun x => AV.int (far due p (x.1 + m + 1) - x.2)) = il (gterms due p m i l)
  | [], _ => rfl
  | d :: r, i => by
    rw [enumP, List.map_cons, enumP_g due p m r (i + 1)]
    rfl
theorem enumP_lt : ∀ (l : List Int) (i : Nat) (x : Nat × Int), x ∈ enumP i l → x.1 < i + l.length
  | [], _, _, h => by cases h
  | d :: r, i, x, h => by
    rw [enumP] at h
    rcases List.mem_cons.mp h with rfl | h
    · show i < i + (r.length + 1)
      omega
    · have := enumP_lt r (i + 1) x h
      rw [List.length_cons]
      omega
theorem pMax1_il {l : List Int} (h : 0 < l.length) : pMax1 (.lst (il l)) = some (.int (top1 l)) := by
  cases l with
  | nil => simp at h
  | cons x r =>
    show (match intsOf (il (x :: r)) with | some (x :: r) => some (AV.int (maxL x r)) | _ => none) = _
    rw [intsOf_il]
    rfl
theorem widest_gap_eq (due : List Int) (p : Int) (m : Nat) (h0 : 0 < due.length) (h1 : due.length < 100000) (hp : p.natAbs < 2 ^ 64) (hm : m < 2 ^ 63) : f_widest_gap [.lst (il due), .int p, .int (m : Int)] = .ret (.int (gap due p m)) := by
  have c : C0_widest_gap [.fro (.lst (il due)), .fro (.int p), .fro (.int m), .un, .un] = .ret (il (gterms due p m 0 due), [.fro (.lst (il due)), .fro (.int p), .fro (.int m), .un, .un]) := by
    rw [← enumP_g]
    refine nLc_M (l := enumP 0 due) enV (fun x => AV.int (far due p (x.1 + m + 1) - x.2)) (by rw [← enumP_V]; refine t_eq ?_; simp -dsimp only [↓Dn.iEnum_b, seqOf_l, ↓T.bind_assoc, bind_ret', lift_some, ↓vf0, ↓zf0]; (try simp only [T.bind_ret])) (by rw [enumP_len]; exact Nat.lt_trans h1 (by decide)) rfl fun x hx => ?_
    have hx := enumP_lt _ _ _ hx
    obtain ⟨i, d⟩ := x
    have e := far_item_eq due p (i + m + 1) h0 h1 hp (by simp at hx; omega)
    have e2 : f_far_item [.lst (il due), .int p, .int ((i : Int) + (m : Int) + 1)] = .ret (.int (far due p (i + m + 1))) := e
    exact ⟨[.fro (.lst (il due)), .fro (.int p), .fro (.int m), .fro (.int (i : Int)), .fro (.int d)], by refine t_eq ?_; simp -dsimp only [↓fBin_b, ↓lCons_b, ↓fCall_b, ↓fC_b, ↓lNil_b, ↓fYes_b, ↓tgName_b, ↓tgNil_b, ↓tgCons_b, ↓tgTup_b, ↓lcRun_b, ↓frz_val, ↓pAdd_i_b, ↓pSub_i_b, rs_val, wipeE_n, wipeE_u, ↓T.bind_assoc, bind_ret', lift_some, List.length_cons, List.length_nil, List.append_nil, ↓reduceIte, Int.reduceAdd, Nat.reduceAdd, Int.zero_add, Nat.zero_add, ↓vf0, ↓zf0, ↓vf1, ↓zf1, ↓vf2, rf2, ↓vf3, rf3, ss3, ↓vf4, rf4, ss4, enV, e2]; (try simp only [T.bind_ret]), rfl⟩
  have pm : pMax1 (.lst (il (gterms due p m 0 due))) = some (.int (gap due p m)) := pMax1_il (by rw [gterms_len]; exact h0)
  unfold f_widest_gap b_widest_gap; refine t_eq ?_; simp -dsimp only [fnOf, ↓fUn_b, ↓sSeq_b, ↓sRet_b, ↓fNew_b, ↓frz_val, rs_val, outV_rt, ↓T.bind_assoc, bind_ret', lift_some, List.length_cons, List.length_nil, List.map_cons, List.map_nil, List.nil_append, List.cons_append, List.replicate_succ, List.replicate_zero, ↓reduceIte, Nat.reduceSub, Int.reduceAdd, Int.reduceSub, Nat.reduceAdd, Int.zero_add, Nat.zero_add, S0_widest_gap, U0_widest_gap, c, pm]
def gapO (n : Nat) (rows : List Rw) (w m : Nat) : Option Int := if Dn.cnt rows w (per n rows w) = 0 then none else some (gap (dysI n rows w) (per n rows w) m)
def optV : Option Int → AV
  | none => .non
  | some i => .int i
def gapsL (n : Nat) (rows : List Rw) (m : Nat) : List AV := (List.range n).map fun w => optV (gapO n rows w m)
def worstO (n : Nat) (rows : List Rw) (m : Nat) : Option Int := if ((List.range n).map fun w => gapO n rows w m).any Option.isNone = true then none else some (top1 ((List.range n).map fun w => (gapO n rows w m).getD 0))
theorem ring_days_eq {t : AV} {ds : List Int} {p : Int} (ht : SeqIs t (il ds)) (h0 : 0 < ds.length) (h1 : ds.length < 100000) (hn : ds.Nodup) (hr : ∀ d ∈ ds, 0 ≤ d ∧ d < p) : f_ring_days [t, .int p] = .ret (.lst (il (Dn.isort ds))) := by
  have hs : seqOf t = some (il ds) := by rcases ht with rfl | rfl <;> rfl
  have hle : pLen t = some (.int ds.length) := by
    rcases ht with rfl | rfl
    · show some (AV.int (il ds).length) = _
      rw [il_len]
    · show some (AV.int (il ds).length) = _
      rw [il_len]
  have q := is_seq_eq ht
  have pe := pEq_int (ds.length : Int) 0
  rw [decide_eq_false (by omega)] at pe
  obtain ⟨ρ', e, s3, s4, rfl⟩ := forL_ex (g := tgTup 2 (tgCons (tgName 3) (tgCons (tgName 4) tgNil))) (body := K2f0_ring_days) (xs := enumL 0 (il ds)) (ρ := [.fro t, .fro (.int p), .md true [], .un, .un]) (fun i ρ => ∃ s3 s4 : Dn.Slot, ρ = [.fro t, .fro (.int p), .md true (Dn.seen (ds.take i)), s3, s4]) ⟨_, _, rfl⟩ fun i x ρ hx hI => by
    obtain ⟨s3, s4, rfl⟩ := hI
    obtain ⟨z, ez, rfl⟩ := enumL_get _ 0 i x hx
    have hi : i < ds.length := by
      have := (List.getElem?_eq_some_iff.mp ez).1
      rwa [il_len] at this
    rw [il_get hi] at ez
    cases ez
    have gi : ds.getD i 0 = ds[i] := by rw [List.getD_eq_getElem?_getD, List.getElem?_eq_getElem hi]; rfl
    have hb := hr _ (Dn.getD_mem hi)
    have nm : ds.getD i 0 ∉ ds.take i := fun z => by
      rw [gi] at z
      obtain ⟨j, hj, e⟩ := List.getElem_of_mem z
      rw [List.length_take] at hj
      rw [List.getElem_take] at e
      exact List.pairwise_iff_getElem.mp hn j i (by omega) hi (by omega) e
    have sn := seen_none nm
    have sp := seen_put nm
    have tk : ds.take i ++ [ds.getD i 0] = ds.take (i + 1) := by
      rw [List.take_succ, List.getElem?_eq_getElem hi, gi]
      rfl
    rw [tk] at sp
    have sl : (Dn.seen (ds.take i)).length < 1000000 := by
      unfold Dn.seen
      rw [List.length_map, List.length_take]
      omega
    have ib := is_below_eq (ds.getD i 0) p
    rw [decide_eq_true hb] at ib
    generalize ds.getD i 0 = d at *
    refine ⟨[.fro t, .fro (.int p), .md true (Dn.seen (ds.take i)), .fro (.int ((0 + i : Nat) : Int)), .fro (.int d)], [.fro t, .fro (.int p), .md true (Dn.seen (ds.take (i + 1))), .fro (.int ((0 + i : Nat) : Int)), .fro (.int d)], by refine t_eq ?_; simp -dsimp only [↓tgName_b, ↓tgNil_b, ↓tgCons_b, ↓tgTup_b, ↓T.bind_assoc, List.length_cons, List.length_nil, ↓reduceIte, Int.reduceAdd, Nat.reduceAdd, Int.zero_add, Nat.zero_add, ss3, ss4]; (try simp only [T.bind_ret]), ?_, _, _, rfl⟩
    refine t_eq ?_; simp -dsimp only [↓fTru_b, ↓fNotT_b, ↓fOrT_b, ↓lCons_b, ↓fCall_b, ↓sSeq_b, ↓sIf_b, ↓tDin_b, ↓sDput_b, ↓fC_b, ↓lNil_b, ↓sNil_b, ↓frz_val, ↓tru_b_b, rs_val, ↓keyOf1_ib, ↓T.bind_assoc, bind_ret', lift_some, big, List.append_nil, Bool.not_true, ↓reduceIte, Bool.false_eq_true, Int.zero_add, Nat.zero_add, ↓vf1, ↓zf1, ss2, ↓imd2, ↓vf4, rf4, ↓zf4, S2f0t0_ring_days, U2f0t0_ring_days, S2f0_ring_days, S2f1_ring_days, U2f1_ring_days, U2f0_ring_days, ib, sn, sp, sl, Option.isSome]; (try simp only [T.bind_ret])
  rw [enumL_length, il_len, List.take_length] at e
  have q1 : (Dn.seen ds).map (fun x => x.1) = il ds := by
    unfold Dn.seen il
    rw [List.map_map]
    rfl
  have q2 : pSorted (.lst (il ds)) = some (.lst (il (Dn.isort ds))) := by
    unfold pSorted
    rw [seqOf_l, Option.bind_some, intsOf_il, Option.bind_some, if_pos (show ds.length ≤ big from (by show ds.length ≤ 1000000; omega))]
    rfl
  unfold f_ring_days b_ring_days; refine t_eq ?_; simp -dsimp only [fnOf, ↓fBin_b, ↓fUn_b, ↓fTru_b, ↓fBlT_b, ↓fNotT_b, ↓fOrT_b, ↓lCons_b, ↓fCall_b, ↓sSeq_b, ↓sRet_b, ↓sIf_b, ↓sFor_b, ↓fDlist_b, ↓Dn.iEnum_b, ↓fC_b, ↓lNil_b, ↓sNil_b, ↓sDnew_b, ↓frz_val, ↓blOf_b_b, ↓tru_b_b, rs_val, outV_rt, ↓T.bind_assoc, bind_ret', lift_some, List.length_cons, List.length_nil, List.map_cons, List.map_nil, List.append_nil, List.nil_append, List.cons_append, List.replicate_succ, List.replicate_zero, Bool.not_true, ↓reduceIte, Nat.reduceSub, Int.reduceAdd, Int.reduceSub, Bool.false_eq_true, Nat.reduceAdd, Int.zero_add, Nat.zero_add, ↓vf0, rf0, ↓zf0, ss2, ↓imd2, S0t0_ring_days, U0t0_ring_days, S0_ring_days, S1_ring_days, S2_ring_days, S3_ring_days, U3_ring_days, U2_ring_days, U1_ring_days, U0_ring_days, q, hle, pe, hs, e, q1, q2]
theorem ring_gap_eq {t : AV} {ds : List Int} {p : Int} {m : Nat} (ht : SeqIs t (il ds)) (h0 : 0 < ds.length) (h1 : ds.length < 100000) (hn : ds.Nodup) (hr : ∀ d ∈ ds, 0 ≤ d ∧ d < p) (hp : p < 2 ^ 64) (hm : m < 2 ^ 63) : f_ring_gap [t, .int p, .int (m : Int)] = .ret (.int (gap (Dn.isort ds) p m)) := by
  have a := ring_days_eq ht h0 h1 hn hr
  have hp0 : 0 ≤ p := by
    have := hr _ (Dn.getD_mem h0)
    omega
  have b := widest_gap_eq (Dn.isort ds) p m (by rw [(Dn.isort_perm ds).length_eq]; exact h0) (by rw [(Dn.isort_perm ds).length_eq]; exact h1) (by omega) hm
  unfold f_ring_gap b_ring_gap; refine t_eq ?_; simp -dsimp only [fnOf, ↓lCons_b, ↓fCall_b, ↓sSeq_b, ↓sRet_b, ↓lNil_b, ↓frz_val, outV_rt, ↓T.bind_assoc, bind_ret', List.length_cons, List.length_nil, List.map_cons, List.map_nil, List.append_nil, List.replicate_zero, ↓reduceIte, Nat.reduceSub, Int.reduceAdd, Int.reduceSub, Nat.reduceAdd, Int.zero_add, Nat.zero_add, ↓vf0, ↓zf0, ↓vf1, ↓zf1, ↓vf2, ↓zf2, S0_ring_gap, U0_ring_gap, a, b]
end K52
set_option Elab.async false
set_option linter.all false
set_option maxRecDepth 100000
set_option maxHeartbeats 0
namespace K52
open PySem PySem.Spec PyProof.Rows L2 Dn
theorem least_gap_eq (p n m : Nat) (h0 : 0 < n) (h1 : n < 100000) (hp : p < 2 ^ 64) (hm : m < 2 ^ 63) : f_least_gap [.int (p : Int), .int (n : Int), .int (m : Int)] = .ret (.int (least (p : Int) n m)) := by
  have mu := mul_ok (i := -((m : Int) + 1)) (j := (p : Int)) (by omega) (by omega)
  have di := div_ok (i := -((m : Int) + 1) * (p : Int)) (j := (n : Int)) (by omega) (by omega)
  unfold least
  unfold f_least_gap b_least_gap; refine t_eq ?_; simp -dsimp only [fnOf, ↓fBin_b, ↓fUn_b, ↓sSeq_b, ↓sRet_b, ↓fC_b, ↓frz_val, ↓pAdd_i_b, ↓pNeg_i_b, rs_val, outV_rt, ↓T.bind_assoc, bind_ret', lift_some, List.length_cons, List.length_nil, List.map_cons, List.map_nil, List.append_nil, List.replicate_zero, ↓reduceIte, Nat.reduceSub, Int.reduceAdd, Int.reduceSub, Nat.reduceAdd, Int.zero_add, Nat.zero_add, ↓vf0, rf0, ↓vf1, rf1, ↓vf2, rf2, S0_least_gap, U0_least_gap, mu, di]
theorem first_gaps_eq (due : List Int) (p : Int) (h0 : 0 < due.length) (h1 : due.length < 100000) (hp : p.natAbs < 2 ^ 64) : f_first_gaps [.lst (il due), .int p] = .ret (.lst (il ((List.range due.length).map (gap due p)))) := by
  have b62 : below (due.length : Int) 62 = true := below_of (by omega)
  have c : C0_first_gaps [.fro (.lst (il due)), .fro (.int p), .un] = .ret (il ((List.range due.length).map (gap due p)), [.fro (.lst (il due)), .fro (.int p), .un]) := by
    rw [show il ((List.range due.length).map (gap due p)) = (List.range due.length).map (fun i => AV.int (gap due p i)) by unfold il; rw [List.map_map]; rfl]
    refine nLc_M (l := List.range due.length) (fun w : Nat => AV.int (w : Int)) (fun i => AV.int (gap due p i)) (by rw [show (List.range due.length).map (fun w : Nat => AV.int (w : Int)) = rangeL 0 due.length from (rangeL_nl _).symm]; refine t_eq ?_; simp -dsimp only [↓fUn_b, ↓iRange1_b, ↓intOf_i_b, ↓pLen_l_b, rs_val, ↓T.bind_assoc, bind_ret', lift_some, ↓reduceIte, Int.toNat_natCast, ↓vf0, rf0, il_len, b62]; (try simp only [T.bind_ret])) (by rw [List.length_range]; exact Nat.lt_trans h1 (by decide)) rfl fun i hi => ?_
    have e := widest_gap_eq due p i h0 h1 hp (by have := List.mem_range.mp hi; omega)
    exact ⟨[.fro (.lst (il due)), .fro (.int p), .fro (.int i)], by refine t_eq ?_; simp -dsimp only [↓lCons_b, ↓fCall_b, ↓lNil_b, ↓fYes_b, ↓tgName_b, ↓lcRun_b, ↓frz_val, wipeE_n, wipeE_u, ↓T.bind_assoc, bind_ret', List.append_nil, ↓reduceIte, ↓vf0, ↓zf0, ↓vf1, ↓zf1, ↓vf2, ↓zf2, ss2, e]; (try simp only [T.bind_ret]), rfl⟩
  unfold f_first_gaps b_first_gaps; refine t_eq ?_; simp -dsimp only [fnOf, ↓sSeq_b, ↓sRet_b, ↓fNew_b, ↓frz_val, outV_rt, ↓T.bind_assoc, bind_ret', List.length_cons, List.length_nil, List.map_cons, List.map_nil, List.nil_append, List.cons_append, List.replicate_succ, List.replicate_zero, ↓reduceIte, Nat.reduceSub, Int.reduceAdd, Int.reduceSub, Nat.reduceAdd, Int.zero_add, Nat.zero_add, S0_first_gaps, U0_first_gaps, c]
theorem lcm_lt {a b : Nat} (h0 : 0 < a) (h1 : a < 100000) (h2 : 0 < b) (h3 : b < 100000) : Nat.lcm a b < 10000000000 := by
  have q : Nat.lcm a b ≤ a * b := Nat.le_of_dvd (Nat.mul_pos h0 h2) (Nat.lcm_dvd (Nat.dvd_mul_right _ _) (Nat.dvd_mul_left _ _))
  have r : a * b ≤ 99999 * 99999 := Nat.mul_le_mul (by omega) (by omega)
  omega
def StP (n : Nat) (r1 r2 : List Rw) (w o : Nat) : Prop := Dn.cnt r2 o (per n r2 o) = 0 ∨ (0 < Dn.cnt r1 w (per n r1 w) ∧ ∀ i, gap (dysI n r1 w) (per n r1 w) i ≤ gap (dysI n r2 o) (per n r2 o) i)
def folV (n w : Nat) : AV := .tup [.int (w : Int), .int (((w + 1) % n : Nat) : Int)]
def Best2 (D : List Int) (p : Int) : Prop := (List.range D.length).map (gap D p) = (List.range D.length).map (least p D.length)
def evR (n k : Nat) : List Rw := [((List.range k).map fun i : Nat => (i : Int), (List.range n).map fun s => (s + k) % n)]
def LeO : Option Int → Option Int → Prop
  | _, none => True
  | none, some _ => False
  | some x, some y => x ≤ y
theorem nl_all {D O : List Int} {p q : Int} (hD : 0 < D.length) (hO : 0 < O.length) (h : ∀ i, i < Nat.lcm D.length O.length → gap D p i ≤ gap O q i) : ∀ i, gap D p i ≤ gap O q i := by
  obtain ⟨a, ha⟩ := Nat.dvd_lcm_left D.length O.length
  obtain ⟨b, hb⟩ := Nat.dvd_lcm_right D.length O.length
  have hL0 : 0 < Nat.lcm D.length O.length := Nat.lcm_pos hD hO
  generalize hn : Nat.lcm D.length O.length = n at *
  have a0 : 0 < a := Nat.pos_of_ne_zero fun z => by rw [z, Nat.mul_zero] at ha; omega
  have b0 : 0 < b := Nat.pos_of_ne_zero fun z => by rw [z, Nat.mul_zero] at hb; omega
  have last : (a : Int) * p ≤ (b : Int) * q := by
    have z := h (n - 1) (by omega)
    have e1 : n - 1 = (a - 1) * D.length + (D.length - 1) := by
      have : (a - 1 + 1) * D.length = n := by rw [show a - 1 + 1 = a by omega, Nat.mul_comm]; exact ha.symm
      rw [Nat.add_mul] at this
      omega
    have e2 : n - 1 = (b - 1) * O.length + (O.length - 1) := by
      have : (b - 1 + 1) * O.length = n := by rw [show b - 1 + 1 = b by omega, Nat.mul_comm]; exact hb.symm
      rw [Nat.add_mul] at this
      omega
    have q1 : gap D p (n - 1) = (a : Int) * p := by
      rw [e1, Dn.gap_add hD, gap_whole hD]
      have : ((a - 1 : Nat) : Int) = (a : Int) - 1 := by omega
      rw [this, Int.sub_mul]
      omega
    have q2 : gap O q (n - 1) = (b : Int) * q := by
      rw [e2, Dn.gap_add hO, gap_whole hO]
      have : ((b - 1 : Nat) : Int) = (b : Int) - 1 := by omega
      rw [this, Int.sub_mul]
      omega
    rw [q1, q2] at z
    exact z
  intro i
  have z := h (i % n) (Nat.mod_lt _ hL0)
  have e := Nat.div_add_mod i n
  have g1 : gap D p i = ((i / n * a : Nat) : Int) * p + gap D p (i % n) := by
    rw [← Dn.gap_add hD (i / n * a) (i % n), Nat.mul_assoc, Nat.mul_comm a, ← ha, Nat.mul_comm, e]
  have g2 : gap O q i = ((i / n * b : Nat) : Int) * q + gap O q (i % n) := by
    rw [← Dn.gap_add hO (i / n * b) (i % n), Nat.mul_assoc, Nat.mul_comm b, ← hb, Nat.mul_comm, e]
  have m : ((i / n * a : Nat) : Int) * p ≤ ((i / n * b : Nat) : Int) * q := by
    rw [Int.natCast_mul, Int.natCast_mul, Int.mul_assoc, Int.mul_assoc]
    exact Int.mul_le_mul_of_nonneg_left last (Int.natCast_nonneg _)
  omega
theorem search2 {g : GSem} {body : SSem} {c : Nat → Prop} [DecidablePred c] {v : Nat → AV} {S : Dn.Slot → Env'} {n : Nat} (hg : ∀ (i : Nat) (s : Dn.Slot), g (.int (i : Int)) (S s) = .ret (S (.fro (.int (i : Int)))))
    (hb : ∀ i, i < n → body (S (.fro (.int (i : Int)))) = .ret (if c i then .nx (S (.fro (.int (i : Int)))) else .rt (v i))) : ∀ (k i : Nat) (s : Dn.Slot), i + k = n →
    (∃ s', forL g body ((rangeL 0 n).drop i) (S s) = .ret (.nx (S s')) ∧ ∀ j, i ≤ j → j < n → c j) ∨ ∃ j, i ≤ j ∧ j < n ∧ ¬ c j ∧ forL g body ((rangeL 0 n).drop i) (S s) = .ret (.rt (v j)) ∧ ∀ u, i ≤ u → u < j → c u
  | 0, i, s, e => by
    have e : i = n := by omega
    subst e
    rw [List.drop_of_length_le (by rw [range_len]; exact Nat.le_refl _)]
    exact .inl ⟨s, rfl, fun j h1 h2 => by omega⟩
  | k + 1, i, s, e => by
    have hi : i < n := by omega
    have gx : (rangeL 0 n)[i]'(by rw [range_len]; exact hi) = .int (i : Int) := by
      unfold rangeL
      simp
    rw [List.drop_eq_getElem_cons (by rw [range_len]; exact hi), gx]
    show (∃ s', (T.bind (g (.int (i : Int)) (S s)) _) = _ ∧ _) ∨ ∃ j, _ ∧ _ ∧ _ ∧ (T.bind (g (.int (i : Int)) (S s)) _) = _ ∧ _
    rw [hg, bind_ret', hb i hi, bind_ret']
    by_cases hc : c i
    · rw [if_pos hc]
      rcases search2 hg hb k (i + 1) (.fro (.int (i : Int))) (by omega) with ⟨s', e1, h⟩ | ⟨j, h1, h2, h3, e1, h4⟩
      · refine .inl ⟨s', e1, fun j h1 h2 => ?_⟩
        by_cases hj : j = i
        · rw [hj]; exact hc
        · exact h j (by omega) h2
      · refine .inr ⟨j, by omega, h2, h3, e1, fun u h5 h6 => ?_⟩
        by_cases hj : u = i
        · rw [hj]; exact hc
        · exact h4 u (by omega) h6
    · rw [if_neg hc]
      exact .inr ⟨i, Nat.le_refl _, hi, hc, rfl, fun u h5 h6 => by omega⟩
def FLx (D O : List Int) (p q : Int) (o : Option Int) : Prop := (o = none ∧ ∀ i, gap D p i ≤ gap O q i) ∨ ∃ k : Nat, k < 10000000000 ∧ o = some (k : Int) ∧ ¬ gap D p k ≤ gap O q k ∧ ∀ i, i < k → gap D p i ≤ gap O q i
theorem first_longer_x {D O : List Int} {p q : Int} (hD0 : 0 < D.length) (hD1 : D.length < 100000) (hO0 : 0 < O.length) (hO1 : O.length < 100000) (hp : p.natAbs < 2 ^ 64) (hq : q.natAbs < 2 ^ 64) : ∃ o : Option Int, f_first_longer [.lst (il D), .int p, .lst (il O), .int q] = .ret (optV o) ∧ FLx D O p q o := by
  have g1 := first_gaps_eq D p hD0 hD1 hp
  have g2 := first_gaps_eq O q hO0 hO1 hq
  have ll := lcm_lt hD0 hD1 hO0 hO1
  have nl := nl_all (p := p) (q := q) hD0 hO0
  have lc : pLcm (.int (D.length : Int)) (.int (O.length : Int)) = some (.int (Nat.lcm D.length O.length : Nat)) := if_pos ⟨by omega, below_of (by omega), by omega, below_of (by omega)⟩
  have b62 : below ((Nat.lcm D.length O.length : Nat) : Int) 62 = true := below_of (by omega)
  have f1 : ∀ i : Nat, i < 10000000000 → f_far_item [.lst (il ((List.range D.length).map (gap D p))), .int p, .int (i : Int)] = .ret (.int (gap D p i)) := fun i hi => by
    have z := far_item_eq ((List.range D.length).map (gap D p)) p i (by rw [List.length_map, List.length_range]; exact hD0) (by rw [List.length_map, List.length_range]; exact hD1) hp (by omega)
    rwa [far_gaps hD0] at z
  have f2 : ∀ i : Nat, i < 10000000000 → f_far_item [.lst (il ((List.range O.length).map (gap O q))), .int q, .int (i : Int)] = .ret (.int (gap O q i)) := fun i hi => by
    have z := far_item_eq ((List.range O.length).map (gap O q)) q i (by rw [List.length_map, List.length_range]; exact hO0) (by rw [List.length_map, List.length_range]; exact hO1) hq (by omega)
    rwa [far_gaps hO0] at z
  generalize hN : Nat.lcm D.length O.length = N at *
  generalize hG : il ((List.range D.length).map (gap D p)) = G at *
  generalize hH : il ((List.range O.length).map (gap O q)) = H at *
  have hb : ∀ i, i < N → K1f0_first_longer [.fro (.lst (il D)), .fro (.int p), .fro (.lst (il O)), .fro (.int q), .fro (.lst G), .fro (.lst H), .fro (.int (i : Int))] = .ret (if gap D p i ≤ gap O q i then .nx [.fro (.lst (il D)), .fro (.int p), .fro (.lst (il O)), .fro (.int q), .fro (.lst G), .fro (.lst H), .fro (.int (i : Int))] else .rt (.int (i : Int))) := by
    intro i hi
    have a1 := f1 i (by omega)
    have a2 := f2 i (by omega)
    by_cases hc : gap D p i ≤ gap O q i
    · have hc' : ¬ gap O q i < gap D p i := by omega
      rw [if_pos hc]
      refine t_eq ?_; simp -dsimp only [↓fBin_b, ↓fBlT_b, ↓lCons_b, ↓fCall_b, ↓sSeq_b, ↓sIf_b, ↓lNil_b, ↓sNil_b, ↓blOf_b_b, ↓pGt_i_b, rs_val, ↓T.bind_assoc, bind_ret', lift_some, List.append_nil, decide_false, ↓reduceIte, Bool.false_eq_true, ↓vf1, ↓zf1, ↓vf3, ↓zf3, ↓vf4, ↓zf4, ↓vf5, ↓zf5, ↓vf6, ↓zf6, S1f0t0_first_longer, U1f0t0_first_longer, S1f0_first_longer, U1f0_first_longer, a1, a2, hc']; (try simp only [T.bind_ret])
    · have hc' : gap O q i < gap D p i := by omega
      rw [if_neg hc]
      refine t_eq ?_; simp -dsimp only [↓fBin_b, ↓fBlT_b, ↓lCons_b, ↓fCall_b, ↓sSeq_b, ↓sRet_b, ↓sIf_b, ↓lNil_b, ↓blOf_b_b, ↓pGt_i_b, rs_val, ↓T.bind_assoc, bind_ret', lift_some, List.append_nil, decide_true, ↓reduceIte, ↓vf1, ↓zf1, ↓vf3, ↓zf3, ↓vf4, ↓zf4, ↓vf5, ↓zf5, ↓vf6, ↓zf6, S1f0t0_first_longer, U1f0t0_first_longer, S1f0_first_longer, U1f0_first_longer, a1, a2, hc']; (try simp only [T.bind_ret])
  rcases search2 (g := tgName 6) (c := fun i => gap D p i ≤ gap O q i) (v := fun i => .int (i : Int)) (S := fun s => [.fro (.lst (il D)), .fro (.int p), .fro (.lst (il O)), .fro (.int q), .fro (.lst G), .fro (.lst H), s]) (n := N) (fun i s => rfl) hb N 0 .un (by omega) with ⟨s', e, h⟩ | ⟨j, _, hj, hc, e, hu⟩
  · rw [List.drop_zero] at e
    refine ⟨none, ?_, .inl ⟨rfl, nl fun i hi => h i (Nat.zero_le _) hi⟩⟩
    show _ = T.ret AV.non
    unfold f_first_longer b_first_longer; refine t_eq ?_; simp -dsimp only [fnOf, ↓fBin_b, ↓fUn_b, ↓lCons_b, ↓fCall_b, ↓sSeq_b, ↓sRet_b, ↓iRange1_b, ↓sFor_b, ↓sPar_b, ↓fC_b, ↓lNil_b, ↓frz_val, ↓intOf_i_b, ↓pLen_l_b, rs_val, outV_rt, ↓T.bind_assoc, bind_ret', lift_some, List.length_cons, List.length_nil, List.map_cons, List.map_nil, List.append_nil, List.nil_append, List.cons_append, List.replicate_succ, List.replicate_zero, ↓reduceIte, Nat.reduceSub, Int.reduceAdd, Int.reduceSub, Int.toNat_natCast, Nat.reduceAdd, Int.zero_add, Nat.zero_add, ↓vf0, rf0, ↓zf0, ↓vf1, ↓zf1, ↓vf2, rf2, ↓zf2, ↓vf3, ↓zf3, ss4, ss5, S0_first_longer, S1_first_longer, S2_first_longer, U2_first_longer, U1_first_longer, U0_first_longer, g1, g2, lc, il_len, b62, e]
  · rw [List.drop_zero] at e
    refine ⟨some j, ?_, .inr ⟨j, by omega, rfl, hc, fun i hi => hu i (Nat.zero_le _) hi⟩⟩
    show _ = T.ret (AV.int (j : Int))
    unfold f_first_longer b_first_longer; refine t_eq ?_; simp -dsimp only [fnOf, ↓fBin_b, ↓fUn_b, ↓lCons_b, ↓fCall_b, ↓sSeq_b, ↓iRange1_b, ↓sFor_b, ↓sPar_b, ↓lNil_b, ↓frz_val, ↓intOf_i_b, ↓pLen_l_b, rs_val, outV_rt, ↓T.bind_assoc, bind_ret', lift_some, List.length_cons, List.length_nil, List.map_cons, List.map_nil, List.append_nil, List.nil_append, List.cons_append, List.replicate_succ, List.replicate_zero, ↓reduceIte, Nat.reduceSub, Int.reduceAdd, Int.reduceSub, Int.toNat_natCast, Nat.reduceAdd, Int.zero_add, Nat.zero_add, ↓vf0, rf0, ↓zf0, ↓vf1, ↓zf1, ↓vf2, rf2, ↓zf2, ↓vf3, ↓zf3, ss4, ss5, S0_first_longer, S1_first_longer, U1_first_longer, U0_first_longer, g1, g2, lc, il_len, b62, e]
def NoSt (n : Nat) (r1 r2 : List Rw) (w o : Nat) : Prop := ∀ i, LeO (gapO n r1 w i) (gapO n r2 o i)
def SRx (n : Nat) (r1 r2 : List Rw) (w o : Nat) (x : Option Int) : Prop := (x = none ∧ NoSt n r1 r2 w o) ∨ ∃ k : Nat, k < 10000000000 ∧ x = some (k : Int) ∧ ¬ LeO (gapO n r1 w k) (gapO n r2 o k) ∧ ∀ i, i < k → LeO (gapO n r1 w i) (gapO n r2 o i)
def SVx (n : Nat) (r1 r2 : List Rw) (t : AV) : Prop := (t = .non ∧ ∀ w, w < n → NoSt n r1 r2 w w) ∨ ∃ w m : Nat, w < n ∧ m < 10000000000 ∧ t = .tup [.int (w : Int), .int (m : Int)] ∧ ¬ LeO (gapO n r1 w m) (gapO n r2 w m) ∧ ∀ i, i < m → ∀ v, v < n → LeO (gapO n r1 v i) (gapO n r2 v i)
def NvS (n : Nat) (r1 r2 : List Rw) : Prop := ∀ w, w < n → NoSt n r1 r2 w w
end K52
set_option Elab.async false
set_option linter.all false
set_option maxRecDepth 100000
set_option maxHeartbeats 0
namespace K52
open PySem PySem.Spec PyProof.Rows L2 Dn
def inv (n : Nat) (rows : List Rw) (d s : Nat) : Nat := ((List.range n).find? fun w => sg rows w d == s).getD 0
def duesAt (n : Nat) (rows : List Rw) (d : Nat) : List Nat := (List.range n).filter fun w => dueb rows w d
theorem pNotIn_il (d : Int) (ds : List Int) : pNotIn (.int d) (.lst (il ds)) = some (.bl (!decide (d ∈ ds))) := by
  have q := pIn_il d ds
  unfold pIn at q
  unfold pNotIn
  split at q <;> simp_all
def DaysOk (p : Nat) (ds : List Int) : Prop := ds.Nodup ∧ (∀ d ∈ ds, 0 ≤ d ∧ d < (p : Int)) ∧ 0 < ds.length ∧ ds.length ≤ 8
theorem law_days_all (p : Nat) (hp0 : 0 < p) (hp : p < 2 ^ 40) : (f_law_days [.box, .int (p : Int), .int 8]).Al (fun t => ∃ ds, t = .lst (il ds) ∧ DaysOk p ds) NoX := by
  refine aFnQ rfl ?_
  show (K0_law_days [.fro .box, .fro (.int (p : Int)), .fro (.int 8), .un, .un, .un]).Al _ _
  have t5 := take_eq (b := 8) (by decide) (by decide)
  have tp := take_eq (b := (p : Int)) (by omega) (by omega)
  (simp only [U1f1_law_days, U1f0_law_days, U2_law_days, U1_law_days, U0_law_days, al_seq, nx_nx, lq_nx]; refine al_rd _ (by (simp -dsimp only [↓sSetN_b, ↓nLst_b, ↓lNil_b, ↓T.bind_assoc, bind_ret', big, List.length_nil, ↓reduceIte, Nat.reduceLeDiff, ss3, S0_law_days]); (try simp only [T.bind_ret]); exact rfl) ?_); (try (with_reducible refine al_nx ?_))
  (simp only [U1f1_law_days, U1f0_law_days, U2_law_days, U1_law_days, U0_law_days, al_seq, nx_nx, lq_nx]; refine al_rd _ (by (simp -dsimp only [↓fBin_b, ↓lCons_b, ↓fCall_b, ↓iRange1_b, ↓sFor_b, ↓fC_b, ↓lNil_b, ↓intOf_i_b, ↓pAdd_i_b, rs_val, ↓T.bind_assoc, bind_ret', bind_draw', lift_some, List.append_nil, Int.reduceToNat, ↓vf0, ↓zf0, ↓vf2, ↓zf2, S1_law_days, t5]); (try simp only [T.bind_ret]); exact rfl) ?_); (try (with_reducible refine al_nx ?_))
  refine al_dr fun m hm => ?_
  have b62 : below (1 + (m : Int)) 62 = true := below_of (by omega)
  (try refine al_rd _ (by (simp -dsimp only [↓T.bind_assoc, bind_ret', ↓reduceIte, b62]); (try simp only [T.bind_ret]); exact rfl) ?_); (try (with_reducible refine al_nx ?_))
  refine al_forL (fun i ρ => ∃ (ds : List Int) (s4 s5 : Dn.Slot), ρ = [.fro .box, .fro (.int (p : Int)), .fro (.int 8), .ml (il ds), s4, s5] ∧ ds.Nodup ∧ (∀ d ∈ ds, 0 ≤ d ∧ d < (p : Int)) ∧ ds.length ≤ i ∧ (0 < i → 0 < ds.length)) ⟨[], _, _, rfl, List.nodup_nil, (fun d hd => nomatch hd), Nat.le_refl _, fun h => absurd h (Nat.lt_irrefl 0)⟩ (fun i x ρ hx hI => ?_) fun ρ hI => ?_
  · obtain ⟨ds, s4, s5, rfl, h1, h2, h3, h4⟩ := hI
    obtain ⟨hi, rfl⟩ := range_get hx
    (try refine al_rd _ (by (simp -dsimp only [↓tgName_b, Int.zero_add, Nat.zero_add, ss4]); (try simp only [T.bind_ret]); exact rfl) ?_); (try (with_reducible refine al_nx ?_)); refine al_retI.mpr ?_
    (simp only [U1f1_law_days, U1f0_law_days, U2_law_days, U1_law_days, U0_law_days, al_seq, nx_nx, lq_nx]; refine al_rd _ (by (simp -dsimp only [↓lCons_b, ↓fCall_b, ↓sSet_b, ↓lNil_b, ↓frz_val, ↓T.bind_assoc, bind_ret', bind_draw', List.append_nil, Int.toNat_natCast, ↓vf0, ↓zf0, ↓vf1, ↓zf1, ss5, S1f0_law_days, tp]); (try simp only [T.bind_ret]); exact rfl) ?_); (try (with_reducible refine al_nx ?_))
    refine al_dr fun d hd => ?_
    (try refine al_rd _ (by (simp -dsimp only [bind_ret']); (try simp only [T.bind_ret]); exact rfl) ?_); (try (with_reducible refine al_nx ?_))
    have pn := pNotIn_il (d : Int) ds
    by_cases hm : (d : Int) ∈ ds
    · rw [decide_eq_true hm] at pn
      have hl : (il ds).length ≤ 1000000 := by rw [il_len]; omega
      (simp only [U1f1_law_days, U1f0_law_days, U2_law_days, U1_law_days, U0_law_days, al_seq, nx_nx, lq_nx]; refine al_rd _ (by (simp -dsimp only [↓fBin_b, ↓fBlT_b, ↓fIf_b, ↓sExpr_b, ↓fNew_b, ↓nLst_b, ↓fExtend_b, ↓lNil_b, ↓lstOf_l_b, ↓blOf_b_b, rs_val, ↓T.bind_assoc, bind_ret', lift_some, big, List.length_nil, List.append_nil, Bool.not_true, ↓reduceIte, Nat.reduceLeDiff, Bool.false_eq_true, Int.add_zero, Nat.add_zero, ↓vm3, rm3, ↓im3, ss3, ↓vf5, rf5, S1f1_law_days, pn, hl]); (try simp only [T.bind_ret]); exact rfl) ?_); (try (with_reducible refine al_nx ?_))
      refine al_endL ?_
      exact ⟨ds, _, _, rfl, h1, h2, by omega, fun _ => List.length_pos_of_mem hm⟩
    · rw [decide_eq_false hm] at pn
      have hl : (il ds).length ≤ 999999 := by rw [il_len]; omega
      have e : il ds ++ [AV.int (d : Int)] = il (ds ++ [(d : Int)]) := by unfold il; rw [List.map_append]; rfl
      (simp only [U1f1_law_days, U1f0_law_days, U2_law_days, U1_law_days, U0_law_days, al_seq, nx_nx, lq_nx]; refine al_rd _ (by (simp -dsimp only [↓fBin_b, ↓fBlT_b, ↓fIf_b, ↓lCons_b, ↓sExpr_b, ↓fNew_b, ↓nLst_b, ↓fExtend_b, ↓lNil_b, ↓lstOf_l_b, ↓blOf_b_b, rs_val, ↓T.bind_assoc, bind_ret', lift_some, big, List.length_cons, List.length_nil, Bool.not_false, ↓reduceIte, Nat.reduceLeDiff, Int.zero_add, Nat.zero_add, ↓vm3, rm3, ↓im3, ss3, ↓vf5, rf5, ↓zf5, S1f1_law_days, pn, hl, e]); (try simp only [T.bind_ret]); exact rfl) ?_); (try (with_reducible refine al_nx ?_))
      refine al_endL ?_
      refine ⟨ds ++ [(d : Int)], _, _, rfl, ?_, fun z hz => ?_, by rw [List.length_append]; show _ + 1 ≤ _; omega, fun _ => by rw [List.length_append]; show 0 < _ + 1; omega⟩
      · rw [List.nodup_append]
        refine ⟨h1, List.pairwise_singleton _ _, fun a ha b hb z => ?_⟩
        obtain rfl := List.mem_singleton.mp hb
        exact hm (z ▸ ha)
      · rcases List.mem_append.mp hz with q | q
        · exact h2 z q
        · obtain rfl := List.mem_singleton.mp q
          omega
  · obtain ⟨ds, s4, s5, rfl, h1, h2, h3, h4⟩ := hI
    rw [range_len] at h3 h4
    have e1 : (1 + (m : Int)).toNat = m + 1 := by omega
    (simp only [U1f1_law_days, U1f0_law_days, U2_law_days, U1_law_days, U0_law_days, al_seq, nx_nx, lq_nx]; refine al_rd _ (by (simp -dsimp only [↓sRet_b, ↓T.bind_assoc, bind_ret', ↓vm3, ↓zm3, S2_law_days]); (try simp only [T.bind_ret]); exact rfl) ?_); (try (with_reducible refine al_nx ?_))
    exact al_rtF ⟨ds, rfl, h1, h2, h4 (by omega), by omega⟩
def lrow (ds : List Int) (d : Nat) : Rw := ((if (d : Int) ∈ ds then [0] else []), [0])
def loneR (ds : List Int) (p : Nat) : List Rw := (List.range p).map (lrow ds)
def lenc (r : Rw) : AV := .tup [.lst (il r.1), .tup (nl r.2)]
theorem isort_len (ds : List Int) : (Dn.isort ds).length = ds.length := (Dn.isort_perm ds).length_eq
theorem no_longer_x {ds os : List Int} {p : Nat} (p1 : p ≤ 100) (h : DaysOk p ds) (g : DaysOk p os) : ∃ b : Bool, f_no_longer [.lst (il ds), .lst (il os), .int (p : Int)] = .ret (.bl b) ∧ (b = true ↔ ∀ i, gap (Dn.isort ds) (p : Int) i ≤ gap (Dn.isort os) (p : Int) i) := by
  obtain ⟨h1, h2, h3, h4⟩ := h
  obtain ⟨g1, g2, g3, g4⟩ := g
  have a := ring_days_eq (t := .lst (il ds)) (ds := ds) (p := (p : Int)) (.inl rfl) h3 (by omega) h1 h2
  have b := ring_days_eq (t := .lst (il os)) (ds := os) (p := (p : Int)) (.inl rfl) g3 (by omega) g1 g2
  obtain ⟨x, ex, hx⟩ := first_longer_x (D := Dn.isort ds) (O := Dn.isort os) (p := (p : Int)) (q := (p : Int)) (by rw [isort_len]; exact h3) (by rw [isort_len]; omega) (by rw [isort_len]; exact g3) (by rw [isort_len]; omega) (by omega) (by omega)
  rcases hx with ⟨rfl, z⟩ | ⟨k, _, rfl, z, _⟩
  · have ov : optV none = .non := rfl
    rw [ov] at ex
    exact ⟨true, by unfold f_no_longer b_no_longer; refine t_eq ?_; simp -dsimp only [fnOf, ↓fBin_b, ↓lCons_b, ↓fCall_b, ↓sSeq_b, ↓sRet_b, ↓fC_b, ↓lNil_b, ↓frz_val, ↓pIs_nn_b, rs_val, outV_rt, ↓T.bind_assoc, bind_ret', lift_some, List.length_cons, List.length_nil, List.map_cons, List.map_nil, List.append_nil, List.replicate_zero, ↓reduceIte, Nat.reduceSub, Int.reduceAdd, Int.reduceSub, Nat.reduceAdd, Int.zero_add, Nat.zero_add, ↓vf0, ↓zf0, ↓vf1, ↓zf1, ↓vf2, ↓zf2, S0_no_longer, U0_no_longer, a, b, ex], fun _ => z, fun _ => rfl⟩
  · have ov : optV (some (k : Int)) = .int (k : Int) := rfl
    rw [ov] at ex
    exact ⟨false, by unfold f_no_longer b_no_longer; refine t_eq ?_; simp -dsimp only [fnOf, ↓fBin_b, ↓lCons_b, ↓fCall_b, ↓sSeq_b, ↓sRet_b, ↓fC_b, ↓lNil_b, ↓frz_val, ↓pIs_in_b, rs_val, outV_rt, ↓T.bind_assoc, bind_ret', lift_some, List.length_cons, List.length_nil, List.map_cons, List.map_nil, List.append_nil, List.replicate_zero, ↓reduceIte, Nat.reduceSub, Int.reduceAdd, Int.reduceSub, Nat.reduceAdd, Int.zero_add, Nat.zero_add, ↓vf0, ↓zf0, ↓vf1, ↓zf1, ↓vf2, ↓zf2, S0_no_longer, U0_no_longer, a, b, ex], fun e => (by cases e), fun y => absurd (y k) z⟩
theorem least_E (p : Int) (n m : Nat) : least p n m = E p n (m + 1) := by
  unfold least E
  rw [Int.neg_mul]
  rfl
theorem best_all {D : List Int} {p : Int} (h0 : 0 < D.length) (h : (List.range D.length).map (gap D p) = (List.range D.length).map (least p D.length)) (m : Nat) : gap D p m = least p D.length m := by
  have hm := Nat.mod_lt m h0
  have e0 : gap D p (m % D.length) = least p D.length (m % D.length) := by
    have := congrArg (fun l => l[m % D.length]?) h
    simp only [List.getElem?_map, List.getElem?_range hm, Option.map_some] at this
    exact Option.some.inj this
  have q2 : ∀ (k u : Nat), E p D.length (u + k * D.length) = E p D.length u + k * p := by
    intro k
    induction k with
    | zero => intro u; simp
    | succ k ih =>
      intro u
      rw [Nat.succ_mul, ← Nat.add_assoc, E_add p h0, ih, show ((k + 1 : Nat) : Int) = (k : Int) + 1 by omega, Int.add_mul, Int.one_mul]
      omega
  have e : m = m / D.length * D.length + m % D.length := by rw [Nat.mul_comm]; exact (Nat.div_add_mod m D.length).symm
  have g1 : gap D p m = ((m / D.length : Nat) : Int) * p + gap D p (m % D.length) := by
    rw [← Dn.gap_add h0, ← e]
  have g2 : least p D.length m = ((m / D.length : Nat) : Int) * p + least p D.length (m % D.length) := by
    rw [least_E, least_E, Int.add_comm, ← q2]
    congr 1
    omega
  omega
theorem is_best_x {ds : List Int} {p : Nat} (p1 : p ≤ 100) (h : DaysOk p ds) : ∃ b : Bool, f_is_best [.lst (il ds), .int (p : Int)] = .ret (.bl b) ∧ (b = true → ∀ m, gap (Dn.isort ds) (p : Int) m = least (p : Int) ds.length m) := by
  obtain ⟨h1, h2, h3, h4⟩ := h
  have a := ring_days_eq (t := .lst (il ds)) (ds := ds) (p := (p : Int)) (.inl rfl) h3 (by omega) h1 h2
  have hl := isort_len ds
  generalize hS : Dn.isort ds = S at *
  have g := first_gaps_eq S (p : Int) (by omega) (by omega) (by omega)
  have b62 : below (S.length : Int) 62 = true := below_of (by omega)
  have c : C0_is_best [.fro (.lst (il ds)), .fro (.int p), .fro (.lst (il S)), .un] = .ret (il ((List.range S.length).map (least p S.length)), [.fro (.lst (il ds)), .fro (.int p), .fro (.lst (il S)), .un]) := by
    rw [show il ((List.range S.length).map (least p S.length)) = (List.range S.length).map (fun i => AV.int (least p S.length i)) by unfold il; rw [List.map_map]; rfl]
    refine nLc_M (l := List.range S.length) (fun w : Nat => AV.int (w : Int)) (fun i => AV.int (least p S.length i)) (by rw [show (List.range S.length).map (fun w : Nat => AV.int (w : Int)) = rangeL 0 S.length from (rangeL_nl _).symm]; refine t_eq ?_; simp -dsimp only [↓fUn_b, ↓iRange1_b, ↓intOf_i_b, ↓pLen_l_b, rs_val, ↓T.bind_assoc, bind_ret', lift_some, ↓reduceIte, Int.toNat_natCast, ↓vf2, rf2, il_len, b62]; (try simp only [T.bind_ret])) (by rw [List.length_range]; show _ < 1000000; omega) rfl fun i hi => ?_
    have e := least_gap_eq p S.length i (by omega) (by omega) (by omega) (by have := List.mem_range.mp hi; omega)
    exact ⟨[.fro (.lst (il ds)), .fro (.int p), .fro (.lst (il S)), .fro (.int i)], by refine t_eq ?_; simp -dsimp only [↓fUn_b, ↓lCons_b, ↓fCall_b, ↓lNil_b, ↓fYes_b, ↓tgName_b, ↓lcRun_b, ↓frz_val, ↓pLen_l_b, wipeE_n, wipeE_u, ↓T.bind_assoc, bind_ret', lift_some, List.append_nil, ↓reduceIte, ↓vf1, ↓zf1, ↓vf2, rf2, ↓vf3, ↓zf3, ss3, il_len, e]; (try simp only [T.bind_ret]), rfl⟩
  have pe := pEq_il ((List.range S.length).map (gap S p)) ((List.range S.length).map (least p S.length))
  refine ⟨decide ((List.range S.length).map (gap S p) = (List.range S.length).map (least p S.length)), by unfold f_is_best b_is_best; refine t_eq ?_; simp -dsimp only [fnOf, ↓fBin_b, ↓lCons_b, ↓fCall_b, ↓sSeq_b, ↓sRet_b, ↓sSet_b, ↓fNew_b, ↓lNil_b, ↓frz_val, rs_val, outV_rt, ↓T.bind_assoc, bind_ret', lift_some, List.length_cons, List.length_nil, List.map_cons, List.map_nil, List.append_nil, List.nil_append, List.cons_append, List.replicate_succ, List.replicate_zero, ↓reduceIte, Nat.reduceSub, Int.reduceAdd, Int.reduceSub, Nat.reduceAdd, Int.zero_add, Nat.zero_add, ↓vf0, ↓zf0, ↓vf1, ↓zf1, ↓vf2, ↓zf2, ss2, S0_is_best, S1_is_best, U1_is_best, U0_is_best, a, g, c, pe], fun hb m => ?_⟩
  rw [best_all (by omega) (of_decide_eq_true hb), hl]
end K52
set_option Elab.async false
set_option linter.all false
set_option maxRecDepth 100000
set_option maxHeartbeats 0
namespace K52
open PySem PySem.Spec PyProof.Rows L2 Dn
def isI : AV → Bool
  | .int _ => true
  | _ => false
def wholeB (l : Int) : AV → Bool
  | .int i => decide (l ≤ i)
  | _ => false
def belowB (n : Int) : AV → Bool
  | .int i => decide (0 ≤ i ∧ i < n)
  | _ => false
theorem isi_o {t : AV} {u n : String} {b : Bool} (h : tyName t = some n) (hb : subTy n u = b) : pIsi u t = some (.bl b) := by
  unfold pIsi
  rw [h, Option.map_some, hb]
theorem isi2_o {t : AV} {u v n : String} {b : Bool} (h : tyName t = some n) (hb : (subTy n u || subTy n v) = b) : pIsi2 u v t = some (.bl b) := by
  unfold pIsi2
  rw [h, Option.map_some, hb]
theorem is_integer_f {t : AV} (e1 : pIsi "int" t = some (.bl false)) : f_is_integer [t] = .ret (.bl false) := by
  unfold f_is_integer b_is_integer; refine t_eq ?_; simp -dsimp only [fnOf, ↓fUn_b, ↓fAnd_b, ↓sSeq_b, ↓sRet_b, ↓frz_val, ↓blOf_b_b, rs_val, outV_rt, ↓T.bind_assoc, bind_ret', lift_some, List.length_cons, List.length_nil, List.map_cons, List.map_nil, List.append_nil, List.replicate_zero, ↓reduceIte, Nat.reduceSub, Int.reduceSub, Bool.false_eq_true, Int.zero_add, Nat.zero_add, ↓vf0, rf0, e1]
theorem is_integer_tb {t : AV} {b : Bool} (e1 : pIsi "int" t = some (.bl true)) (e2 : pIsi "bool" t = some (.bl b)) : f_is_integer [t] = .ret (.bl !b) := by
  cases b with
  | true => unfold f_is_integer b_is_integer; refine t_eq ?_; simp -dsimp only [fnOf, ↓fUn_b, ↓fAnd_b, ↓fNot_b, ↓sSeq_b, ↓sRet_b, ↓frz_val, ↓blOf_b_b, rs_val, outV_rt, ↓T.bind_assoc, bind_ret', lift_some, List.length_cons, List.length_nil, List.map_cons, List.map_nil, List.append_nil, List.replicate_zero, Bool.not_true, ↓reduceIte, Nat.reduceSub, Int.reduceSub, Int.zero_add, Nat.zero_add, ↓vf0, rf0, e1, e2]
  | false => unfold f_is_integer b_is_integer; refine t_eq ?_; simp -dsimp only [fnOf, ↓fUn_b, ↓fAnd_b, ↓fNot_b, ↓sSeq_b, ↓sRet_b, ↓frz_val, ↓blOf_b_b, rs_val, outV_rt, ↓T.bind_assoc, bind_ret', lift_some, List.length_cons, List.length_nil, List.map_cons, List.map_nil, List.append_nil, List.replicate_zero, Bool.not_false, ↓reduceIte, Nat.reduceSub, Int.reduceSub, Int.zero_add, Nat.zero_add, ↓vf0, rf0, e1, e2]
theorem is_integer_o {t : AV} (h : (tyName t).isSome = true) : f_is_integer [t] = .ret (.bl (isI t)) := by
  cases t with
  | non => exact is_integer_f (isi_o rfl (by decide))
  | bl b => exact is_integer_tb (b := true) (isi_o rfl (by decide)) (isi_o rfl (by decide))
  | int i => exact is_integer_tb (b := false) (isi_o rfl (by decide)) (isi_o rfl (by decide))
  | str s => exact is_integer_f (isi_o rfl (by decide))
  | tup xs => exact is_integer_f (isi_o rfl (by decide))
  | lst xs => exact is_integer_f (isi_o rfl (by decide))
  | ins c xs => cases h
  | dic ks xs => cases h
  | box => cases h
  | scr ns => cases h
  | any => cases h
  | dct _ _ => cases h
theorem is_seq_f {t : AV} {b : Bool} (e1 : pIsi2 "list" "tuple" t = some (.bl b)) : f_is_sequence [t] = .ret (.bl b) := by
  unfold f_is_sequence b_is_sequence; refine t_eq ?_; simp -dsimp only [fnOf, ↓fUn_b, ↓sSeq_b, ↓sRet_b, ↓frz_val, outV_rt, ↓T.bind_assoc, bind_ret', lift_some, List.length_cons, List.length_nil, List.map_cons, List.map_nil, List.append_nil, List.replicate_zero, ↓reduceIte, Nat.reduceSub, Int.reduceSub, Int.zero_add, Nat.zero_add, ↓vf0, rf0, S0_is_sequence, U0_is_sequence, e1]
theorem is_seq_o {t : AV} (h : (tyName t).isSome = true) : f_is_sequence [t] = .ret (.bl (seqOf t).isSome) := by
  cases t with
  | non => exact is_seq_f (b := false) (isi2_o rfl (by decide))
  | bl b => exact is_seq_f (b := false) (isi2_o rfl (by decide))
  | int i => exact is_seq_f (b := false) (isi2_o rfl (by decide))
  | str s => exact is_seq_f (b := false) (isi2_o rfl (by decide))
  | tup xs => exact is_seq_f (b := true) (isi2_o rfl (by decide))
  | lst xs => exact is_seq_f (b := true) (isi2_o rfl (by decide))
  | ins c xs => cases h
  | dic ks xs => cases h
  | box => cases h
  | scr ns => cases h
  | any => cases h
  | dct _ _ => cases h
theorem is_whole_n {t : AV} {l : Int} (h : (tyName t).isSome = true) (hi : isI t = false) : f_is_whole [t, .int l] = .ret (.bl false) := by
  have e := is_integer_o h
  rw [hi] at e
  unfold f_is_whole b_is_whole; refine t_eq ?_; simp -dsimp only [fnOf, ↓fAnd_b, ↓lCons_b, ↓fCall_b, ↓sSeq_b, ↓sRet_b, ↓lNil_b, ↓frz_val, ↓blOf_b_b, rs_val, outV_rt, ↓T.bind_assoc, bind_ret', lift_some, List.length_cons, List.length_nil, List.map_cons, List.map_nil, List.append_nil, List.replicate_zero, ↓reduceIte, Nat.reduceSub, Int.reduceAdd, Int.reduceSub, Bool.false_eq_true, Nat.reduceAdd, Int.zero_add, Nat.zero_add, ↓vf0, ↓zf0, e]
theorem is_whole_i {i l : Int} : f_is_whole [.int i, .int l] = .ret (.bl (decide (l ≤ i))) := by
  have e : f_is_integer [.int i] = .ret (.bl true) := is_integer_o rfl
  unfold f_is_whole b_is_whole; refine t_eq ?_; simp -dsimp only [fnOf, ↓fBin_b, ↓fAnd_b, ↓lCons_b, ↓fCall_b, ↓sSeq_b, ↓sRet_b, ↓lNil_b, ↓frz_val, ↓blOf_b_b, ↓pGe_i_b, rs_val, outV_rt, ↓T.bind_assoc, bind_ret', lift_some, List.length_cons, List.length_nil, List.map_cons, List.map_nil, List.append_nil, List.replicate_zero, ↓reduceIte, Nat.reduceSub, Int.reduceAdd, Int.reduceSub, Nat.reduceAdd, Int.zero_add, Nat.zero_add, ↓vf0, rf0, ↓zf0, ↓vf1, rf1, e]
theorem is_below_i {i n : Int} : f_is_below [.int i, .int n] = .ret (.bl (decide (0 ≤ i ∧ i < n))) := by
  have e : f_is_whole [.int i, .int 0] = _ := is_whole_i
  by_cases h : 0 ≤ i
  · unfold f_is_below b_is_below; refine t_eq ?_; simp -dsimp only [fnOf, ↓fBin_b, ↓fAnd_b, ↓lCons_b, ↓fCall_b, ↓sSeq_b, ↓sRet_b, ↓fC_b, ↓lNil_b, ↓frz_val, ↓blOf_b_b, ↓pLt_i_b, rs_val, outV_rt, ↓T.bind_assoc, bind_ret', lift_some, List.length_cons, List.length_nil, List.map_cons, List.map_nil, List.append_nil, List.replicate_zero, true_and, Bool.true_and, decide_true, ↓reduceIte, Nat.reduceSub, Int.reduceAdd, Int.reduceSub, Nat.reduceAdd, Int.zero_add, Nat.zero_add, ↓vf0, rf0, ↓zf0, ↓vf1, rf1, e, h]
  · unfold f_is_below b_is_below; refine t_eq ?_; simp -dsimp only [fnOf, ↓fAnd_b, ↓lCons_b, ↓fCall_b, ↓sSeq_b, ↓sRet_b, ↓fC_b, ↓lNil_b, ↓frz_val, ↓blOf_b_b, rs_val, outV_rt, ↓T.bind_assoc, bind_ret', lift_some, List.length_cons, List.length_nil, List.map_cons, List.map_nil, List.append_nil, List.replicate_zero, false_and, Bool.false_and, decide_false, ↓reduceIte, Nat.reduceSub, Int.reduceAdd, Int.reduceSub, Bool.false_eq_true, Nat.reduceAdd, Int.zero_add, Nat.zero_add, ↓vf0, ↓zf0, e, h]
theorem is_below_o {t : AV} {n : Int} (h : (tyName t).isSome = true) : f_is_below [t, .int n] = .ret (.bl (belowB n t)) := by
  cases t with
  | int i => exact is_below_i
  | ins c xs => cases h
  | dic ks xs => cases h
  | box => cases h
  | scr ns => cases h
  | any => cases h
  | dct _ _ => cases h
  | _ =>
    have e := is_whole_n (l := 0) h rfl
    unfold f_is_below b_is_below; refine t_eq ?_; simp -dsimp only [fnOf, ↓fAnd_b, ↓lCons_b, ↓fCall_b, ↓sSeq_b, ↓sRet_b, ↓fC_b, ↓lNil_b, ↓frz_val, ↓blOf_b_b, rs_val, outV_rt, ↓T.bind_assoc, bind_ret', lift_some, List.length_cons, List.length_nil, List.map_cons, List.map_nil, List.append_nil, List.replicate_zero, ↓reduceIte, Nat.reduceSub, Int.reduceAdd, Int.reduceSub, Bool.false_eq_true, Nat.reduceAdd, Int.zero_add, Nat.zero_add, ↓vf0, ↓zf0, e, belowB]
theorem forL_excAt {g : GSem} {body : SSem} (R : Nat → Env' → Prop) {xs : List AV} {ρ : Env'} {k c : Nat} {es : List AV} (h0 : R 0 ρ) (hk : k < xs.length) (step : ∀ (i : Nat) (x : AV) (ρ : Env'), i < k → xs[i]? = some x → R i ρ → ∃ ρ1 ρ2, g x ρ = .ret ρ1 ∧ body ρ1 = .ret (.nx ρ2) ∧ R (i + 1) ρ2)
    (last : ∀ (x : AV) (ρ : Env'), xs[k]? = some x → R k ρ → ∃ ρ1, g x ρ = .ret ρ1 ∧ body ρ1 = .exc c es) : forL g body xs ρ = .exc c es := by
  have key : ∀ (n i : Nat) (ρ : Env'), k - i = n → i ≤ k → R i ρ → forL g body (xs.drop i) ρ = .exc c es := by
    intro n
    induction n with
    | zero =>
      intro i ρ hn hi h
      have e : i = k := by omega
      subst e
      obtain ⟨ρ1, e1, e2⟩ := last xs[i] ρ (List.getElem?_eq_getElem hk) h
      rw [List.drop_eq_getElem_cons hk]
      show ((g xs[i] ρ).bind _) = _
      rw [e1, bind_ret', e2]
      rfl
    | succ n ih =>
      intro i ρ hn hi h
      have hlt : i < xs.length := by omega
      obtain ⟨ρ1, ρ2, e1, e2, h2⟩ := step i xs[i] ρ (by omega) (List.getElem?_eq_getElem hlt) h
      have q := ih (i + 1) ρ2 (by omega) (by omega) h2
      rw [List.drop_eq_getElem_cons hlt]
      show ((g xs[i] ρ).bind _) = _
      rw [e1, bind_ret', e2, bind_ret']
      exact q
  have := key k 0 ρ rfl (Nat.zero_le _) h0
  rwa [List.drop_zero] at this
theorem odd_case {p : Int} {t : AV} {k : Nat} {y : AV} {kvs : List (AV × AV)} (bad : f_is_below [y, .int p] = .ret (.bl false) ∨ ∃ d : Int, y = .int d ∧ f_is_below [y, .int p] = .ret (.bl true) ∧ (dFind kvs (.inl d)).isSome = true) :
    K2f0_ring_days [.fro t, .fro (.int p), .md true kvs, .fro (.int (k : Int)), .fro y] = .exc 0 [.int (k : Int)] := by
  rcases bad with ib | ⟨d, rfl, ib, sn⟩
  · refine t_eq ?_; simp -dsimp only [↓fTru_b, ↓fNotT_b, ↓fOrT_b, ↓lCons_b, ↓fCall_b, ↓sSeq_b, ↓sIf_b, ↓lNil_b, ↓tru_b_b, rs_val, ↓T.bind_assoc, bind_ret', lift_some, ↓sRaise_b, List.length_cons, List.length_nil, List.append_nil, Bool.not_false, ↓reduceIte, Int.zero_add, Nat.zero_add, ↓vf1, ↓zf1, ↓vf3, ↓zf3, ↓vf4, ↓zf4, S2f0t0_ring_days, U2f0t0_ring_days, S2f0_ring_days, U2f0_ring_days, ib]; (try simp only [T.bind_ret])
  · refine t_eq ?_; simp -dsimp only [↓fTru_b, ↓fNotT_b, ↓fOrT_b, ↓lCons_b, ↓fCall_b, ↓sSeq_b, ↓sIf_b, ↓tDin_b, ↓lNil_b, ↓tru_b_b, rs_val, ↓keyOf1_ib, ↓T.bind_assoc, bind_ret', lift_some, ↓sRaise_b, List.length_cons, List.length_nil, List.append_nil, Bool.not_true, ↓reduceIte, Bool.false_eq_true, Int.zero_add, Nat.zero_add, ↓vf1, ↓zf1, ↓imd2, ↓vf3, ↓zf3, ↓vf4, rf4, ↓zf4, S2f0t0_ring_days, U2f0t0_ring_days, S2f0_ring_days, U2f0_ring_days, ib, sn]; (try simp only [T.bind_ret])
def BadD (p : Int) (ds : List Int) (y : AV) : Prop := ((tyName y).isSome = true ∧ belowB p y = false) ∨ ∃ d, y = .int d ∧ d ∈ ds
theorem seen_in {l : List Int} {d : Int} (h : d ∈ l) : (dFind (Dn.seen l) (.inl d)).isSome = true := by
  unfold dFind Dn.seen
  rw [Option.isSome_map, List.find?_isSome]
  exact ⟨(.int d, .bl true), List.mem_map.mpr ⟨d, h, rfl⟩, by simp [keyOf1]⟩
theorem ring_days_bad {t y : AV} {ds : List Int} {rest : List AV} {p : Int} (ht : SeqIs t (il ds ++ y :: rest)) (hl : ds.length + rest.length < 90000) (hn : ds.Nodup) (hr : ∀ d ∈ ds, 0 ≤ d ∧ d < p) (bad : BadD p ds y) : f_ring_days [t, .int p] = .exc 0 [.int (ds.length : Int)] := by
  have hs : seqOf t = some (il ds ++ y :: rest) := by rcases ht with rfl | rfl <;> rfl
  have len : (il ds ++ y :: rest).length = ds.length + (rest.length + 1) := by rw [List.length_append, il_len, List.length_cons]
  have hle : pLen t = some (.int ((il ds ++ y :: rest).length : Nat)) := by rcases ht with rfl | rfl <;> rfl
  have q := is_seq_eq ht
  have pe := pEq_int ((il ds ++ y :: rest).length : Nat) 0
  rw [decide_eq_false (by omega)] at pe
  have e := forL_excAt (g := tgTup 2 (tgCons (tgName 3) (tgCons (tgName 4) tgNil))) (body := K2f0_ring_days) (xs := enumL 0 (il ds ++ y :: rest)) (ρ := [.fro t, .fro (.int p), .md true [], .un, .un]) (k := ds.length) (c := 0) (es := [.int (ds.length : Int)]) (fun i ρ => ∃ s3 s4 : Dn.Slot, ρ = [.fro t, .fro (.int p), .md true (Dn.seen (ds.take i)), s3, s4]) ⟨_, _, rfl⟩ (by rw [enumL_length, len]; omega) (fun i x ρ hi hx hI => by
    obtain ⟨s3, s4, rfl⟩ := hI
    obtain ⟨z, ez, rfl⟩ := enumL_get _ 0 i x hx
    rw [List.getElem?_append_left (by rw [il_len]; exact hi), il_get hi] at ez
    cases ez
    have gi : ds.getD i 0 = ds[i] := by rw [List.getD_eq_getElem?_getD, List.getElem?_eq_getElem hi]; rfl
    have hb := hr _ (Dn.getD_mem hi)
    have nm : ds.getD i 0 ∉ ds.take i := fun z => by
      rw [gi] at z
      obtain ⟨j, hj, e⟩ := List.getElem_of_mem z
      rw [List.length_take] at hj
      rw [List.getElem_take] at e
      exact List.pairwise_iff_getElem.mp hn j i (by omega) hi (by omega) e
    have sn := seen_none nm
    have sp := seen_put nm
    have tk : ds.take i ++ [ds.getD i 0] = ds.take (i + 1) := by
      rw [List.take_succ, List.getElem?_eq_getElem hi, gi]
      rfl
    rw [tk] at sp
    have sl : (Dn.seen (ds.take i)).length < 1000000 := by
      unfold Dn.seen
      rw [List.length_map, List.length_take]
      omega
    have ib := is_below_eq (ds.getD i 0) p
    rw [decide_eq_true hb] at ib
    generalize ds.getD i 0 = d at *
    refine ⟨[.fro t, .fro (.int p), .md true (Dn.seen (ds.take i)), .fro (.int ((0 + i : Nat) : Int)), .fro (.int d)], [.fro t, .fro (.int p), .md true (Dn.seen (ds.take (i + 1))), .fro (.int ((0 + i : Nat) : Int)), .fro (.int d)], by refine t_eq ?_; simp -dsimp only [↓tgName_b, ↓tgNil_b, ↓tgCons_b, ↓tgTup_b, ↓T.bind_assoc, List.length_cons, List.length_nil, ↓reduceIte, Int.reduceAdd, Nat.reduceAdd, Int.zero_add, Nat.zero_add, ss3, ss4]; (try simp only [T.bind_ret]), ?_, _, _, rfl⟩
    refine t_eq ?_; simp -dsimp only [↓fTru_b, ↓fNotT_b, ↓fOrT_b, ↓lCons_b, ↓fCall_b, ↓sSeq_b, ↓sIf_b, ↓tDin_b, ↓sDput_b, ↓fC_b, ↓lNil_b, ↓sNil_b, ↓frz_val, ↓tru_b_b, rs_val, ↓keyOf1_ib, ↓T.bind_assoc, bind_ret', lift_some, big, List.append_nil, Bool.not_true, ↓reduceIte, Bool.false_eq_true, Int.zero_add, Nat.zero_add, ↓vf1, ↓zf1, ss2, ↓imd2, ↓vf4, rf4, ↓zf4, S2f0t0_ring_days, U2f0t0_ring_days, S2f0_ring_days, S2f1_ring_days, U2f1_ring_days, U2f0_ring_days, ib, sn, sp, sl, Option.isSome]; (try simp only [T.bind_ret])) (fun x ρ hx hI => by
    obtain ⟨s3, s4, rfl⟩ := hI
    obtain ⟨z, ez, rfl⟩ := enumL_get _ 0 _ x hx
    rw [List.getElem?_append_right (by rw [il_len]; exact Nat.le_refl _), il_len, Nat.sub_self] at ez
    cases ez
    rw [List.take_length, Nat.zero_add]
    have oc := odd_case (t := t) (k := ds.length) (p := p) (y := y) (kvs := Dn.seen ds) (by
      rcases bad with ⟨h1, h2⟩ | ⟨d, rfl, hd⟩
      · have e := is_below_o (n := p) h1
        rw [h2] at e
        exact .inl e
      · have e := is_below_eq d p
        rw [decide_eq_true (hr d hd)] at e
        exact .inr ⟨d, rfl, e, seen_in hd⟩)
    exact ⟨[.fro t, .fro (.int p), .md true (Dn.seen ds), .fro (.int (ds.length : Int)), .fro y], by refine t_eq ?_; simp -dsimp only [↓tgName_b, ↓tgNil_b, ↓tgCons_b, ↓tgTup_b, ↓T.bind_assoc, List.length_cons, List.length_nil, ↓reduceIte, Int.reduceAdd, Nat.reduceAdd, Int.zero_add, Nat.zero_add, ss3, ss4]; (try simp only [T.bind_ret]), oc⟩)
  generalize il ds ++ y :: rest = XS at *
  unfold f_ring_days b_ring_days; refine t_eq ?_; simp -dsimp only [fnOf, ↓fBin_b, ↓fUn_b, ↓fTru_b, ↓fBlT_b, ↓fNotT_b, ↓fOrT_b, ↓lCons_b, ↓fCall_b, ↓sSeq_b, ↓sIf_b, ↓sFor_b, ↓Dn.iEnum_b, ↓fC_b, ↓lNil_b, ↓sNil_b, ↓sDnew_b, ↓blOf_b_b, ↓tru_b_b, rs_val, ↓T.bind_assoc, bind_ret', bind_exc', lift_some, List.length_cons, List.length_nil, List.map_cons, List.map_nil, List.append_nil, List.nil_append, List.cons_append, List.replicate_succ, List.replicate_zero, Bool.not_true, ↓reduceIte, Nat.reduceSub, Int.reduceAdd, Int.reduceSub, Bool.false_eq_true, Nat.reduceAdd, Int.zero_add, Nat.zero_add, ↓vf0, rf0, ↓zf0, ss2, S0t0_ring_days, U0t0_ring_days, S0_ring_days, S1_ring_days, S2_ring_days, U2_ring_days, U1_ring_days, U0_ring_days, q, hle, pe, hs, e]
theorem ring_days_none {t : AV} {p : Int} (h : (tyName t).isSome = true) (n : seqOf t = none ∨ seqOf t = some []) : f_ring_days [t, .int p] = .exc 0 [.int 0] := by
  have q := is_seq_o h
  rcases n with n | n
  · rw [n] at q
    have q : f_is_sequence [t] = .ret (.bl false) := q
    unfold f_ring_days b_ring_days; refine t_eq ?_; simp -dsimp only [fnOf, ↓fTru_b, ↓fNotT_b, ↓fOrT_b, ↓lCons_b, ↓fCall_b, ↓sSeq_b, ↓sIf_b, ↓fC_b, ↓lNil_b, ↓frz_val, ↓tru_b_b, rs_val, ↓T.bind_assoc, bind_ret', bind_exc', lift_some, ↓sRaise_b, List.length_cons, List.length_nil, List.map_cons, List.map_nil, List.append_nil, List.nil_append, List.cons_append, List.replicate_succ, List.replicate_zero, Bool.not_false, ↓reduceIte, Nat.reduceSub, Int.reduceAdd, Int.reduceSub, Nat.reduceAdd, Int.zero_add, Nat.zero_add, ↓vf0, ↓zf0, S0t0_ring_days, U0t0_ring_days, S0_ring_days, U0_ring_days, q]
  · rw [n] at q
    have q : f_is_sequence [t] = .ret (.bl true) := q
    have hle : pLen t = some (.int 0) := by
      cases t with
      | lst xs => cases n; rfl
      | tup xs => cases n; rfl
      | _ => cases n
    have pe : pEq (.int 0) (.int 0) = some (.bl true) := rfl
    unfold f_ring_days b_ring_days; refine t_eq ?_; simp -dsimp only [fnOf, ↓fBin_b, ↓fUn_b, ↓fTru_b, ↓fBlT_b, ↓fNotT_b, ↓fOrT_b, ↓lCons_b, ↓fCall_b, ↓sSeq_b, ↓sIf_b, ↓fC_b, ↓lNil_b, ↓frz_val, ↓blOf_b_b, ↓tru_b_b, rs_val, ↓T.bind_assoc, bind_ret', bind_exc', lift_some, ↓sRaise_b, List.length_cons, List.length_nil, List.map_cons, List.map_nil, List.append_nil, List.nil_append, List.cons_append, List.replicate_succ, List.replicate_zero, Bool.not_true, ↓reduceIte, Nat.reduceSub, Int.reduceAdd, Int.reduceSub, Bool.false_eq_true, Nat.reduceAdd, Int.zero_add, Nat.zero_add, ↓vf0, rf0, ↓zf0, S0t0_ring_days, U0t0_ring_days, S0_ring_days, U0_ring_days, q, hle, pe]
end K52
set_option Elab.async false
set_option linter.all false
set_option maxRecDepth 100000
set_option maxHeartbeats 0
namespace K52
open PySem PySem.Spec PyProof.Rows L2 Dn
theorem lam_at {fn : List AV → T AV} {fk : SemL} {ρ : Env'} {xs : List AV} {k : Int} (h : fk ρ = .ret (xs, ρ)) (h2 : fn xs = .exc 0 [.int k]) : fLam (.str "let") (mArgs fk fn) sb_InvalidDays (hvE "odd" (fun _ => true) (fun _ => false)) ρ = .ret (.val (.int k), ρ) := by
  refine fLam_exc (c := 0) (xs := [.int k]) ?_ rfl rfl
  unfold mArgs
  rw [h, mSame_ret, h2]
theorem lam_let {fn : List AV → T AV} {fk : SemL} {ρ : Env'} {xs : List AV} {t : AV} (h : fk ρ = .ret (xs, ρ)) (h2 : fn xs = .ret t) : fLam (.str "let") (mArgs fk fn) sb_InvalidDays (hvE "odd" (fun _ => true) (fun _ => false)) ρ = .ret (.val (.str "let"), ρ) := by
  refine fLam_ret (t := t) ?_
  unfold mArgs
  rw [h, mSame_ret, h2]
theorem all_heard {v G r : AV} {p : Int} (h : ∀ ρ : Env', ∀ fk : SemL, fk ρ = .ret ([v, .int p, .int 1], ρ) → fLam (.str "let") (mArgs fk f_ring_gap) sb_InvalidDays (hvE "odd" (fun _ => true) (fun _ => false)) ρ = .ret (.val r, ρ))
    (h2 : ∀ ρ : Env', ∀ fk : SemL, fk ρ = .ret ([v, .int p], ρ) → fLam (.str "let") (mArgs fk f_is_best) sb_InvalidDays (hvE "odd" (fun _ => true) (fun _ => false)) ρ = .ret (.val r, ρ))
    (h3 : ∀ ρ : Env', ∀ fk : SemL, fk ρ = .ret ([v, G, .int p], ρ) → fLam (.str "let") (mArgs fk f_no_longer) sb_InvalidDays (hvE "odd" (fun _ => true) (fun _ => false)) ρ = .ret (.val r, ρ))
    (h4 : ∀ ρ : Env', ∀ fk : SemL, fk ρ = .ret ([G, v, .int p], ρ) → fLam (.str "let") (mArgs fk f_no_longer) sb_InvalidDays (hvE "odd" (fun _ => true) (fun _ => false)) ρ = .ret (.val r, ρ)) : f_law_all_heard [v, .int p, G] = .ret (.lst [r, r, r, r]) := by
  have l1 := h [.fro v, .fro (.int p), .fro G, .un] (lCons (fVar 0) (lCons (fVar 1) (lCons (fC (.int 1)) lNil))) (by refine t_eq ?_; simp -dsimp only [↓lCons_b, ↓fC_b, ↓lNil_b, ↓frz_val, ↓T.bind_assoc, bind_ret', ↓vf0, ↓zf0, ↓vf1, ↓zf1]; (try simp only [T.bind_ret]))
  have l2 := h2 [.fro v, .fro (.int p), .fro G, .ml [r]] (lCons (fVar 0) (lCons (fVar 1) lNil)) (by refine t_eq ?_; simp -dsimp only [↓lCons_b, ↓lNil_b, ↓T.bind_assoc, bind_ret', ↓vf0, ↓zf0, ↓vf1, ↓zf1]; (try simp only [T.bind_ret]))
  have l3 := h3 [.fro v, .fro (.int p), .fro G, .ml [r, r]] (lCons (fVar 0) (lCons (fVar 2) (lCons (fVar 1) lNil))) (by refine t_eq ?_; simp -dsimp only [↓lCons_b, ↓lNil_b, ↓T.bind_assoc, bind_ret', ↓vf0, ↓zf0, ↓vf1, ↓zf1, ↓vf2, ↓zf2]; (try simp only [T.bind_ret]))
  have l4 := h4 [.fro v, .fro (.int p), .fro G, .ml [r, r, r]] (lCons (fVar 2) (lCons (fVar 0) (lCons (fVar 1) lNil))) (by refine t_eq ?_; simp -dsimp only [↓lCons_b, ↓lNil_b, ↓T.bind_assoc, bind_ret', ↓vf0, ↓zf0, ↓vf1, ↓zf1, ↓vf2, ↓zf2]; (try simp only [T.bind_ret]))
  clear h h2 h3 h4
  unfold f_law_all_heard b_law_all_heard; refine t_eq ?_; simp -dsimp only [fnOf, ↓lCons_b, ↓sSeq_b, ↓sExpr_b, ↓sRet_b, ↓sSetN_b, ↓nLst_b, ↓fAppend_b, ↓lNil_b, ↓frz_val, outV_rt, ↓T.bind_assoc, bind_ret', big, List.length_cons, List.length_nil, List.map_cons, List.map_nil, List.nil_append, List.cons_append, List.replicate_succ, List.replicate_zero, ↓reduceIte, Nat.reduceLT, Nat.reduceLeDiff, Nat.reduceSub, Int.reduceLT, Int.reduceAdd, Int.reduceSub, Nat.reduceAdd, Int.zero_add, Nat.zero_add, ↓vm3, ↓zm3, ↓im3, ss3, S0_law_all_heard, S1_law_all_heard, S2_law_all_heard, S3_law_all_heard, S4_law_all_heard, U4_law_all_heard, U3_law_all_heard, U2_law_all_heard, U1_law_all_heard, U0_law_all_heard, l1, l2, l3, l4]
theorem heard_bad {v : AV} {p : Nat} {ds : List Int} {k : Int} (ok : DaysOk p ds) (h : f_ring_days [v, .int (p : Int)] = .exc 0 [.int k]) : f_law_all_heard [v, .int (p : Int), .lst (il ds)] = .ret (.lst [.int k, .int k, .int k, .int k]) := by
  obtain ⟨h1, h2, h3, h4⟩ := ok
  have a := ring_days_eq (t := .lst (il ds)) (ds := ds) (p := (p : Int)) (.inl rfl) h3 (by omega) h1 h2
  have g1 : f_ring_gap [v, .int (p : Int), .int 1] = .exc 0 [.int k] := by unfold f_ring_gap b_ring_gap; refine t_eq ?_; simp -dsimp only [fnOf, ↓lCons_b, ↓fCall_b, ↓sSeq_b, ↓sRet_b, ↓lNil_b, ↓frz_val, outV_rt, ↓T.bind_assoc, bind_ret', bind_exc', List.length_cons, List.length_nil, List.map_cons, List.map_nil, List.append_nil, List.replicate_zero, ↓reduceIte, Nat.reduceSub, Int.reduceAdd, Int.reduceSub, Nat.reduceAdd, Int.zero_add, Nat.zero_add, ↓vf0, ↓zf0, ↓vf1, ↓zf1, ↓vf2, ↓zf2, S0_ring_gap, U0_ring_gap, h]
  have g2 : f_is_best [v, .int (p : Int)] = .exc 0 [.int k] := by unfold f_is_best b_is_best; refine t_eq ?_; simp -dsimp only [fnOf, ↓fBin_b, ↓lCons_b, ↓fCall_b, ↓sSeq_b, ↓sRet_b, ↓sSet_b, ↓fNew_b, ↓lNil_b, ↓frz_val, rs_val, outV_rt, ↓T.bind_assoc, bind_ret', bind_exc', lift_some, List.length_cons, List.length_nil, List.map_cons, List.map_nil, List.append_nil, List.nil_append, List.cons_append, List.replicate_succ, List.replicate_zero, ↓reduceIte, Nat.reduceSub, Int.reduceAdd, Int.reduceSub, Nat.reduceAdd, Int.zero_add, Nat.zero_add, ↓vf0, ↓zf0, ↓vf1, ↓zf1, ↓vf2, ↓zf2, ss2, S0_is_best, S1_is_best, U1_is_best, U0_is_best, h]
  have g3 : f_no_longer [v, .lst (il ds), .int (p : Int)] = .exc 0 [.int k] := by unfold f_no_longer b_no_longer; refine t_eq ?_; simp -dsimp only [fnOf, ↓fBin_b, ↓lCons_b, ↓fCall_b, ↓sSeq_b, ↓sRet_b, ↓fC_b, ↓lNil_b, ↓frz_val, rs_val, outV_rt, ↓T.bind_assoc, bind_ret', bind_exc', lift_some, List.length_cons, List.length_nil, List.map_cons, List.map_nil, List.append_nil, List.replicate_zero, ↓reduceIte, Nat.reduceSub, Int.reduceAdd, Int.reduceSub, Nat.reduceAdd, Int.zero_add, Nat.zero_add, ↓vf0, ↓zf0, ↓vf1, ↓zf1, ↓vf2, ↓zf2, S0_no_longer, U0_no_longer, h]
  have g4 : f_no_longer [.lst (il ds), v, .int (p : Int)] = .exc 0 [.int k] := by unfold f_no_longer b_no_longer; refine t_eq ?_; simp -dsimp only [fnOf, ↓fBin_b, ↓lCons_b, ↓fCall_b, ↓sSeq_b, ↓sRet_b, ↓fC_b, ↓lNil_b, ↓frz_val, rs_val, outV_rt, ↓T.bind_assoc, bind_ret', bind_exc', lift_some, List.length_cons, List.length_nil, List.map_cons, List.map_nil, List.append_nil, List.replicate_zero, ↓reduceIte, Nat.reduceSub, Int.reduceAdd, Int.reduceSub, Nat.reduceAdd, Int.zero_add, Nat.zero_add, ↓vf0, ↓zf0, ↓vf1, ↓zf1, ↓vf2, ↓zf2, S0_no_longer, U0_no_longer, a, h]
  exact all_heard (fun ρ fk e => lam_at e g1) (fun ρ fk e => lam_at e g2) (fun ρ fk e => lam_at e g3) (fun ρ fk e => lam_at e g4)
theorem heard_let {p : Nat} {ds : List Int} (p1 : p ≤ 100) (ok : DaysOk p ds) : f_law_all_heard [.lst (il ds), .int (p : Int), .lst (il ds)] = .ret (.lst [.str "let", .str "let", .str "let", .str "let"]) := by
  obtain ⟨h1, h2, h3, h4⟩ := id ok
  have g1 := ring_gap_eq (t := .lst (il ds)) (m := 1) (.inl rfl) h3 (by omega) h1 h2 (by omega) (by omega)
  obtain ⟨b2, g2, _⟩ := is_best_x p1 ok
  obtain ⟨b3, g3, _⟩ := no_longer_x p1 ok ok
  exact all_heard (fun ρ fk e => lam_let e g1) (fun ρ fk e => lam_let e g2) (fun ρ fk e => lam_let e g3) (fun ρ fk e => lam_let e g3)
def nest : AV := .lst [.lst [.lst [.lst [.lst [.lst [.lst [.int 0]]]]]]]
def oddL : List AV := [.non, .bl true, .bl false, .str "0", .str "", .tup [.int 0], .lst [.int 0], .int (0 - 1), .int (0 - 3), .int (10 ^ 20), .lst [], nest]
theorem bad_pick {p : Nat} {ds : List Int} (p1 : p ≤ 100) {y : AV} (h : y ∈ oddL ++ [.int (p : Int), .int ((p : Int) + 5)] ++ il ds) : BadD (p : Int) ds y := by
  rcases List.mem_append.mp h with h | h
  · left
    unfold oddL at h
    simp only [List.cons_append, List.nil_append, List.mem_cons, List.not_mem_nil, or_false] at h
    rcases h with rfl | rfl | rfl | rfl | rfl | rfl | rfl | rfl | rfl | rfl | rfl | rfl | rfl | rfl
    all_goals first
      | exact ⟨rfl, rfl⟩
      | exact ⟨rfl, decide_eq_false (by omega)⟩
  · right
    unfold il at h
    obtain ⟨d, hd, rfl⟩ := List.mem_map.mp h
    exact ⟨d, rfl, hd⟩
theorem bad_whole {p : Int} {v : AV} (h : v ∈ [AV.non, .int 0, .bl true, .str "", .str "012", .lst [], .tup [], .int (10 ^ 20), .lst [nest]]) : f_ring_days [v, .int p] = .exc 0 [.int 0] := by
  simp only [List.mem_cons, List.not_mem_nil, or_false] at h
  rcases h with rfl | rfl | rfl | rfl | rfl | rfl | rfl | rfl | rfl
  · exact ring_days_none rfl (.inl rfl)
  · exact ring_days_none rfl (.inl rfl)
  · exact ring_days_none rfl (.inl rfl)
  · exact ring_days_none rfl (.inl rfl)
  · exact ring_days_none rfl (.inl rfl)
  · exact ring_days_none rfl (.inr rfl)
  · exact ring_days_none rfl (.inr rfl)
  · exact ring_days_none rfl (.inl rfl)
  · exact ring_days_bad (ds := []) (rest := []) (y := nest) (.inl rfl) (by decide) List.nodup_nil (fun d hd => by cases hd) (.inl ⟨rfl, rfl⟩)
end K52
set_option Elab.async false
set_option linter.all false
set_option maxRecDepth 100000
set_option maxHeartbeats 0
namespace K52
open PySem PySem.Spec PyProof.Rows L2 Dn
theorem k3_times (ns : List Int) : (if (if (ns.length : Int) < 3 then (ns.length : Int) else 3) > 1 then (if (ns.length : Int) < 3 then (ns.length : Int) else 3) else 1) = ((max 1 (min 3 ns.length) : Nat) : Int) := by
  split <;> split <;> omega
def Fz (s : Dn.Slot) : Prop := froOf (some s) = s
def isOb (o : Option AV) (b : Bool) : Bool := match o with
  | some (.bl c) => b == c
  | _ => false
theorem isOb_eq {o : Option AV} {b : Bool} (h : isOb o b = true) : o = some (.bl b) := by
  unfold isOb at h
  split at h
  · rw [eq_of_beq h]
  · cases h
theorem no_longer_bad {t u : AV} {p : Int} {k : Int} (h : f_ring_days [t, .int p] = .exc 0 [.int k]) : f_no_longer [t, u, .int p] = .exc 0 [.int k] := by
  unfold f_no_longer b_no_longer; refine t_eq ?_; simp -dsimp only [fnOf, ↓fBin_b, ↓lCons_b, ↓fCall_b, ↓sSeq_b, ↓sRet_b, ↓fC_b, ↓lNil_b, ↓frz_val, rs_val, outV_rt, ↓T.bind_assoc, bind_ret', bind_exc', lift_some, List.length_cons, List.length_nil, List.map_cons, List.map_nil, List.append_nil, List.replicate_zero, ↓reduceIte, Nat.reduceSub, Int.reduceAdd, Int.reduceSub, Nat.reduceAdd, Int.zero_add, Nat.zero_add, ↓vf0, ↓zf0, ↓vf1, ↓zf1, ↓vf2, ↓zf2, S0_no_longer, U0_no_longer, h]
theorem law_true (ns : List Int) (hn : ns.length ≤ 63) : (f_law [.scr ns]).Al (fun t => t = .bl true) NoX := by
  refine aFnQ rfl ?_
  show (K0_law [.fro (.scr ns), .un, .un, .un, .un, .un, .un, .un, .un, .un, .un]).Al _ _
  have p20 : pPow (.int 10) (.int 20) = some (.int (10 ^ 20)) := pow_ok (i := 10) (j := 20) (by decide) (by decide)
  have hk := k3_times ns
  have b62 : below ((max 1 (min 3 ns.length) : Nat) : Int) 62 = true := below_of (by omega)
  have m0 : pMul (.lst [.int 0]) (.int 4) = some (.lst [.int 0, .int 0, .int 0, .int 0]) := rfl
  have ne0 : pNe (.lst [.int 0, .int 0, .int 0, .int 0]) (.lst [.int 0, .int 0, .int 0, .int 0]) = some (.bl false) := rfl
  have ml : pMul (.lst [.str "let"]) (.int 4) = some (.lst [.str "let", .str "let", .str "let", .str "let"]) := rfl
  have nel : pNe (.lst [.str "let", .str "let", .str "let", .str "let"]) (.lst [.str "let", .str "let", .str "let", .str "let"]) = some (.bl false) := isOb_eq (by decide +kernel)
  simp only [U1f3f0t0_law, U1f3f0_law, U1f4f3t0_law, U1f4f4t0_law, U1f4f5t0_law, U1f4f5_law, U1f4f4_law, U1f4f3_law, U1f4f2_law, U1f4f1_law, U1f4f0_law, U1f4_law, U1f3_law, U1f2_law, U1f1_law, U1f0_law, U2_law, U1_law, U0_law, al_seq, nx_nx, lq_nx]
  refine al_cut (fun ρ => ρ = [.fro (.scr ns), .fro (.lst oddL), .un, .un, .un, .un, .un, .un, .un, .un, .un]) ?_ fun ρ hρ => ?_
  · (try refine al_rd _ (by (simp -dsimp only [↓fBin_b, ↓lCons_b, ↓fTup_b, ↓sSet_b, ↓fNew_b, ↓nLst_b, ↓fC_b, ↓lNil_b, ↓frz_val, ↓pSub_i_b, rs_val, ↓T.bind_assoc, bind_ret', lift_some, big, List.length_cons, List.length_nil, ↓reduceIte, Nat.reduceLeDiff, Nat.reduceSub, Int.reduceSub, Int.reduceNeg, Int.reducePow, Int.zero_add, Nat.zero_add, ss1, S0_law, p20]); (try simp only [T.bind_ret]); exact rfl) ?_); (try (with_reducible refine al_nx ?_))
    exact rfl
  subst hρ
  (simp only [U1f3f0t0_law, U1f3f0_law, U1f4f3t0_law, U1f4f4t0_law, U1f4f5t0_law, U1f4f5_law, U1f4f4_law, U1f4f3_law, U1f4f2_law, U1f4f1_law, U1f4f0_law, U1f4_law, U1f3_law, U1f2_law, U1f1_law, U1f0_law, U2_law, U1_law, U0_law, al_seq, nx_nx, lq_nx]; refine al_rd _ (by (simp -dsimp only [↓fBin_b, ↓fUn_b, ↓iRange1_b, ↓sFor_b, ↓fC_b, ↓intOf_i_b, ↓pLen_s_b, ↓pMax2_i_b, ↓pMin2_i_b, rs_val, ↓T.bind_assoc, bind_ret', lift_some, ↓reduceIte, Int.toNat_natCast, ↓vf0, rf0, S1_law, hk, b62]); (try simp only [T.bind_ret]); exact rfl) ?_); (try (with_reducible refine al_nx ?_))
  refine al_forL (fun i ρ => ∃ s2 s3 s4 s5 s6 s7 s8 s9 s10 : Dn.Slot, ρ = [.fro (.scr ns), .fro (.lst oddL), s2, s3, s4, s5, s6, s7, s8, s9, s10]) ⟨_, _, _, _, _, _, _, _, _, rfl⟩ (fun k x ρ hx hI => ?_) fun ρ hI => ?_
  rotate_left
  · obtain ⟨s2, s3, s4, s5, s6, s7, s8, s9, s10, rfl⟩ := hI
    (simp only [U1f3f0t0_law, U1f3f0_law, U1f4f3t0_law, U1f4f4t0_law, U1f4f5t0_law, U1f4f5_law, U1f4f4_law, U1f4f3_law, U1f4f2_law, U1f4f1_law, U1f4f0_law, U1f4_law, U1f3_law, U1f2_law, U1f1_law, U1f0_law, U2_law, U1_law, U0_law, al_seq, nx_nx, lq_nx]; refine al_rd _ (by (simp -dsimp only [↓sRet_b, ↓fC_b, ↓frz_val, ↓T.bind_assoc, bind_ret', S2_law]); (try simp only [T.bind_ret]); exact rfl) ?_); (try (with_reducible refine al_nx ?_))
    exact al_rtF rfl
  obtain ⟨s2, s3, s4, s5, s6, s7, s8, s9, s10, rfl⟩ := hI
  obtain ⟨hi, rfl⟩ := range_get hx
  (try refine al_rd _ (by (simp -dsimp only [↓tgName_b, Int.zero_add, Nat.zero_add, ss2]); (try simp only [T.bind_ret]); exact rfl) ?_); (try (with_reducible refine al_nx ?_)); refine al_retI.mpr ?_
  have bx := law_box_all ns k 52 (by omega) (by omega) (by decide) (by decide)
  (simp only [U1f3f0t0_law, U1f3f0_law, U1f4f3t0_law, U1f4f4t0_law, U1f4f5t0_law, U1f4f5_law, U1f4f4_law, U1f4f3_law, U1f4f2_law, U1f4f1_law, U1f4f0_law, U1f4_law, U1f3_law, U1f2_law, U1f1_law, U1f0_law, U2_law, U1_law, U0_law, al_seq, nx_nx, lq_nx]; refine al_rd _ (by (simp -dsimp only [↓lCons_b, ↓fCall_b, ↓sSet_b, ↓fC_b, ↓lNil_b, ↓frz_val, ↓T.bind_assoc, bind_ret', List.append_nil, ↓vf0, ↓zf0, ↓vf2, ↓zf2, ss3, S1f0_law]); (try simp only [T.bind_ret]); exact rfl) ?_); (try (with_reducible refine al_nx ?_))
  refine al_by bx fun t ht => ?_
  subst ht
  have t30 := take_eq (b := 30) (by decide) (by decide)
  (try refine al_rd _ (by (simp -dsimp only [bind_ret']); (try simp only [T.bind_ret]); exact rfl) ?_); (try (with_reducible refine al_nx ?_))
  (simp only [U1f3f0t0_law, U1f3f0_law, U1f4f3t0_law, U1f4f4t0_law, U1f4f5t0_law, U1f4f5_law, U1f4f4_law, U1f4f3_law, U1f4f2_law, U1f4f1_law, U1f4f0_law, U1f4_law, U1f3_law, U1f2_law, U1f1_law, U1f0_law, U2_law, U1_law, U0_law, al_seq, nx_nx, lq_nx]; refine al_rd _ (by (simp -dsimp only [↓fBin_b, ↓lCons_b, ↓fCall_b, ↓sSet_b, ↓fC_b, ↓lNil_b, ↓frz_val, ↓pAdd_i_b, rs_val, ↓T.bind_assoc, bind_ret', bind_draw', lift_some, List.append_nil, Int.reduceToNat, ↓vf3, ↓zf3, ss4, S1f1_law, t30]); (try simp only [T.bind_ret]); exact rfl) ?_); (try (with_reducible refine al_nx ?_))
  refine al_dr fun r hr => ?_
  (try refine al_rd _ (by (simp -dsimp only [bind_ret']); (try simp only [T.bind_ret]); exact rfl) ?_); (try (with_reducible refine al_nx ?_))
  obtain ⟨p, hp, p0, p1⟩ : ∃ p : Nat, 1 + (r : Int) = (p : Int) ∧ 0 < p ∧ p ≤ 30 := ⟨r + 1, by omega, by omega, by omega⟩
  rw [hp]
  (simp only [U1f3f0t0_law, U1f3f0_law, U1f4f3t0_law, U1f4f4t0_law, U1f4f5t0_law, U1f4f5_law, U1f4f4_law, U1f4f3_law, U1f4f2_law, U1f4f1_law, U1f4f0_law, U1f4_law, U1f3_law, U1f2_law, U1f1_law, U1f0_law, U2_law, U1_law, U0_law, al_seq, nx_nx, lq_nx]; refine al_rd _ (by (simp -dsimp only [↓lCons_b, ↓fCall_b, ↓sSet_b, ↓fC_b, ↓lNil_b, ↓frz_val, ↓T.bind_assoc, bind_ret', List.append_nil, ↓vf3, ↓zf3, ↓vf4, ↓zf4, ss5, S1f2_law]); (try simp only [T.bind_ret]); exact rfl) ?_); (try (with_reducible refine al_nx ?_))
  refine al_by (law_days_all p p0 (by omega)) fun t ht => ?_
  obtain ⟨gd, rfl, ok⟩ := ht
  (try refine al_rd _ (by (simp -dsimp only [bind_ret']); (try simp only [T.bind_ret]); exact rfl) ?_); (try (with_reducible refine al_nx ?_))
  simp only [U1f3f0t0_law, U1f3f0_law, U1f4f3t0_law, U1f4f4t0_law, U1f4f5t0_law, U1f4f5_law, U1f4f4_law, U1f4f3_law, U1f4f2_law, U1f4f1_law, U1f4f0_law, U1f4_law, U1f3_law, U1f2_law, U1f1_law, U1f0_law, U2_law, U1_law, U0_law, al_seq, nx_nx, lq_nx]
  refine al_cut (fun ρ => ∃ s2 s6 s7 s8 s9 s10 : Dn.Slot, ρ = [.fro (.scr ns), .fro (.lst oddL), s2, .fro .box, .fro (.int (p : Int)), .fro (.lst (il gd)), s6, s7, s8, s9, s10]) ?_ fun ρ hρ => ?_
  · (try refine al_rd _ (by (simp -dsimp only [↓fBin_b, ↓lCons_b, ↓fTup_b, ↓iSeq_b, ↓sFor_b, ↓fNew_b, ↓nLst_b, ↓fC_b, ↓lNil_b, ↓frz_val, rs_val, seqOf_t, ↓T.bind_assoc, bind_ret', lift_some, big, List.length_cons, List.length_nil, ↓reduceIte, Nat.reduceLeDiff, Int.reducePow, Int.zero_add, Nat.zero_add, S1f3_law, p20]); (try simp only [T.bind_ret]); exact rfl) ?_); (try (with_reducible refine al_nx ?_))
    refine al_forL (fun i ρ => ∃ s2 s6 s7 s8 s9 s10 : Dn.Slot, ρ = [.fro (.scr ns), .fro (.lst oddL), s2, .fro .box, .fro (.int (p : Int)), .fro (.lst (il gd)), s6, s7, s8, s9, s10]) ⟨_, _, _, _, _, _, rfl⟩ (fun k x ρ hx hI => ?_) fun ρ hI => ?_
    rotate_left
    · exact hI
    obtain ⟨s2, s6, s7, s8, s9, s10, rfl⟩ := hI
    have hv := bad_whole (p := (p : Int)) (v := x) (List.mem_of_getElem? hx)
    have hh := heard_bad ok hv
    clear hx hv
    (try refine al_rd _ (by (simp -dsimp only [↓tgName_b, ss6]); (try simp only [T.bind_ret]); exact rfl) ?_); (try (with_reducible refine al_nx ?_)); refine al_retI.mpr ?_
    (simp only [U1f3f0t0_law, U1f3f0_law, U1f4f3t0_law, U1f4f4t0_law, U1f4f5t0_law, U1f4f5_law, U1f4f4_law, U1f4f3_law, U1f4f2_law, U1f4f1_law, U1f4f0_law, U1f4_law, U1f3_law, U1f2_law, U1f1_law, U1f0_law, U2_law, U1_law, U0_law, al_seq, nx_nx, lq_nx]; refine al_rd _ (by (simp -dsimp only [↓fBin_b, ↓fBlT_b, ↓lCons_b, ↓fCall_b, ↓sIf_b, ↓fNew_b, ↓nLst_b, ↓fC_b, ↓lNil_b, ↓sNil_b, ↓frz_val, ↓blOf_b_b, rs_val, ↓T.bind_assoc, bind_ret', lift_some, big, List.length_cons, List.length_nil, List.append_nil, ↓reduceIte, Nat.reduceLeDiff, Bool.false_eq_true, Int.zero_add, Nat.zero_add, ↓vf4, ↓zf4, ↓vf5, ↓zf5, ↓vf6, ↓zf6, S1f3f0t0_law, S1f3f0_law, U1f3f0t0_law, hh, m0, ne0]); (try simp only [T.bind_ret]); exact rfl) ?_); (try (with_reducible refine al_nx ?_))
    refine al_endL ?_
    exact ⟨_, _, _, _, _, _, rfl⟩
  obtain ⟨s2, s6, s7, s8, s9, s10, rfl⟩ := hρ
  (simp only [U1f3f0t0_law, U1f3f0_law, U1f4f3t0_law, U1f4f4t0_law, U1f4f5t0_law, U1f4f5_law, U1f4f4_law, U1f4f3_law, U1f4f2_law, U1f4f1_law, U1f4f0_law, U1f4_law, U1f3_law, U1f2_law, U1f1_law, U1f0_law, U2_law, U1_law, U0_law, al_seq, nx_nx, lq_nx]; refine al_rd _ (by (simp -dsimp only [↓iRange1_b, ↓sFor_b, ↓fC_b, ↓intOf_i_b, rs_val, ↓T.bind_assoc, bind_ret', lift_some, below62', and_self, ↓reduceIte, Nat.reduceLT, Int.reduceLT, Int.reduceNeg, Int.reduceToNat, S1f4_law]); (try simp only [T.bind_ret]); exact rfl) ?_); (try (with_reducible refine al_nx ?_))
  refine al_forL (fun i ρ => ∃ s2 s6 s7 s8 s9 s10 : Dn.Slot, ρ = [.fro (.scr ns), .fro (.lst oddL), s2, .fro .box, .fro (.int (p : Int)), .fro (.lst (il gd)), s6, s7, s8, s9, s10]) ⟨_, _, _, _, _, _, rfl⟩ (fun k x ρ hx hI => ?_) fun ρ hI => ?_
  rotate_left
  · obtain ⟨s2, s6, s7, s8, s9, s10, rfl⟩ := hI
    refine al_endL ?_
    exact ⟨_, _, _, _, _, _, _, _, _, rfl⟩
  obtain ⟨s2, s6, s7, s8, s9, s10, rfl⟩ := hI
  obtain ⟨hi, rfl⟩ := range_get hx
  (try refine al_rd _ (by (simp -dsimp only [↓tgName_b, Int.zero_add, Nat.zero_add, ss7]); (try simp only [T.bind_ret]); exact rfl) ?_); (try (with_reducible refine al_nx ?_)); refine al_retI.mpr ?_
  have len : gd.length ≤ 8 := ok.2.2.2
  have tl := take_eq (b := (gd.length : Int) + 1) (by omega) (by omega)
  have pl : pLen (.lst (il gd)) = some (.int (gd.length : Int)) := by
    show some (AV.int (il gd).length) = _
    rw [il_len]
  (simp only [U1f3f0t0_law, U1f3f0_law, U1f4f3t0_law, U1f4f4t0_law, U1f4f5t0_law, U1f4f5_law, U1f4f4_law, U1f4f3_law, U1f4f2_law, U1f4f1_law, U1f4f0_law, U1f4_law, U1f3_law, U1f2_law, U1f1_law, U1f0_law, U2_law, U1_law, U0_law, al_seq, nx_nx, lq_nx]; refine al_rd _ (by (simp -dsimp only [↓fBin_b, ↓fUn_b, ↓lCons_b, ↓fCall_b, ↓sSet_b, ↓fC_b, ↓lNil_b, ↓frz_val, ↓pLen_l_b, ↓pAdd_i_b, rs_val, ↓T.bind_assoc, bind_ret', bind_draw', lift_some, List.append_nil, ↓vf3, ↓zf3, ↓vf5, rf5, ss8, S1f4f0_law, il_len, tl]); (try simp only [T.bind_ret]); exact rfl) ?_); (try (with_reducible refine al_nx ?_))
  refine al_dr fun a ha => ?_
  (try refine al_rd _ (by (simp -dsimp only [bind_ret']); (try simp only [T.bind_ret]); exact rfl) ?_); (try (with_reducible refine al_nx ?_))
  have a9 : a ≤ gd.length := by omega
  have ct : pCut (.lst (il gd)) none (some (a : Int)) = some (.lst (il (gd.take a))) := by
    show some (AV.lst (cutA (il gd) none (some (a : Int)))) = _
    rw [cut_to (by rw [il_len]; exact a9)]
    unfold il
    rw [List.map_take]
  have cf : pCut (.lst (il gd)) (some (a : Int)) none = some (.lst (il (gd.drop a))) := by
    show some (AV.lst (cutA (il gd) (some (a : Int)) none)) = _
    rw [cut_from (by rw [il_len]; exact a9)]
    unfold il
    rw [List.map_drop]
  have tlen : (gd.take a).length = a := by rw [List.length_take]; omega
  have dlen : (gd.drop a).length ≤ 8 := by rw [List.length_drop]; omega
  have lT : (il (gd.take a)).length ≤ 8 := by rw [il_len]; omega
  have lD : (il (gd.drop a)).length ≤ 8 := by rw [il_len]; exact dlen
  have nd : (gd.take a).Nodup := ok.1.sublist (List.take_sublist _ _)
  have rg : ∀ d ∈ gd.take a, 0 ≤ d ∧ d < (p : Int) := fun d hd => ok.2.1 d (List.mem_of_mem_take hd)
  have hl := heard_let (by omega) ok
  have hb := fun (v : AV) (h : f_ring_days [v, .int (p : Int)] = .exc 0 [.int ((gd.take a).length : Int)]) => heard_bad ok h
  rw [tlen] at hb
  have bp := fun (y : AV) hy => bad_pick (p := p) (ds := gd.take a) (by omega) (y := y) hy
  generalize hT : gd.take a = TK at *
  generalize gd.drop a = D at *
  have pa1 : pAdd (.lst oddL) (.lst [.int (p : Int), .int ((p : Int) + 5)]) = some (.lst (oddL ++ [AV.int (p : Int), AV.int ((p : Int) + 5)])) := rfl
  have pa2 : pAdd (.lst (oddL ++ [AV.int (p : Int), AV.int ((p : Int) + 5)])) (.lst (il TK)) = some (.lst (oddL ++ [AV.int (p : Int), AV.int ((p : Int) + 5)] ++ il TK)) := if_pos (show 14 + (il TK).length ≤ 1000000 by omega)
  have pk := law_pick_all (oddL ++ [AV.int (p : Int), AV.int ((p : Int) + 5)] ++ il TK) (by show 0 < (oddL ++ [AV.int (p : Int), AV.int ((p : Int) + 5)] ++ il TK).length; rw [List.length_append]; show 0 < 14 + _; omega) (by rw [List.length_append]; show 14 + _ < 1000; omega)
  generalize oddL ++ [AV.int (p : Int), AV.int ((p : Int) + 5)] ++ il TK = OL at *
  generalize AV.lst OL = OLV at *
  generalize AV.lst (oddL ++ [AV.int (p : Int), AV.int ((p : Int) + 5)]) = OPV at *
  generalize AV.lst oddL = OV at *
  generalize AV.lst (il gd) = GV at *
  have pb0 : ∀ y : AV, pAdd (.lst (il TK)) (.lst [y]) = some (.lst (il TK ++ [y])) := fun y => if_pos (show (il TK).length + 1 ≤ 1000000 by omega)
  have pb20 : ∀ y : AV, pAdd (.lst (il TK ++ [y])) (.lst (il D)) = some (.lst (il TK ++ [y] ++ il D)) := fun y => if_pos (show (il TK ++ [y]).length + (il D).length ≤ 1000000 by rw [List.length_append]; show (il TK).length + 1 + _ ≤ _; omega)
  generalize AV.lst (il TK) = TV at *
  generalize AV.lst (il D) = DV at *
  (simp only [U1f3f0t0_law, U1f3f0_law, U1f4f3t0_law, U1f4f4t0_law, U1f4f5t0_law, U1f4f5_law, U1f4f4_law, U1f4f3_law, U1f4f2_law, U1f4f1_law, U1f4f0_law, U1f4_law, U1f3_law, U1f2_law, U1f1_law, U1f0_law, U2_law, U1_law, U0_law, al_seq, nx_nx, lq_nx]; refine al_rd _ (by (simp -dsimp only [↓fBin_b, ↓lCons_b, ↓fSl_b, ↓fCall_b, ↓sSet_b, ↓fNew_b, ↓nLst_b, ↓fC_b, ↓lNil_b, ↓fPart_n, ↓fPart_s, ↓frz_val, ↓intOf_i_b, ↓pAdd_i_b, rs_val, ↓T.bind_assoc, bind_ret', lift_some, big, List.length_cons, List.length_nil, List.append_nil, ↓reduceIte, Nat.reduceLeDiff, Int.zero_add, Nat.zero_add, ↓vf1, rf1, ↓vf3, ↓zf3, ↓vf4, rf4, ↓zf4, ↓vf5, rf5, ↓vf8, rf8, ss9, S1f4f1_law, ct, pa1, pa2]); (try simp only [T.bind_ret]); exact rfl) ?_); (try (with_reducible refine al_nx ?_))
  refine al_by pk fun y hy => ?_
  have bd := bp y hy
  (try refine al_rd _ (by (simp -dsimp only [bind_ret']); (try simp only [T.bind_ret]); exact rfl) ?_); (try (with_reducible refine al_nx ?_))
  have pb1 := pb0 y
  have pb2 := pb20 y
  have pb3 : pAdd (.lst (il TK ++ [y] ++ il D)) (.lst [.str "late"]) = some (.lst (il TK ++ y :: (il D ++ [AV.str "late"]))) := by
    rw [show il TK ++ y :: (il D ++ [AV.str "late"]) = il TK ++ [y] ++ il D ++ [AV.str "late"] by simp]
    exact if_pos (show (il TK ++ [y] ++ il D).length + 1 ≤ 1000000 by rw [List.length_append, List.length_append]; show (il TK).length + 1 + _ + 1 ≤ _; omega)
  have rd1 := ring_days_bad (t := .lst (il TK ++ y :: (il D ++ [AV.str "late"]))) (p := (p : Int)) (.inl rfl) (by rw [List.length_append]; show TK.length + ((il D).length + 1) < 90000; omega) nd rg bd
  have rd2 := ring_days_bad (t := .tup (il TK ++ y :: (il D ++ [AV.str "late"]))) (p := (p : Int)) (.inr rfl) (by rw [List.length_append]; show TK.length + ((il D).length + 1) < 90000; omega) nd rg bd
  rw [tlen] at rd1 rd2
  have h1 := hb _ rd1
  have h2 := hb _ rd2
  have nl := fun u => no_longer_bad (u := u) rd1
  have pt : pTuple (.lst (il TK ++ y :: (il D ++ [AV.str "late"]))) = some (.tup (il TK ++ y :: (il D ++ [AV.str "late"]))) := rfl
  have ma : pMul (.lst [.int (a : Int)]) (.int 4) = some (.lst [.int (a : Int), .int (a : Int), .int (a : Int), .int (a : Int)]) := rfl
  have nn : pNe (.int (a : Int)) (.int (a : Int)) = some (.bl false) := by
    have := pNe_int (a : Int) (a : Int)
    rwa [decide_eq_true rfl] at this
  have na : pNe (.lst [.int (a : Int), .int (a : Int), .int (a : Int), .int (a : Int)]) (.lst [.int (a : Int), .int (a : Int), .int (a : Int), .int (a : Int)]) = some (.bl false) := by
    show some (AV.bl !((((a : Int) == (a : Int)) && (((a : Int) == (a : Int)) && (((a : Int) == (a : Int)) && (((a : Int) == (a : Int)) && true)))))) = _
    rw [beq_self_eq_true]
    rfl
  clear rd1 rd2 hb bp hy bd pb0 pb20
  generalize AV.lst (il TK ++ y :: (il D ++ [AV.str "late"])) = BTV at *
  generalize AV.tup (il TK ++ y :: (il D ++ [AV.str "late"])) = BUV at *
  generalize AV.lst (il TK ++ [y] ++ il D) = B2V at *
  generalize AV.lst (il TK ++ [y]) = B1V at *
  (simp only [U1f3f0t0_law, U1f3f0_law, U1f4f3t0_law, U1f4f4t0_law, U1f4f5t0_law, U1f4f5_law, U1f4f4_law, U1f4f3_law, U1f4f2_law, U1f4f1_law, U1f4f0_law, U1f4_law, U1f3_law, U1f2_law, U1f1_law, U1f0_law, U2_law, U1_law, U0_law, al_seq, nx_nx, lq_nx]; refine al_rd _ (by (simp -dsimp only [↓fBin_b, ↓lCons_b, ↓fSl_b, ↓sSet_b, ↓fNew_b, ↓nLst_b, ↓fC_b, ↓lNil_b, ↓fPart_n, ↓fPart_s, ↓frz_val, ↓intOf_i_b, rs_val, ↓T.bind_assoc, bind_ret', lift_some, big, List.length_cons, List.length_nil, ↓reduceIte, Nat.reduceLeDiff, Int.zero_add, Nat.zero_add, ↓vf5, rf5, ↓vf8, rf8, ↓vf9, ↓zf9, ss10, S1f4f2_law, ct, cf, pb1, pb2, pb3]); (try simp only [T.bind_ret]); exact rfl) ?_); (try (with_reducible refine al_nx ?_))
  (simp only [U1f3f0t0_law, U1f3f0_law, U1f4f3t0_law, U1f4f4t0_law, U1f4f5t0_law, U1f4f5_law, U1f4f4_law, U1f4f3_law, U1f4f2_law, U1f4f1_law, U1f4f0_law, U1f4_law, U1f3_law, U1f2_law, U1f1_law, U1f0_law, U2_law, U1_law, U0_law, al_seq, nx_nx, lq_nx]; refine al_rd _ (by (simp -dsimp only [↓fBin_b, ↓fUn_b, ↓fBlT_b, ↓fOrT_b, ↓lCons_b, ↓fCall_b, ↓sIf_b, ↓fNew_b, ↓nLst_b, ↓fC_b, ↓lNil_b, ↓sNil_b, ↓frz_val, ↓blOf_b_b, rs_val, ↓T.bind_assoc, bind_ret', lift_some, big, List.length_cons, List.length_nil, List.append_nil, ↓reduceIte, Nat.reduceLeDiff, Bool.false_eq_true, Int.zero_add, Nat.zero_add, ↓vf4, ↓zf4, ↓vf5, ↓zf5, ↓vf8, ↓zf8, ↓vf10, rf10, ↓zf10, S1f4f3t0_law, S1f4f3_law, U1f4f3t0_law, h1, h2, pt, ma, na]); (try simp only [T.bind_ret]); exact rfl) ?_); (try (with_reducible refine al_nx ?_))
  have ll := lam_at (fk := lCons (fVar 10) (lCons (fNew (nLst lNil)) (lCons (fVar 4) lNil))) (ρ := [.fro (.scr ns), .fro OV, s2, .fro .box, .fro (.int (p : Int)), .fro GV, s6, .fro (.int (k : Int)), .fro (.int (a : Int)), .fro y, .fro BTV]) (by refine t_eq ?_; simp -dsimp only [↓lCons_b, ↓fNew_b, ↓nLst_b, ↓lNil_b, ↓frz_val, ↓T.bind_assoc, bind_ret', big, List.length_nil, ↓reduceIte, Nat.reduceLeDiff, ↓vf4, ↓zf4, ↓vf10, ↓zf10]; (try simp only [T.bind_ret])) (nl (.lst []))
  (simp only [U1f3f0t0_law, U1f3f0_law, U1f4f3t0_law, U1f4f4t0_law, U1f4f5t0_law, U1f4f5_law, U1f4f4_law, U1f4f3_law, U1f4f2_law, U1f4f1_law, U1f4f0_law, U1f4_law, U1f3_law, U1f2_law, U1f1_law, U1f0_law, U2_law, U1_law, U0_law, al_seq, nx_nx, lq_nx]; refine al_rd _ (by (simp -dsimp only [↓fBin_b, ↓fBlT_b, ↓sIf_b, ↓sNil_b, ↓blOf_b_b, rs_val, ↓T.bind_assoc, bind_ret', lift_some, ↓reduceIte, Bool.false_eq_true, ↓vf8, rf8, S1f4f4t0_law, S1f4f4_law, U1f4f4t0_law, ll, nn]); (try simp only [T.bind_ret]); exact rfl) ?_); (try (with_reducible refine al_nx ?_))
  (simp only [U1f3f0t0_law, U1f3f0_law, U1f4f3t0_law, U1f4f4t0_law, U1f4f5t0_law, U1f4f5_law, U1f4f4_law, U1f4f3_law, U1f4f2_law, U1f4f1_law, U1f4f0_law, U1f4_law, U1f3_law, U1f2_law, U1f1_law, U1f0_law, U2_law, U1_law, U0_law, al_seq, nx_nx, lq_nx]; refine al_rd _ (by (simp -dsimp only [↓fBin_b, ↓fBlT_b, ↓lCons_b, ↓fCall_b, ↓sIf_b, ↓fNew_b, ↓nLst_b, ↓fC_b, ↓lNil_b, ↓sNil_b, ↓frz_val, ↓blOf_b_b, rs_val, ↓T.bind_assoc, bind_ret', lift_some, big, List.length_cons, List.length_nil, List.append_nil, ↓reduceIte, Nat.reduceLeDiff, Bool.false_eq_true, Int.zero_add, Nat.zero_add, ↓vf4, ↓zf4, ↓vf5, ↓zf5, S1f4f5t0_law, S1f4f5_law, U1f4f5t0_law, hl, ml, nel]); (try simp only [T.bind_ret]); exact rfl) ?_); (try (with_reducible refine al_nx ?_))
  refine al_endL ?_
  exact ⟨_, _, _, _, _, _, rfl⟩
end K52
set_option Elab.async false
set_option linter.all false
set_option maxRecDepth 100000
set_option maxHeartbeats 0
namespace K52
open PySem PySem.Spec PyProof.Rows L2 Dn
theorem code_at {K : PySem.W.Frag} {x q : Str} {a : Arguments} {b : List Stmt} {sc : Scope} {dv : List V} {fd : FuncData} {cL TP : Addr} (G : FunD K x q a b sc dv [] (He.ga K x) fd) (h : He.cT K (x, none) = (cL, TP)) : fd.code = .ref cL := by
  obtain ⟨⟨oc, od, dV, kV, doc, pm, an, cdv, ct, osl, rfl, lk, hcd, hD, hK⟩, kp⟩ := G
  obtain ⟨c, e⟩ := He.codeIn_ref hcd
  have e2 : He.codeOf K (x, none) = c := He.codeOf_eq (p := (x, none)) lk e
  have e3 : He.codeOf K (x, none) = cL := congrArg Prod.fst h
  show cdv = .ref cL
  rw [e, ← e3, e2]
theorem walkT {l : PySem.W.OpenLaw} {n k : Nat} {q : Program} {loose : List Str} {XP : (Str → Option Value) → Heap → Prop} {YP : World → Heap → Prop} {d : DefRec} {CX : World → CXT} {x : Str} (hn : l.most = some n) (hn2 : n ≤ sizeLine) (hs : n = 63) (hdf : d.params.defaults = []) (hr : Room k callerA)
    (F : ∀ (w : World) (mg : Str → Option Value) (fa : Addr) (h : Heap), YP w h → h.Ns mainGlobals mg → mg d.name = some (.ref fa) → ∃ (K : PySem.W.Frag) (fd : FuncData) (c1 T1 c2 T2 : Addr), K.In h ∧ (∀ p ∈ [(c1, T1), (c2, T2)], h.get? p.2 = some { cls := .none, data := .fields #[] }) ∧ (∀ p ∈ [(c1, T1), (c2, T2)], K.lookup p.2 = none) ∧ (∀ p ∈ [(c1, T1), (c2, T2)], PySem.W.CodeHd h p.1 p.2) ∧
      (∀ (s : Shared) (u : Value), BindsTo s fd ⟨[u], []⟩ [(x, u)]) ∧ ∀ base : Heap, K.In base → base.Ns mainGlobals mg → LamX.TabB base mg c1 T1 → LamX.TabB base mg c2 T2 → FnOk l.prog w K mg base (CX w) k fa fd [x] (Dn.spLawT2 K T1 T2))
    (hx : ∀ (w : World) (H : Hp) (s : Shared) (e : Value) (s' : Shared), CX w [] H s (fun _ _ _ => False) e s' → False) : PySem.W.WalkO q loose XP YP l.row.toRowW d [] (fun f vs => PySem.call f vs) := by
  subst hs
  refine Att.attach_callB hn hdf fun w s0 s1 mg mb fa o pm cd doc a us ns gr yp ho hd hcd hmg hobj hints hlen hbits hgens => ?_
  obtain ⟨K, fd, c1, T1, c2, T2, kin, hT, nT, C, bd, hF⟩ := F w mg fa _ yp gr.T.g hmg
  exact LamX.law_callTs (cs := [(c1, T1), (c2, T2)]) kin gr.T.g gr.T.b gr.T.builtins gr.T.nolimit hgens hT nT C gr.T.bmain hobj hints (Nat.le_trans hlen hn2) hr (fun base h1 h2 h3 => hF base h1 h2 (h3 (c1, T1) (by simp)) (h3 (c2, T2) (by simp))) bd (fun H hP h2 => ⟨a, ns, rfl, h2, hlen, hP (c1, T1) (by simp), hP (c2, T2) (by simp), fun _ => rfl⟩) fun H e s' => hx w H s1 e s'
theorem all_mkD {l : PySem.W.OpenLaw} {w : World} {K : PySem.W.Frag} {h : Heap} {mg : Str → Option Value} {fa cL1 TP1 cL2 TP2 : Addr} (X : K.In h) (G : h.Ns mainGlobals mg) (hfa : mg "law" = some (.ref fa)) (c : He.SaysD faL fnL K) (xb : (exL.all fun e => e K) = true) (hcL1 : He.cT K ("_law_all_heard", none) = (cL1, TP1)) (hcL2 : He.cT K ("law", none) = (cL2, TP2))
    : ∃ fd : FuncData, (∀ (s : Shared) (v : Value), BindsTo s fd ⟨[v], []⟩ [("_law_script", v)]) ∧ ∀ base : Heap, K.In base → base.Ns mainGlobals mg → LamX.TabB base mg cL1 TP1 → LamX.TabB base mg cL2 TP2 → FnOk l.prog w K mg base (L2.CX l.prog w) 9 fa fd ["_law_script"] (spLawT2 K TP1 TP2) := by
  have aC_TurnError : PySem.W.nsIn K mainGlobals "TurnError" = some (some (.ref (He.ga K "TurnError"))) := He.eqO_ok (c.fact 0 (f := .glo "TurnError") rfl)
  have aC_InvalidMisses : PySem.W.nsIn K mainGlobals "InvalidMisses" = some (some (.ref (He.ga K "InvalidMisses"))) := He.eqO_ok (c.fact 1 (f := .glo "InvalidMisses") rfl)
  have aC_InvalidDays : PySem.W.nsIn K mainGlobals "InvalidDays" = some (some (.ref (He.ga K "InvalidDays"))) := He.eqO_ok (c.fact 2 (f := .glo "InvalidDays") rfl)
  obtain ⟨cd_TurnError, cl_TurnError⟩ := Option.isSome_iff_exists.mp (ex_get xb 0 (e := exF0) rfl)
  obtain ⟨cd_InvalidMisses, cl_InvalidMisses⟩ := Option.isSome_iff_exists.mp (ex_get xb 1 (e := exF1) rfl)
  obtain ⟨cd_InvalidDays, cl_InvalidDays⟩ := Option.isSome_iff_exists.mp (ex_get xb 2 (e := exF2) rfl)
  obtain ⟨nm_InvalidDays, q_InvalidDays, N_InvalidDays, bs_InvalidDays, B_InvalidDays_TurnError, sn_InvalidDays, sub_InvalidDays, ab_InvalidDays, col_InvalidDays, dd_InvalidDays, m0_InvalidDays, m1_InvalidDays, m2_InvalidDays, m3_InvalidDays, m5_InvalidDays, xL_InvalidDays⟩ := xlB_ok (ex_get xb 3 (e := exF3) rfl)
  have iC_InvalidDays : PySem.W.findIn K (.ref (He.ga K "InvalidDays")) "__init__" = some (some (.ref (He.ma K (He.ga K "InvalidDays") "__init__"))) := He.eqO_ok (ex_get xb 4 (e := exF4) rfl)
  have tI_InvalidDays : PySem.W.typeIn K (.ref (He.ma K (He.ga K "InvalidDays") "__init__")) = some (.type "function") := of_decide_eq_true (ex_get xb 5 (e := exF5) rfl)
  obtain ⟨fd_InvalidDays, G_InvalidDays⟩ : ∃ fd, FunD K "__init__" "InvalidDays.__init__" (defArgs s_InvalidDays___init__) (defBody s_InvalidDays___init__) (defScope s_InvalidDays___init__) [] [] (He.ma K (He.ga K "InvalidDays") "__init__") fd := c.def_ 0 rfl
  have ty_TurnError : PySem.W.typeIn K (.ref (He.ga K "TurnError")) = some (.type "type") := of_decide_eq_true (ex_get xb 6 (e := exF6) rfl)
  have eB_TurnError : PySem.W.subIn K (.ref (He.ga K "TurnError")) (.type "BaseException") = some true := eqOB_ok (ex_get xb 7 (e := exF7) rfl)
  have ty_InvalidMisses : PySem.W.typeIn K (.ref (He.ga K "InvalidMisses")) = some (.type "type") := of_decide_eq_true (ex_get xb 8 (e := exF8) rfl)
  have eB_InvalidMisses : PySem.W.subIn K (.ref (He.ga K "InvalidMisses")) (.type "BaseException") = some true := eqOB_ok (ex_get xb 9 (e := exF9) rfl)
  have ty_InvalidDays : PySem.W.typeIn K (.ref (He.ga K "InvalidDays")) = some (.type "type") := of_decide_eq_true (ex_get xb 10 (e := exF10) rfl)
  have eB_InvalidDays : PySem.W.subIn K (.ref (He.ga K "InvalidDays")) (.type "BaseException") = some true := eqOB_ok (ex_get xb 11 (e := exF11) rfl)
  have sa_InvalidDays : PySem.W.findIn K (.ref (He.ga K "InvalidDays")) "__setattr__" = some (some (.builtin "object.__setattr__")) := He.eqO_ok (ex_get xb 12 (e := exF12) rfl)
  have ga_InvalidDays : PySem.W.findIn K (.ref (He.ga K "InvalidDays")) "__getattribute__" = some (some (.builtin "BaseException.__getattribute__")) := He.eqO_ok (ex_get xb 13 (e := exF13) rfl)
  have gg_InvalidDays : PySem.W.findIn K (.ref (He.ga K "InvalidDays")) "__getattr__" = some none := He.eqO_ok (ex_get xb 14 (e := exF14) rfl)
  have no_InvalidDays : PySem.W.findIn K (.ref (He.ga K "InvalidDays")) "at" = some none := He.eqO_ok (ex_get xb 15 (e := exF15) rfl)
  have kc_InvalidDays : PySem.W.keepIn K (.ref (He.ga K "InvalidDays")) = true := (ex_get xb 16 (e := exF16) rfl)
  have hd_InvalidDays : PySem.W.hasDictIn K (He.ga K "InvalidDays") = true := (ex_get xb 17 (e := exF17) rfl)
  have oa_InvalidDays : PySem.W.findIn K (.ref (He.ga K "InvalidDays")) "__class__" = some (some (.builtin "object.__class__")) := He.eqO_ok (ex_get xb 18 (e := exF18) rfl)
  have og_InvalidDays : PySem.W.specialIn K (.builtin "object.__class__") "__get__" = some (some (.builtin "getset_descriptor.__get__")) := He.eqO_ok (ex_get xb 19 (e := exF19) rfl)
  have ot_InvalidDays : PySem.W.takesIn K (.builtin "object.__class__") = some true := eqOB_ok (ex_get xb 20 (e := exF20) rfl)
  have om_InvalidDays : PySem.W.mroIn K (He.ga K "InvalidDays") (.type "object") = some true := eqOB_ok (ex_get xb 21 (e := exF21) rfl)
  have s_InvalidDays_InvalidDays : PySem.W.subIn K (.ref (He.ga K "InvalidDays")) (.ref (He.ga K "InvalidDays")) = some true := eqOB_ok (ex_get xb 22 (e := exF22) rfl)
  have s_InvalidDays_TurnError : PySem.W.subIn K (.ref (He.ga K "InvalidDays")) (.ref (He.ga K "TurnError")) = some true := eqOB_ok (ex_get xb 23 (e := exF23) rfl)
  have s_InvalidDays_InvalidMisses : PySem.W.subIn K (.ref (He.ga K "InvalidDays")) (.ref (He.ga K "InvalidMisses")) = some false := eqOB_ok (ex_get xb 24 (e := exF24) rfl)
  have n_InvalidDays_InvalidMisses : (Value.ref (He.ga K "InvalidDays") == Value.ref (He.ga K "InvalidMisses")) = false := eq_of_beq (ex_get xb 25 (e := exF25) rfl)
  have a1 : PySem.W.nsIn K mainGlobals "_law_box" = some (some (.ref (He.ga K "_law_box"))) := He.eqO_ok (c.fact 3 (f := .glo "_law_box") rfl)
  obtain ⟨fd1, G1⟩ : ∃ fd, FunD K "_law_box" "_law_box" (defArgs s_law_box) (defBody s_law_box) (defScope s_law_box) [] [] (He.ga K "_law_box") fd := c.def_ 1 rfl
  have k1 := G1.kp
  have a2 : PySem.W.nsIn K mainGlobals "_law_take" = some (some (.ref (He.ga K "_law_take"))) := He.eqO_ok (c.fact 4 (f := .glo "_law_take") rfl)
  obtain ⟨fd2, G2⟩ : ∃ fd, FunD K "_law_take" "_law_take" (defArgs s_law_take) (defBody s_law_take) (defScope s_law_take) [] [] (He.ga K "_law_take") fd := c.def_ 2 rfl
  have k2 := G2.kp
  have a3 : PySem.W.nsIn K mainGlobals "_law_days" = some (some (.ref (He.ga K "_law_days"))) := He.eqO_ok (c.fact 5 (f := .glo "_law_days") rfl)
  obtain ⟨fd3, G3⟩ : ∃ fd, FunD K "_law_days" "_law_days" (defArgs s_law_days) (defBody s_law_days) (defScope s_law_days) [] [] (He.ga K "_law_days") fd := c.def_ 3 rfl
  have k3 := G3.kp
  have a4 : PySem.W.nsIn K mainGlobals "_law_pick" = some (some (.ref (He.ga K "_law_pick"))) := He.eqO_ok (c.fact 6 (f := .glo "_law_pick") rfl)
  obtain ⟨fd4, G4⟩ : ∃ fd, FunD K "_law_pick" "_law_pick" (defArgs s_law_pick) (defBody s_law_pick) (defScope s_law_pick) [] [] (He.ga K "_law_pick") fd := c.def_ 4 rfl
  have k4 := G4.kp
  have a5 : PySem.W.nsIn K mainGlobals "_law_heard" = some (some (.ref (He.ga K "_law_heard"))) := He.eqO_ok (c.fact 7 (f := .glo "_law_heard") rfl)
  obtain ⟨fd5, G5⟩ : ∃ fd, FunD K "_law_heard" "_law_heard" (defArgs s_law_heard) (defBody s_law_heard) (defScope s_law_heard) [] [] (He.ga K "_law_heard") fd := c.def_ 5 rfl
  have k5 := G5.kp
  have a6 : PySem.W.nsIn K mainGlobals "far_item" = some (some (.ref (He.ga K "far_item"))) := He.eqO_ok (c.fact 8 (f := .glo "far_item") rfl)
  obtain ⟨fd6, G6⟩ : ∃ fd, FunD K "far_item" "far_item" (defArgs s_far_item) (defBody s_far_item) (defScope s_far_item) [] [] (He.ga K "far_item") fd := c.def_ 6 rfl
  have k6 := G6.kp
  have a7 : PySem.W.nsIn K mainGlobals "widest_gap" = some (some (.ref (He.ga K "widest_gap"))) := He.eqO_ok (c.fact 9 (f := .glo "widest_gap") rfl)
  obtain ⟨fd7, G7⟩ : ∃ fd, FunD K "widest_gap" "widest_gap" (defArgs s_widest_gap) (defBody s_widest_gap) (defScope s_widest_gap) [] [] (He.ga K "widest_gap") fd := c.def_ 7 rfl
  have k7 := G7.kp
  have a8 : PySem.W.nsIn K mainGlobals "is_sequence" = some (some (.ref (He.ga K "is_sequence"))) := He.eqO_ok (c.fact 10 (f := .glo "is_sequence") rfl)
  obtain ⟨fd8, G8⟩ : ∃ fd, FunD K "is_sequence" "is_sequence" (defArgs s_is_sequence) (defBody s_is_sequence) (defScope s_is_sequence) [] [] (He.ga K "is_sequence") fd := c.def_ 8 rfl
  have k8 := G8.kp
  have a9 : PySem.W.nsIn K mainGlobals "is_integer" = some (some (.ref (He.ga K "is_integer"))) := He.eqO_ok (c.fact 11 (f := .glo "is_integer") rfl)
  obtain ⟨fd9, G9⟩ : ∃ fd, FunD K "is_integer" "is_integer" (defArgs s_is_integer) (defBody s_is_integer) (defScope s_is_integer) [] [] (He.ga K "is_integer") fd := c.def_ 9 rfl
  have k9 := G9.kp
  have a10 : PySem.W.nsIn K mainGlobals "is_whole" = some (some (.ref (He.ga K "is_whole"))) := He.eqO_ok (c.fact 12 (f := .glo "is_whole") rfl)
  obtain ⟨fd10, G10⟩ : ∃ fd, FunD K "is_whole" "is_whole" (defArgs s_is_whole) (defBody s_is_whole) (defScope s_is_whole) [] [] (He.ga K "is_whole") fd := c.def_ 10 rfl
  have k10 := G10.kp
  have a11 : PySem.W.nsIn K mainGlobals "is_below" = some (some (.ref (He.ga K "is_below"))) := He.eqO_ok (c.fact 13 (f := .glo "is_below") rfl)
  obtain ⟨fd11, G11⟩ : ∃ fd, FunD K "is_below" "is_below" (defArgs s_is_below) (defBody s_is_below) (defScope s_is_below) [] [] (He.ga K "is_below") fd := c.def_ 11 rfl
  have k11 := G11.kp
  have a12 : PySem.W.nsIn K mainGlobals "ring_days" = some (some (.ref (He.ga K "ring_days"))) := He.eqO_ok (c.fact 14 (f := .glo "ring_days") rfl)
  obtain ⟨fd12, G12⟩ : ∃ fd, FunD K "ring_days" "ring_days" (defArgs s_ring_days) (defBody s_ring_days) (defScope s_ring_days) [] [] (He.ga K "ring_days") fd := c.def_ 12 rfl
  have k12 := G12.kp
  have a13 : PySem.W.nsIn K mainGlobals "ring_gap" = some (some (.ref (He.ga K "ring_gap"))) := He.eqO_ok (c.fact 15 (f := .glo "ring_gap") rfl)
  obtain ⟨fd13, G13⟩ : ∃ fd, FunD K "ring_gap" "ring_gap" (defArgs s_ring_gap) (defBody s_ring_gap) (defScope s_ring_gap) [] [] (He.ga K "ring_gap") fd := c.def_ 13 rfl
  have k13 := G13.kp
  have a14 : PySem.W.nsIn K mainGlobals "first_gaps" = some (some (.ref (He.ga K "first_gaps"))) := He.eqO_ok (c.fact 16 (f := .glo "first_gaps") rfl)
  obtain ⟨fd14, G14⟩ : ∃ fd, FunD K "first_gaps" "first_gaps" (defArgs s_first_gaps) (defBody s_first_gaps) (defScope s_first_gaps) [] [] (He.ga K "first_gaps") fd := c.def_ 14 rfl
  have k14 := G14.kp
  have a15 : PySem.W.nsIn K mainGlobals "least_gap" = some (some (.ref (He.ga K "least_gap"))) := He.eqO_ok (c.fact 17 (f := .glo "least_gap") rfl)
  obtain ⟨fd15, G15⟩ : ∃ fd, FunD K "least_gap" "least_gap" (defArgs s_least_gap) (defBody s_least_gap) (defScope s_least_gap) [] [] (He.ga K "least_gap") fd := c.def_ 15 rfl
  have k15 := G15.kp
  have a16 : PySem.W.nsIn K mainGlobals "is_best" = some (some (.ref (He.ga K "is_best"))) := He.eqO_ok (c.fact 18 (f := .glo "is_best") rfl)
  obtain ⟨fd16, G16⟩ : ∃ fd, FunD K "is_best" "is_best" (defArgs s_is_best) (defBody s_is_best) (defScope s_is_best) [] [] (He.ga K "is_best") fd := c.def_ 16 rfl
  have k16 := G16.kp
  have a17 : PySem.W.nsIn K mainGlobals "first_longer" = some (some (.ref (He.ga K "first_longer"))) := He.eqO_ok (c.fact 19 (f := .glo "first_longer") rfl)
  obtain ⟨fd17, G17⟩ : ∃ fd, FunD K "first_longer" "first_longer" (defArgs s_first_longer) (defBody s_first_longer) (defScope s_first_longer) [] [] (He.ga K "first_longer") fd := c.def_ 17 rfl
  have k17 := G17.kp
  have a18 : PySem.W.nsIn K mainGlobals "no_longer" = some (some (.ref (He.ga K "no_longer"))) := He.eqO_ok (c.fact 20 (f := .glo "no_longer") rfl)
  obtain ⟨fd18, G18⟩ : ∃ fd, FunD K "no_longer" "no_longer" (defArgs s_no_longer) (defBody s_no_longer) (defScope s_no_longer) [] [] (He.ga K "no_longer") fd := c.def_ 18 rfl
  have k18 := G18.kp
  have a19 : PySem.W.nsIn K mainGlobals "_law_all_heard" = some (some (.ref (He.ga K "_law_all_heard"))) := He.eqO_ok (c.fact 21 (f := .glo "_law_all_heard") rfl)
  obtain ⟨fd19, G19⟩ : ∃ fd, FunD K "_law_all_heard" "_law_all_heard" (defArgs s_law_all_heard) (defBody s_law_all_heard) (defScope s_law_all_heard) [] [] (He.ga K "_law_all_heard") fd := c.def_ 19 rfl
  have k19 := G19.kp
  have a20 : PySem.W.nsIn K mainGlobals "law" = some (some (.ref (He.ga K "law"))) := He.eqO_ok (c.fact 22 (f := .glo "law") rfl)
  obtain ⟨fd20, G20⟩ : ∃ fd, FunD K "law" "law" (defArgs s_law) (defBody s_law) (defScope s_law) [] [] (He.ga K "law") fd := c.def_ 20 rfl
  have k20 := G20.kp
  have z__ : PySem.W.nsIn K mainGlobals "" = some none := He.eqO_ok (c.fact 23 (f := .free "") rfl)
  have z_abs : PySem.W.nsIn K mainGlobals "abs" = some none := He.eqO_ok (c.fact 24 (f := .free "abs") rfl)
  have z_bool : PySem.W.nsIn K mainGlobals "bool" = some none := He.eqO_ok (c.fact 25 (f := .free "bool") rfl)
  have z_divmod : PySem.W.nsIn K mainGlobals "divmod" = some none := He.eqO_ok (c.fact 26 (f := .free "divmod") rfl)
  have z_enumerate : PySem.W.nsIn K mainGlobals "enumerate" = some none := He.eqO_ok (c.fact 27 (f := .free "enumerate") rfl)
  have z_int : PySem.W.nsIn K mainGlobals "int" = some none := He.eqO_ok (c.fact 28 (f := .free "int") rfl)
  have z_isinstance : PySem.W.nsIn K mainGlobals "isinstance" = some none := He.eqO_ok (c.fact 29 (f := .free "isinstance") rfl)
  have z_lcm : PySem.W.nsIn K mainGlobals "lcm" = some (some (.builtin "math.lcm")) := He.eqO_ok (ex_get xb 26 (e := exF26) rfl)
  have z_len : PySem.W.nsIn K mainGlobals "len" = some none := He.eqO_ok (c.fact 30 (f := .free "len") rfl)
  have z_list : PySem.W.nsIn K mainGlobals "list" = some none := He.eqO_ok (c.fact 31 (f := .free "list") rfl)
  have z_max : PySem.W.nsIn K mainGlobals "max" = some none := He.eqO_ok (c.fact 32 (f := .free "max") rfl)
  have z_min : PySem.W.nsIn K mainGlobals "min" = some none := He.eqO_ok (c.fact 33 (f := .free "min") rfl)
  have z_range : PySem.W.nsIn K mainGlobals "range" = some none := He.eqO_ok (c.fact 34 (f := .free "range") rfl)
  have z_sorted : PySem.W.nsIn K mainGlobals "sorted" = some none := He.eqO_ok (c.fact 35 (f := .free "sorted") rfl)
  have z_tuple : PySem.W.nsIn K mainGlobals "tuple" = some none := He.eqO_ok (c.fact 36 (f := .free "tuple") rfl)
  have e := hfa.symm.trans (PySem.W.mg_of X G a20)
  cases e
  have T : Bl mg := ⟨PySem.W.mg_none_of X G z__, PySem.W.mg_none_of X G z_abs, PySem.W.mg_none_of X G z_bool, PySem.W.mg_none_of X G z_divmod, PySem.W.mg_none_of X G z_enumerate, PySem.W.mg_none_of X G z_int, PySem.W.mg_none_of X G z_isinstance, PySem.W.mg_of X G z_lcm, PySem.W.mg_none_of X G z_len, PySem.W.mg_none_of X G z_list, PySem.W.mg_none_of X G z_max, PySem.W.mg_none_of X G z_min, PySem.W.mg_none_of X G z_range, PySem.W.mg_none_of X G z_sorted, PySem.W.mg_none_of X G z_tuple⟩
  have F_InvalidDays := fun_ofD G_InvalidDays
  have b_InvalidDays := F_InvalidDays.binds (ps := ["self", "at"]) fun _ _ _ _ _ _ us hl => match us, hl with | [_, _], _ => rfl
  have ER : Ers K mg (He.ga K "TurnError") (He.ga K "InvalidMisses") (He.ga K "InvalidDays") := ⟨⟨PySem.W.mg_of X G aC_TurnError, by rw [cl_TurnError]; rfl, ty_TurnError, eB_TurnError⟩, ⟨PySem.W.mg_of X G aC_InvalidMisses, by rw [cl_InvalidMisses]; rfl, ty_InvalidMisses, eB_InvalidMisses⟩, ⟨PySem.W.mg_of X G aC_InvalidDays, by rw [cl_InvalidDays]; rfl, ty_InvalidDays, eB_InvalidDays⟩, PySem.W.mg_of X G aC_InvalidDays, ⟨⟨ga_InvalidDays, gg_InvalidDays, eB_InvalidDays, hd_InvalidDays, oa_InvalidDays, og_InvalidDays, ot_InvalidDays, om_InvalidDays⟩, ⟨ga_InvalidDays, gg_InvalidDays, eB_InvalidDays, hd_InvalidDays⟩, no_InvalidDays⟩, s_InvalidDays_InvalidDays, s_InvalidDays_TurnError, s_InvalidDays_InvalidMisses, n_InvalidDays_InvalidMisses⟩
  have F1 := fun_ofD G1
  have b1 := F1.binds (ps := ["_law_script", "_law_k", "_law_own"]) fun _ _ _ _ _ _ us hl => match us, hl with | [_, _, _], _ => rfl
  have g1 := PySem.W.mg_of X G a1
  have F2 := fun_ofD G2
  have b2 := F2.binds (ps := ["_law_box_here", "_law_limit"]) fun _ _ _ _ _ _ us hl => match us, hl with | [_, _], _ => rfl
  have g2 := PySem.W.mg_of X G a2
  have F3 := fun_ofD G3
  have b3 := F3.binds (ps := ["_law_box_here", "_law_period", "_law_most"]) fun _ _ _ _ _ _ us hl => match us, hl with | [_, _, _], _ => rfl
  have g3 := PySem.W.mg_of X G a3
  have F4 := fun_ofD G4
  have b4 := F4.binds (ps := ["_law_box_here", "_law_some"]) fun _ _ _ _ _ _ us hl => match us, hl with | [_, _], _ => rfl
  have g4 := PySem.W.mg_of X G a4
  have F5 := fun_ofD G5
  have b5 := F5.binds (ps := ["_law_work"]) fun _ _ _ _ _ _ us hl => match us, hl with | [_], _ => rfl
  have g5 := PySem.W.mg_of X G a5
  have F6 := fun_ofD G6
  have b6 := F6.binds (ps := ["row", "period", "at"]) fun _ _ _ _ _ _ us hl => match us, hl with | [_, _, _], _ => rfl
  have g6 := PySem.W.mg_of X G a6
  have F7 := fun_ofD G7
  have b7 := F7.binds (ps := ["days", "period", "misses"]) fun _ _ _ _ _ _ us hl => match us, hl with | [_, _, _], _ => rfl
  have g7 := PySem.W.mg_of X G a7
  have F8 := fun_ofD G8
  have b8 := F8.binds (ps := ["value"]) fun _ _ _ _ _ _ us hl => match us, hl with | [_], _ => rfl
  have g8 := PySem.W.mg_of X G a8
  have F9 := fun_ofD G9
  have b9 := F9.binds (ps := ["value"]) fun _ _ _ _ _ _ us hl => match us, hl with | [_], _ => rfl
  have g9 := PySem.W.mg_of X G a9
  have F10 := fun_ofD G10
  have b10 := F10.binds (ps := ["value", "least"]) fun _ _ _ _ _ _ us hl => match us, hl with | [_, _], _ => rfl
  have g10 := PySem.W.mg_of X G a10
  have F11 := fun_ofD G11
  have b11 := F11.binds (ps := ["value", "many"]) fun _ _ _ _ _ _ us hl => match us, hl with | [_, _], _ => rfl
  have g11 := PySem.W.mg_of X G a11
  have F12 := fun_ofD G12
  have b12 := F12.binds (ps := ["days", "period"]) fun _ _ _ _ _ _ us hl => match us, hl with | [_, _], _ => rfl
  have g12 := PySem.W.mg_of X G a12
  have F13 := fun_ofD G13
  have b13 := F13.binds (ps := ["days", "period", "misses"]) fun _ _ _ _ _ _ us hl => match us, hl with | [_, _, _], _ => rfl
  have g13 := PySem.W.mg_of X G a13
  have F14 := fun_ofD G14
  have b14 := F14.binds (ps := ["days", "period"]) fun _ _ _ _ _ _ us hl => match us, hl with | [_, _], _ => rfl
  have g14 := PySem.W.mg_of X G a14
  have F15 := fun_ofD G15
  have b15 := F15.binds (ps := ["period", "turnings", "misses"]) fun _ _ _ _ _ _ us hl => match us, hl with | [_, _, _], _ => rfl
  have g15 := PySem.W.mg_of X G a15
  have F16 := fun_ofD G16
  have b16 := F16.binds (ps := ["days", "period"]) fun _ _ _ _ _ _ us hl => match us, hl with | [_, _], _ => rfl
  have g16 := PySem.W.mg_of X G a16
  have F17 := fun_ofD G17
  have b17 := F17.binds (ps := ["days", "period", "others", "other_period"]) fun _ _ _ _ _ _ us hl => match us, hl with | [_, _, _, _], _ => rfl
  have g17 := PySem.W.mg_of X G a17
  have F18 := fun_ofD G18
  have b18 := F18.binds (ps := ["days", "others", "period"]) fun _ _ _ _ _ _ us hl => match us, hl with | [_, _, _], _ => rfl
  have g18 := PySem.W.mg_of X G a18
  have F19 := fun_ofD G19
  have b19 := F19.binds (ps := ["_law_days_here", "_law_period", "_law_good"]) fun _ _ _ _ _ _ us hl => match us, hl with | [_, _, _], _ => rfl
  have g19 := PySem.W.mg_of X G a19
  have F20 := fun_ofD G20
  refine ⟨fd20, fun s v => FunD.bindsA (ps := ["_law_script"]) G20 (fun _ _ _ _ _ _ us hl => match us, hl with | [_], _ => rfl) s [v] rfl, fun base _ _ TB1 TB2 => ?_⟩
  have D_InvalidDays : Er l.prog w K mg base "InvalidDays" "at" (He.ga K "InvalidDays") := ⟨PySem.W.mg_of X G aC_InvalidDays, ⟨⟨nm_InvalidDays, q_InvalidDays, N_InvalidDays, bs_InvalidDays, _, sn_InvalidDays, sub_InvalidDays, ab_InvalidDays, col_InvalidDays, dd_InvalidDays, m0_InvalidDays, m1_InvalidDays, m2_InvalidDays, m3_InvalidDays, m5_InvalidDays, xL_InvalidDays, by rfl⟩, sa_InvalidDays, eB_InvalidDays, ty_InvalidDays, kc_InvalidDays⟩, no_InvalidDays, (He.ma K (He.ga K "InvalidDays") "__init__"), _, "at", iC_InvalidDays, tI_InvalidDays, fn_exi F_InvalidDays ⟨rfl, rfl, rfl, by decide +kernel, rfl, by decide +kernel, by decide +kernel⟩ rfl (fun X h => by rw [h]; exact ⟨by first | exact Or.inl rfl | exact Or.inr (Or.inl rfl) | exact Or.inr (Or.inr rfl), by first | exact Or.inl rfl | exact Or.inr (Or.inl rfl) | exact Or.inr (Or.inr rfl)⟩) (by decide +kernel) (by decide +kernel) (by intros; rfl), b_InvalidDays⟩
  have D_law_box : Df l.prog w K mg base CT0 BB0 1 "_law_box" 3 ["_law_script", "_law_k", "_law_own"] f_law_box := d_law_box F1 g1 k1 b1 T ER 
  have D1_law_box : Df l.prog w K mg base CT0 (BB1 TP1) 1 "_law_box" 3 ["_law_script", "_law_k", "_law_own"] f_law_box := Df.tab D_law_box
  have D2_law_box : Df l.prog w K mg base CT0 (BB TP1 TP2) 1 "_law_box" 3 ["_law_script", "_law_k", "_law_own"] f_law_box := Df.tab D1_law_box
  have D_law_take : Df l.prog w K mg base CT0 BB0 1 "_law_take" 2 ["_law_box_here", "_law_limit"] f_law_take := ⟨⟨_, _, draw_of (ok_take F2 T), g2, k2, b2⟩, fDraw_len⟩
  have D1_law_take : Df l.prog w K mg base CT0 (BB1 TP1) 1 "_law_take" 2 ["_law_box_here", "_law_limit"] f_law_take := Df.tab D_law_take
  have D2_law_take : Df l.prog w K mg base CT0 (BB TP1 TP2) 1 "_law_take" 2 ["_law_box_here", "_law_limit"] f_law_take := Df.tab D1_law_take
  have D_law_days : Df l.prog w K mg base CT0 BB0 2 "_law_days" 3 ["_law_box_here", "_law_period", "_law_most"] f_law_days := d_law_days F3 g3 k3 b3 T ER D_law_take
  have D1_law_days : Df l.prog w K mg base CT0 (BB1 TP1) 2 "_law_days" 3 ["_law_box_here", "_law_period", "_law_most"] f_law_days := Df.tab D_law_days
  have D2_law_days : Df l.prog w K mg base CT0 (BB TP1 TP2) 2 "_law_days" 3 ["_law_box_here", "_law_period", "_law_most"] f_law_days := Df.tab D1_law_days
  have D_law_pick : Df l.prog w K mg base CT0 BB0 2 "_law_pick" 2 ["_law_box_here", "_law_some"] f_law_pick := d_law_pick F4 g4 k4 b4 T ER D_law_take
  have D1_law_pick : Df l.prog w K mg base CT0 (BB1 TP1) 2 "_law_pick" 2 ["_law_box_here", "_law_some"] f_law_pick := Df.tab D_law_pick
  have D2_law_pick : Df l.prog w K mg base CT0 (BB TP1 TP2) 2 "_law_pick" 2 ["_law_box_here", "_law_some"] f_law_pick := Df.tab D1_law_pick
  have D_law_heard : Lf K mg "_law_heard" s_law_heard "_law_work" := ⟨⟨_, _, F5, g5, k5, b5⟩⟩
  have D_far_item : Df l.prog w K mg base CT0 BB0 1 "far_item" 3 ["row", "period", "at"] f_far_item := d_far_item F6 g6 k6 b6 T ER 
  have D1_far_item : Df l.prog w K mg base CT0 (BB1 TP1) 1 "far_item" 3 ["row", "period", "at"] f_far_item := Df.tab D_far_item
  have D2_far_item : Df l.prog w K mg base CT0 (BB TP1 TP2) 1 "far_item" 3 ["row", "period", "at"] f_far_item := Df.tab D1_far_item
  have D_widest_gap : Df l.prog w K mg base CT0 BB0 2 "widest_gap" 3 ["days", "period", "misses"] f_widest_gap := d_widest_gap F7 g7 k7 b7 T ER D_far_item
  have D1_widest_gap : Df l.prog w K mg base CT0 (BB1 TP1) 2 "widest_gap" 3 ["days", "period", "misses"] f_widest_gap := Df.tab D_widest_gap
  have D2_widest_gap : Df l.prog w K mg base CT0 (BB TP1 TP2) 2 "widest_gap" 3 ["days", "period", "misses"] f_widest_gap := Df.tab D1_widest_gap
  have D_is_sequence : Df l.prog w K mg base CT0 BB0 1 "is_sequence" 1 ["value"] f_is_sequence := d_is_sequence F8 g8 k8 b8 T ER 
  have D1_is_sequence : Df l.prog w K mg base CT0 (BB1 TP1) 1 "is_sequence" 1 ["value"] f_is_sequence := Df.tab D_is_sequence
  have D2_is_sequence : Df l.prog w K mg base CT0 (BB TP1 TP2) 1 "is_sequence" 1 ["value"] f_is_sequence := Df.tab D1_is_sequence
  have D_is_integer : Df l.prog w K mg base CT0 BB0 1 "is_integer" 1 ["value"] f_is_integer := d_is_integer F9 g9 k9 b9 T ER 
  have D1_is_integer : Df l.prog w K mg base CT0 (BB1 TP1) 1 "is_integer" 1 ["value"] f_is_integer := Df.tab D_is_integer
  have D2_is_integer : Df l.prog w K mg base CT0 (BB TP1 TP2) 1 "is_integer" 1 ["value"] f_is_integer := Df.tab D1_is_integer
  have D_is_whole : Df l.prog w K mg base CT0 BB0 2 "is_whole" 2 ["value", "least"] f_is_whole := d_is_whole F10 g10 k10 b10 T ER D_is_integer
  have D1_is_whole : Df l.prog w K mg base CT0 (BB1 TP1) 2 "is_whole" 2 ["value", "least"] f_is_whole := Df.tab D_is_whole
  have D2_is_whole : Df l.prog w K mg base CT0 (BB TP1 TP2) 2 "is_whole" 2 ["value", "least"] f_is_whole := Df.tab D1_is_whole
  have D_is_below : Df l.prog w K mg base CT0 BB0 3 "is_below" 2 ["value", "many"] f_is_below := d_is_below F11 g11 k11 b11 T ER D_is_whole
  have D1_is_below : Df l.prog w K mg base CT0 (BB1 TP1) 3 "is_below" 2 ["value", "many"] f_is_below := Df.tab D_is_below
  have D2_is_below : Df l.prog w K mg base CT0 (BB TP1 TP2) 3 "is_below" 2 ["value", "many"] f_is_below := Df.tab D1_is_below
  have D_ring_days : Df l.prog w K mg base CT0 BB0 4 "ring_days" 2 ["days", "period"] f_ring_days := d_ring_days F12 g12 k12 b12 T ER D_is_sequence D_InvalidDays D_is_below
  have D1_ring_days : Df l.prog w K mg base CT0 (BB1 TP1) 4 "ring_days" 2 ["days", "period"] f_ring_days := Df.tab D_ring_days
  have D2_ring_days : Df l.prog w K mg base CT0 (BB TP1 TP2) 4 "ring_days" 2 ["days", "period"] f_ring_days := Df.tab D1_ring_days
  have D_ring_gap : Df l.prog w K mg base CT0 BB0 5 "ring_gap" 3 ["days", "period", "misses"] f_ring_gap := d_ring_gap F13 g13 k13 b13 T ER D_widest_gap D_ring_days
  have D1_ring_gap : Df l.prog w K mg base CT0 (BB1 TP1) 5 "ring_gap" 3 ["days", "period", "misses"] f_ring_gap := Df.tab D_ring_gap
  have D2_ring_gap : Df l.prog w K mg base CT0 (BB TP1 TP2) 5 "ring_gap" 3 ["days", "period", "misses"] f_ring_gap := Df.tab D1_ring_gap
  have D_first_gaps : Df l.prog w K mg base CT0 BB0 3 "first_gaps" 2 ["days", "period"] f_first_gaps := d_first_gaps F14 g14 k14 b14 T ER D_widest_gap
  have D1_first_gaps : Df l.prog w K mg base CT0 (BB1 TP1) 3 "first_gaps" 2 ["days", "period"] f_first_gaps := Df.tab D_first_gaps
  have D2_first_gaps : Df l.prog w K mg base CT0 (BB TP1 TP2) 3 "first_gaps" 2 ["days", "period"] f_first_gaps := Df.tab D1_first_gaps
  have D_least_gap : Df l.prog w K mg base CT0 BB0 1 "least_gap" 3 ["period", "turnings", "misses"] f_least_gap := d_least_gap F15 g15 k15 b15 T ER 
  have D1_least_gap : Df l.prog w K mg base CT0 (BB1 TP1) 1 "least_gap" 3 ["period", "turnings", "misses"] f_least_gap := Df.tab D_least_gap
  have D2_least_gap : Df l.prog w K mg base CT0 (BB TP1 TP2) 1 "least_gap" 3 ["period", "turnings", "misses"] f_least_gap := Df.tab D1_least_gap
  have D_is_best : Df l.prog w K mg base CT0 BB0 5 "is_best" 2 ["days", "period"] f_is_best := d_is_best F16 g16 k16 b16 T ER D_ring_days D_first_gaps D_least_gap
  have D1_is_best : Df l.prog w K mg base CT0 (BB1 TP1) 5 "is_best" 2 ["days", "period"] f_is_best := Df.tab D_is_best
  have D2_is_best : Df l.prog w K mg base CT0 (BB TP1 TP2) 5 "is_best" 2 ["days", "period"] f_is_best := Df.tab D1_is_best
  have D_first_longer : Df l.prog w K mg base CT0 BB0 4 "first_longer" 4 ["days", "period", "others", "other_period"] f_first_longer := d_first_longer F17 g17 k17 b17 T ER D_first_gaps D_far_item
  have D1_first_longer : Df l.prog w K mg base CT0 (BB1 TP1) 4 "first_longer" 4 ["days", "period", "others", "other_period"] f_first_longer := Df.tab D_first_longer
  have D2_first_longer : Df l.prog w K mg base CT0 (BB TP1 TP2) 4 "first_longer" 4 ["days", "period", "others", "other_period"] f_first_longer := Df.tab D1_first_longer
  have D_no_longer : Df l.prog w K mg base CT0 BB0 5 "no_longer" 3 ["days", "others", "period"] f_no_longer := d_no_longer F18 g18 k18 b18 T ER D_first_longer D_ring_days
  have D1_no_longer : Df l.prog w K mg base CT0 (BB1 TP1) 5 "no_longer" 3 ["days", "others", "period"] f_no_longer := Df.tab D_no_longer
  have D2_no_longer : Df l.prog w K mg base CT0 (BB TP1 TP2) 5 "no_longer" 3 ["days", "others", "period"] f_no_longer := Df.tab D1_no_longer
  have D1_law_all_heard : Df l.prog w K mg base CT0 (BB1 TP1) 8 "_law_all_heard" 3 ["_law_days_here", "_law_period", "_law_good"] f_law_all_heard := d_law_all_heard F19 g19 k19 (code_at G19 hcL1) TB1 b19 T ER D_law_heard D1_ring_gap D1_is_best D1_no_longer
  have D2_law_all_heard : Df l.prog w K mg base CT0 (BB TP1 TP2) 8 "_law_all_heard" 3 ["_law_days_here", "_law_period", "_law_good"] f_law_all_heard := Df.tab D1_law_all_heard
  have neT : TP1 ≠ TP2 := fun z => by
    have h : (!((He.cT K ("_law_all_heard", none)).2 == (He.cT K ("law", none)).2)) = true := ex_get xb 27 (e := exF27) rfl
    rw [hcL1, hcL2, z] at h
    simp at h
  have FL : FnOk l.prog w K mg base (L2.CX l.prog w) 9 _ _ ["_law_script"] (spM ⟨K, mg, CT0⟩ (BB TP1 TP2) 1 f_law) := fn_defT (N := N_law) (ps := ["_law_script"]) (k := 8) (body := b_law) F20 (code_at G20 hcL2) S_law (by decide) fun _ _ _ _ _ hr => l_law T ER D2_law_box D2_law_take D2_law_days D2_law_all_heard D2_law_pick D_law_heard D2_no_longer TB2 hr
  exact law_endTA2 FL neT (fun _ => ⟨fun _ z => False.elim z, fun _ z => False.elim z⟩) law_true
end K52
open PySem PySem.W PySem.Calls PyProof.Rows
set_option maxHeartbeats 0 in
theorem PySem.Challenge.cw_turnrota_k52_days_refused_holds : PySem.Challenge.rw_turnrota_k52_days_refused.Holds := by
  w_on; o_law
  refine HandSHeadRun.head_imp (r := OpenLaw.row PySem.Challenge.rw_turnrota_k52_days_refused) (q := PySem.W.view (OpenLaw.row PySem.Challenge.rw_turnrota_k52_days_refused).prog [0, 29]) (H := K52.hk) (ob := K52.obT) (M := 8000) (loose := K52.nmL) (d := HandSHeadRun.topDef (OpenLaw.row PySem.Challenge.rw_turnrota_k52_days_refused).prog 29) (kwd := []) K52.obT_eq K52.top_run
    (by kernel_rfl) (by kernel_rfl) (by kernel_rfl) (by rfl) (by first | assumption | decide +kernel) (by decide +kernel) ⟨rfl, rfl, rfl, rfl, rfl, by decide +kernel⟩ ?hw ?hc
  case hw => w_witness2
  case hc =>
    refine K52.walkT (l := PySem.Challenge.rw_turnrota_k52_days_refused) (n := 63) (k := 9) (x := "_law_script") (CX := fun w => L2.CX (PySem.Challenge.rw_turnrota_k52_days_refused).prog w) rfl (by decide) rfl (by kernel_rfl) ⟨rfl, by decide, by decide⟩ ?F Dn.cx_none
    case F =>
      intro w mg fa h Y G hmg0
      obtain ⟨K, KX, c⟩ := Y
      have hmg : mg ("law" : PySem.Str) = some (.ref fa) := by
        have e : (HandSHeadRun.topDef (OpenLaw.row PySem.Challenge.rw_turnrota_k52_days_refused).prog 29).name = ("law" : PySem.Str) := by kernel_rfl
        rw [← e]
        exact hmg0
      have mem2 : ((("law" : PySem.Str), (none : Option PySem.Str)) : He.Defn) ∈ K52.tfL := List.mem_cons_self
      have mem1 : ((("_law_all_heard" : PySem.Str), (none : Option PySem.Str)) : He.Defn) ∈ K52.tfL := List.mem_cons_of_mem _ List.mem_cons_self
      obtain ⟨fd, hb, hF⟩ := K52.all_mkD (l := PySem.Challenge.rw_turnrota_k52_days_refused) (w := w) (cL1 := (He.cT K ("_law_all_heard", none)).1) (TP1 := (He.cT K ("_law_all_heard", none)).2) (cL2 := (He.cT K ("law", none)).1) (TP2 := (He.cT K ("law", none)).2) KX G hmg c.t.d c.more rfl rfl
      refine ⟨K, fd, _, _, _, _, KX, fun p hp => ?_, fun p hp => ?_, fun p hp => ?_, hb, hF⟩
      · simp only [List.mem_cons, List.not_mem_nil, or_false] at hp
        rcases hp with rfl | rfl
        · exact c.empty _ mem1
        · exact c.empty _ mem2
      · simp only [List.mem_cons, List.not_mem_nil, or_false] at hp
        rcases hp with rfl | rfl
        · exact c.out _ mem1
        · exact c.out _ mem2
      · simp only [List.mem_cons, List.not_mem_nil, or_false] at hp
        rcases hp with rfl | rfl
        · exact PySem.W.codeHd_of_K KX (c.hd _ mem1)
        · exact PySem.W.codeHd_of_K KX (c.hd _ mem2)
