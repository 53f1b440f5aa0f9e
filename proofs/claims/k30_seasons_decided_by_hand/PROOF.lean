import PyProof.Rows.All
import Wide.All
import OpenK.AllK
import Wide.FinOn
import HandS.HeadHook4
import HandS.HeadEnd
import HandS.Head3
import HandS.Words
import HandS.ForMost
import HandS.ForExc
import HandS.IsInst
import HandS.Zip
import HandS.SetFor
import HandS.SortInts
import HandS.SortRule
import HandS.Wide
import HandS.Deep
import HandS.TupAny
import HandS.Conv
import HandS.Iter
import HandS.Dict
import HandS.Gcd
import HandS.WideBits
import HandS.TupMul
import HandS.RaiseMore
import PyProof.EnumMake
import PyProof.Draws
import KE.GoesMore
import HandS.TupLe
import PyProof.ReprRoads
import KE.DataMinMax
import HandS.TryOnly
import PyProof.Rows.RowBridgeK
import HandS.Style
import HandS.TupSets
import HandS.Defaults
import KE.DataAny
import HandS.SortKw
import HandS.SetKeys
import HandS.DictComp
import HandS.Flow
import PyProof.DictMoreH
import HandS.DictTup
import PyProof.InstNe
import HandS.Codes
import OpenK.KWalk
import KE.KCallOwn
import HandS.FStr
import HandS.Text
import HandS.ExcInit
import HandS.ExcOwn
import HandS.ExcField
import HandS.ExcIs
import KE.KExcIs
import KE.KMathGC
import PyProof.SumAnyB
import KE.DataFind
import KE.SortData
import KE.DataCmp
import HandS.Lambda
import HandS.EndTab
import KE.DataMinKey
import OpenK.KMore
import HandS.TryMany
import PySem.Challenge.RW_turnrota_k30_seasons_decided_by_hand
set_option Elab.async false
set_option linter.all false
set_option maxRecDepth 100000
set_option maxHeartbeats 0
namespace K30
open PySem PySem.Spec PyProof.Rows L2
def top (i : Nat) : Stmt := PySem.Challenge.pw_turnrota_k30_seasons_decided_by_hand.main.body.getD i (.Pass ⟨0, 0, 0, 0⟩)
abbrev s_law_deal : Stmt := top 63
abbrev s_is_integer : Stmt := top 11
abbrev s_is_whole : Stmt := top 12
abbrev s_is_sequence : Stmt := top 14
abbrev s_is_below : Stmt := top 13
abbrev s_are_spots : Stmt := top 53
abbrev s_is_row : Stmt := top 52
abbrev s_are_rows : Stmt := top 51
abbrev s_Rota_init : Stmt := inClass (top 50) 0
abbrev s_law_draw : Stmt := top 64
abbrev s_law_mixed : Stmt := top 65
abbrev s_law_cases : Stmt := top 61
abbrev s_is_look : Stmt := top 23
abbrev s_are_looks : Stmt := top 22
abbrev s_round_spots : Stmt := top 18
abbrev s_Rota_len : Stmt := inClass (top 50) 2
abbrev s_dues_ahead : Stmt := top 19
abbrev s_Season_init : Stmt := inClass (top 21) 0
abbrev s_days_between : Stmt := top 35
abbrev s_parts : Stmt := top 34
abbrev s_odd_stretches : Stmt := top 33
abbrev s_least : Stmt := top 27
abbrev s_possible : Stmt := top 26
abbrev s_check_possible : Stmt := top 38
abbrev s_surely_missed : Stmt := top 30
abbrev s_slack : Stmt := top 31
abbrev s_check_wheel : Stmt := top 17
abbrev s_Season_seen : Stmt := inClass (top 21) 1
abbrev s_possible_sides : Stmt := top 32
abbrev s_side : Stmt := top 28
abbrev s_is_turning : Stmt := top 24
abbrev s_check_turning : Stmt := top 39
abbrev s_if_missed : Stmt := top 36
abbrev s_if_made : Stmt := top 37
abbrev s_turning : Stmt := top 29
abbrev s_law_case_right : Stmt := top 62
abbrev s_least_need : Stmt := top 44
abbrev s_Course_within : Stmt := inClass (top 42) 3
abbrev s_Course_many : Stmt := inClass (top 42) 4
abbrev s_Course_init : Stmt := inClass (top 42) 0
abbrev s_product_of : Stmt := top 48
abbrev s_first_sums : Stmt := top 47
abbrev s_own_ways : Stmt := top 46
abbrev s_many_ways : Stmt := top 45
abbrev s_start : Stmt := top 43
abbrev s_count : Stmt := top 41
abbrev s_law : Stmt := top 66
theorem fun_ofD {K : PySem.W.Frag} {x qual : Str} {st : Stmt} {f : Addr} {fd : FuncData} (F : FunD K x qual (defArgs st) (defBody st) (defScope st) [] [] f fd) : Fun K x qual st f fd := by
  obtain ⟨⟨oc, od, dV, kV, doc, pm, an, cdv, ct, osl, rfl, lk, hcd, hD, hK⟩, kp⟩ := F
  rcases hD with ⟨_, rfl⟩ | ⟨e, _⟩
  · exact ⟨⟨oc, od, kV, doc, pm, an, cdv, ct, osl, rfl, lk, hcd⟩, kp⟩
  · exact absurd rfl e
def unitB (K : PySem.W.Frag) (U : Addr) : Bool := match K.lookup U with
  | some ⟨.type c, _, .seq its _, _⟩ => decide (c = "tuple") && decide (its = #[])
  | _ => false
theorem unitB_ok {K : PySem.W.Frag} {U : Addr} (h : unitB K U = true) : ∃ (p : Obj) (m : Nat), K.lookup U = some p ∧ p.cls = .type "tuple" ∧ p.data = .seq #[] m := by
  unfold unitB at h
  cases e : K.lookup U with
  | none => rw [e] at h; cases h
  | some p =>
    rw [e] at h
    obtain ⟨oc, od, dt, osl⟩ := p
    cases oc with
    | type c =>
      cases dt with
      | seq its m =>
        obtain ⟨h1, h2⟩ := He.ba (show (decide (c = "tuple") && decide (its = #[])) = true from h)
        exact ⟨_, m, rfl, congrArg Value.type (of_decide_eq_true h1), by rw [of_decide_eq_true h2]⟩
      | _ => cases h
    | _ => cases h
def eqOB (o : Option Bool) (b : Bool) : Bool := match o with
  | some c => c == b
  | none => false
theorem ex_get {ex : List (PySem.W.Frag → Bool)} {K : PySem.W.Frag} (h : (ex.all fun e => e K) = true) (i : Nat) {e : PySem.W.Frag → Bool} (he : ex[i]? = some e) : e K = true := List.all_eq_true.mp h e (List.mem_of_getElem? he)
def faL0 : List He.Fa := [.glo "Rota", .cls "Rota", .noat "Rota" "places", .noat "Rota" "rows", .glo "Season", .cls "Season", .noat "Season" "rota", .noat "Season" "days", .noat "Season" "budget", .noat "Season" "looks", .noat "Season" "wheels", .noat "Season" "turnings", .noat "Season" "due", .glo "Course", .cls "Course", .noat "Course" "stretch_of", .noat "Course" "stretches", .noat "Course" "ways", .noat "Course" "sums", .noat "Course" "left", .glo "_law_deal", .glo "is_integer", .glo "is_whole", .glo "is_sequence", .glo "is_below", .glo "are_spots", .glo "is_row", .glo "are_rows", .mkr "Rota", .glo "_law_draw"]
def faL1 : List He.Fa := [.glo "_law_mixed", .glo "_law_cases", .glo "is_look", .glo "are_looks", .glo "round_spots", .meth "Rota" "__len__", .glo "dues_ahead", .mkr "Season", .glo "days_between", .glo "parts", .glo "odd_stretches", .glo "least", .glo "possible", .glo "check_possible", .glo "surely_missed", .glo "slack", .glo "check_wheel", .meth "Season" "seen", .glo "possible_sides", .glo "side", .glo "is_turning", .glo "check_turning", .glo "if_missed", .glo "if_made", .glo "turning", .glo "_law_case_right", .glo "least_need", .meth "Course" "within", .meth "Course" "many", .mkr "Course"]
def faL2 : List He.Fa := [.glo "product_of", .glo "first_sums", .glo "own_ways", .glo "many_ways", .glo "start", .glo "count", .glo "law", .free "abs", .free "all", .free "any", .free "bool", .free "enumerate", .free "int", .free "isinstance", .free "len", .free "list", .free "max", .free "min", .free "range", .free "set", .free "sorted", .free "sum", .free "tuple"]
def faL : List He.Fa := faL0 ++ faL1 ++ faL2
def fnL0 : List He.DefD := [⟨("_law_deal", none), "_law_deal", "_law_deal", defArgs s_law_deal, defBody s_law_deal, defScope s_law_deal, [], []⟩, ⟨("is_integer", none), "is_integer", "is_integer", defArgs s_is_integer, defBody s_is_integer, defScope s_is_integer, [], []⟩, ⟨("is_whole", none), "is_whole", "is_whole", defArgs s_is_whole, defBody s_is_whole, defScope s_is_whole, [], []⟩, ⟨("is_sequence", none), "is_sequence", "is_sequence", defArgs s_is_sequence, defBody s_is_sequence, defScope s_is_sequence, [], []⟩, ⟨("is_below", none), "is_below", "is_below", defArgs s_is_below, defBody s_is_below, defScope s_is_below, [], []⟩, ⟨("are_spots", none), "are_spots", "are_spots", defArgs s_are_spots, defBody s_are_spots, defScope s_are_spots, [], []⟩, ⟨("is_row", none), "is_row", "is_row", defArgs s_is_row, defBody s_is_row, defScope s_is_row, [], []⟩, ⟨("are_rows", none), "are_rows", "are_rows", defArgs s_are_rows, defBody s_are_rows, defScope s_are_rows, [], []⟩, ⟨("Rota", some "__init__"), "__init__", "Rota.__init__", defArgs s_Rota_init, defBody s_Rota_init, defScope s_Rota_init, [], []⟩, ⟨("_law_draw", none), "_law_draw", "_law_draw", defArgs s_law_draw, defBody s_law_draw, defScope s_law_draw, [], []⟩, ⟨("_law_mixed", none), "_law_mixed", "_law_mixed", defArgs s_law_mixed, defBody s_law_mixed, defScope s_law_mixed, [], []⟩, ⟨("_law_cases", none), "_law_cases", "_law_cases", defArgs s_law_cases, defBody s_law_cases, defScope s_law_cases, [], []⟩, ⟨("is_look", none), "is_look", "is_look", defArgs s_is_look, defBody s_is_look, defScope s_is_look, [], []⟩, ⟨("are_looks", none), "are_looks", "are_looks", defArgs s_are_looks, defBody s_are_looks, defScope s_are_looks, [], []⟩, ⟨("round_spots", none), "round_spots", "round_spots", defArgs s_round_spots, defBody s_round_spots, defScope s_round_spots, [], []⟩, ⟨("Rota", some "__len__"), "__len__", "Rota.__len__", defArgs s_Rota_len, defBody s_Rota_len, defScope s_Rota_len, [], []⟩, ⟨("dues_ahead", none), "dues_ahead", "dues_ahead", defArgs s_dues_ahead, defBody s_dues_ahead, defScope s_dues_ahead, [], []⟩, ⟨("Season", some "__init__"), "__init__", "Season.__init__", defArgs s_Season_init, defBody s_Season_init, defScope s_Season_init, [.adr (He.dflAt ("Season", some "__init__") 0)], []⟩, ⟨("days_between", none), "days_between", "days_between", defArgs s_days_between, defBody s_days_between, defScope s_days_between, [], []⟩, ⟨("parts", none), "parts", "parts", defArgs s_parts, defBody s_parts, defScope s_parts, [], []⟩, ⟨("odd_stretches", none), "odd_stretches", "odd_stretches", defArgs s_odd_stretches, defBody s_odd_stretches, defScope s_odd_stretches, [], []⟩, ⟨("least", none), "least", "least", defArgs s_least, defBody s_least, defScope s_least, [], []⟩, ⟨("possible", none), "possible", "possible", defArgs s_possible, defBody s_possible, defScope s_possible, [], []⟩, ⟨("check_possible", none), "check_possible", "check_possible", defArgs s_check_possible, defBody s_check_possible, defScope s_check_possible, [], []⟩, ⟨("surely_missed", none), "surely_missed", "surely_missed", defArgs s_surely_missed, defBody s_surely_missed, defScope s_surely_missed, [], []⟩, ⟨("slack", none), "slack", "slack", defArgs s_slack, defBody s_slack, defScope s_slack, [], []⟩, ⟨("check_wheel", none), "check_wheel", "check_wheel", defArgs s_check_wheel, defBody s_check_wheel, defScope s_check_wheel, [], []⟩, ⟨("Season", some "seen"), "seen", "Season.seen", defArgs s_Season_seen, defBody s_Season_seen, defScope s_Season_seen, [], []⟩, ⟨("possible_sides", none), "possible_sides", "possible_sides", defArgs s_possible_sides, defBody s_possible_sides, defScope s_possible_sides, [], []⟩, ⟨("side", none), "side", "side", defArgs s_side, defBody s_side, defScope s_side, [], []⟩]
def fnL1 : List He.DefD := [⟨("is_turning", none), "is_turning", "is_turning", defArgs s_is_turning, defBody s_is_turning, defScope s_is_turning, [], []⟩, ⟨("check_turning", none), "check_turning", "check_turning", defArgs s_check_turning, defBody s_check_turning, defScope s_check_turning, [], []⟩, ⟨("if_missed", none), "if_missed", "if_missed", defArgs s_if_missed, defBody s_if_missed, defScope s_if_missed, [], []⟩, ⟨("if_made", none), "if_made", "if_made", defArgs s_if_made, defBody s_if_made, defScope s_if_made, [], []⟩, ⟨("turning", none), "turning", "turning", defArgs s_turning, defBody s_turning, defScope s_turning, [], []⟩, ⟨("_law_case_right", none), "_law_case_right", "_law_case_right", defArgs s_law_case_right, defBody s_law_case_right, defScope s_law_case_right, [], []⟩, ⟨("least_need", none), "least_need", "least_need", defArgs s_least_need, defBody s_least_need, defScope s_least_need, [], []⟩, ⟨("Course", some "within"), "within", "Course.within", defArgs s_Course_within, defBody s_Course_within, defScope s_Course_within, [], []⟩, ⟨("Course", some "many"), "many", "Course.many", defArgs s_Course_many, defBody s_Course_many, defScope s_Course_many, [], []⟩, ⟨("Course", some "__init__"), "__init__", "Course.__init__", defArgs s_Course_init, defBody s_Course_init, defScope s_Course_init, [], []⟩, ⟨("product_of", none), "product_of", "product_of", defArgs s_product_of, defBody s_product_of, defScope s_product_of, [], []⟩, ⟨("first_sums", none), "first_sums", "first_sums", defArgs s_first_sums, defBody s_first_sums, defScope s_first_sums, [], []⟩, ⟨("own_ways", none), "own_ways", "own_ways", defArgs s_own_ways, defBody s_own_ways, defScope s_own_ways, [], []⟩, ⟨("many_ways", none), "many_ways", "many_ways", defArgs s_many_ways, defBody s_many_ways, defScope s_many_ways, [], []⟩, ⟨("start", none), "start", "start", defArgs s_start, defBody s_start, defScope s_start, [], []⟩, ⟨("count", none), "count", "count", defArgs s_count, defBody s_count, defScope s_count, [], []⟩, ⟨("law", none), "law", "law", defArgs s_law, defBody s_law, defScope s_law, [], []⟩]
def fnL : List He.DefD := fnL0 ++ fnL1
def exF0 : PySem.W.Frag → Bool := fun K => unitB K (He.dflAt ("Season", some "__init__") 0 K)
def exF1 : PySem.W.Frag → Bool := fun K => He.eqO (PySem.W.nsIn K mainGlobals "comb") (some (some (.builtin "math.comb")))
def exL : List (PySem.W.Frag → Bool) := [exF0, exF1]
def exA : PySem.W.Frag → Bool := fun K => exL.all fun e => e K
def tfL : List He.Defn := []
def refsM (o : Obj) : List Addr := (match o.dict with
  | some d => [d]
  | none => []) ++ match o.data with
  | .seq its _ => its.toList.flatMap He.refV
  | .dict es _ => es.toList.flatMap fun e => He.refV e.val
  | .func fd => He.refV fd.code ++ He.refV fd.defaults
  | .cls cd => cd.ns :: cd.mro.flatMap He.refV
  | _ => []
def lvM (g : Addr → Option Obj) : Nat → List Addr → List Addr
  | 0, as => as
  | n + 1, as => as ++ lvM g n (as.flatMap fun a => match g a with
    | some o => refsM o
    | none => [])
def KM (g : Addr → Option Obj) : PySem.W.Frag := He.frT g (lvM g 5 [mainGlobals])
def obM (g : Addr → Option Obj) : He.AlX := (He.obsT faL fnL [] (KM g), exA (KM g) && He.tabsB g tfL (KM g))
theorem saysM {w : World} {h : Heap} (e : obM h.get? = He.valX fnL [] w) : He.SaysX faL fnL [] tfL exA w h (KM h.get?) := by
  have e1 : He.obsT faL fnL [] (KM h.get?) = He.valT fnL [] w := congrArg Prod.fst e
  have e2 : (exA (KM h.get?) && He.tabsB h.get? tfL (KM h.get?)) = true := congrArg Prod.snd e
  obtain ⟨h1, h2⟩ := He.ba e2
  have one : ∀ p ∈ tfL, PySem.W.codeHdIn (KM h.get?) (He.cT (KM h.get?) p).1 (He.cT (KM h.get?) p).2 = true ∧ ∃ o, h.get? (He.cT (KM h.get?) p).2 = some o ∧ He.emptyTab o = true := fun p hp => by
    obtain ⟨a, b⟩ := He.ba (List.all_eq_true.mp h2 p hp)
    refine ⟨a, ?_⟩
    cases q : h.get? (He.cT (KM h.get?) p).2 with
    | none => rw [q] at b; cases b
    | some o => rw [q] at b; exact ⟨o, rfl, b⟩
  refine ⟨e1, h1, fun p hp => (one p hp).1, fun p hp => ?_, fun p hp => ?_⟩
  · obtain ⟨_, o, q, z⟩ := one p hp
    exact He.frT_none q z
  · obtain ⟨_, o, q, z⟩ := one p hp
    rw [q, He.emptyTab_eq z]
def hk : PySem.W.Hook where
  α := He.AlX
  obs := fun s => obM s.heap.get?
  val := fun w => He.valX fnL [] w
  says := fun w h => ∃ K : PySem.W.Frag, K.In h ∧ He.SaysX faL fnL [] tfL exA w h K
  of := fun _ _ e => ⟨_, He.frT_in, saysM e⟩
  keeps := fun _ _ _ ⟨K, hK, c⟩ k => ⟨K, PySem.W.Frag.In.keeps hK k, ⟨c.t, c.more, c.hd, c.out, fun p hp => k _ _ (c.empty p hp)⟩⟩
def obT (s : PySem.W.SharedT) : He.AlX := obM (HandSHeadRun.getT s)
theorem obT_eq (s : PySem.W.SharedT) : obT s = hk.obs s.abs := by
  have e : HandSHeadRun.getT s = s.abs.heap.get? := funext (HandSHeadRun.getT_eq s)
  show obM _ = obM _
  rw [e]
def nmL0 : List PySem.Str := ["_wall", "TurnError", "InvalidRota", "InvalidText", "InvalidSeason", "NoWheel", "NoTurning", "NoFit", "is_integer", "is_whole", "is_below", "is_sequence", "is_numeral", "check_wheel", "round_spots", "dues_ahead", "Season", "are_looks", "is_look", "is_turning", "possible", "least", "side", "turning", "surely_missed", "slack", "possible_sides", "odd_stretches", "parts", "days_between"]
def nmL1 : List PySem.Str := ["if_missed", "if_made", "check_possible", "check_turning", "count", "Course", "start", "least_need", "many_ways", "own_ways", "first_sums", "product_of", "Rota", "are_rows", "is_row", "are_spots", "row_line", "spaced", "places_told", "row_told", "are_numerals", "numbers_told", "_law_cases", "_law_case_right", "_law_deal", "_law_draw", "_law_mixed"]
def nmL : List PySem.Str := nmL0 ++ nmL1
theorem top_run (w : World) : HandSHeadRun.RunEqI (PySem.W.OpenLaw.row PySem.Challenge.rw_turnrota_k30_seasons_decided_by_hand) (PySem.W.view (PySem.W.OpenLaw.row PySem.Challenge.rw_turnrota_k30_seasons_decided_by_hand).prog [0, 66]) hk obT 8000 nmL w := by
  unfold HandSHeadRun.RunEqI
  kernel_rfl
end K30
set_option Elab.async false
set_option linter.all false
set_option maxRecDepth 100000
namespace Dn
open PySem PySem.Spec PyProof.Rows L2
inductive AV where
  | non | bl (b : Bool) | int (i : Int) | str (s : Str) | tup (xs : List AV) | lst (xs : List AV) | ins (c : Nat) (xs : List AV) | dic (ks : List Str) (xs : List AV) | dct (ks : List (List Key)) (xs : List AV) | box | scr (ns : List Int) | any
inductive T (α : Type) where
  | ret (a : α) | bad | exc (c : Nat) (xs : List AV) | draw (n : Nat) (k : Nat → T α)
def T.bind {α β : Type} : T α → (α → T β) → T β
  | .ret a, f => f a
  | .bad, _ => .bad
  | .exc c xs, _ => .exc c xs
  | .draw n k, f => .draw n fun r => (k r).bind f
instance : Monad T where
  pure := T.ret
  bind := T.bind
theorem T.bind_assoc {α β γ : Type} (m : T α) (f : α → T β) (g : β → T γ) : (m.bind f).bind g = m.bind fun a => (f a).bind g := by
  induction m with
  | ret a => rfl
  | bad => rfl
  | exc c xs => rfl
  | draw n k ih => exact congrArg (T.draw n) (funext fun r => ih r)
theorem T.bind_ret {α : Type} (m : T α) : m.bind .ret = m := by
  induction m with
  | ret a => rfl
  | bad => rfl
  | exc c xs => rfl
  | draw n k ih => exact congrArg (T.draw n) (funext fun r => ih r)
def T.all {α : Type} (Q : α → Prop) (E : Nat → List AV → Prop) : T α → Prop
  | .ret a => Q a
  | .bad => False
  | .exc c xs => E c xs
  | .draw n k => ∀ r, r < n → (k r).all Q E
theorem T.all_bind {α β : Type} {Q : β → Prop} {E : Nat → List AV → Prop} {f : α → T β} {m : T α} : (m.bind f).all Q E ↔ m.all (fun a => (f a).all Q E) E := by
  induction m with
  | ret a => exact Iff.rfl
  | bad => exact Iff.rfl
  | exc c xs => exact Iff.rfl
  | draw n k ih => exact ⟨fun h r hr => (ih r).mp (h r hr), fun h r hr => (ih r).mpr (h r hr)⟩
theorem T.all_mono {α : Type} {Q Q' : α → Prop} {E E' : Nat → List AV → Prop} {m : T α} (h : m.all Q E) (hQ : ∀ a, Q a → Q' a) (hE : ∀ c xs, E c xs → E' c xs) : m.all Q' E' := by
  induction m with
  | ret a => exact hQ a h
  | bad => exact h
  | exc c xs => exact hE c xs h
  | draw n k ih => exact fun r hr => ih r (h r hr)
abbrev CT := Nat → Str × List Str
structure BInv where
  I : (Addr → Prop) → (Addr → Prop) → Hp → Prop
  live : ∀ {B D H a}, I B D H → B a → H a ≠ none
  nt : ∀ {B D H a}, I B D H → B a → ∀ vs, H a ≠ some (.tup vs)
  top : ∀ {B D H a}, I B D H → D a → B a
  frame : ∀ {B D H H'}, I B D H → (∀ a, B a → H' a = H a) → I B D H'
structure G where
  M : Addr → Prop
  own : Nat → Option Addr
  B : Addr → Prop
  D : Addr → Prop
  S : Option Addr
def G.Av (g : G) (a : Addr) : Prop := g.M a ∨ (∃ i, g.own i = some a) ∨ g.B a
structure Gc where
  K : PySem.W.Frag
  mg : Str → Option Value
  ct : CT
def TupAt (K : PySem.W.Frag) (A : Addr → Prop) (H : Hp) (a : Addr) (vs : List V) : Prop :=
  (¬ A a ∧ H a = some (.tup vs)) ∨ ∃ (o : Obj) (its : Array Value) (n : Nat), K.lookup a = some o ∧ o.cls = .type "tuple" ∧ o.data = .seq its n ∧ its.size ≤ sizeLine ∧ Vals vs its.toList ∧ vs = []
def LstAt (A : Addr → Prop) (H : Hp) (a : Addr) (vs : List V) : Prop := ¬ A a ∧ H a = some (.lst vs)
def ScrAt (K : PySem.W.Frag) (A : Addr → Prop) (H : Hp) (a : Addr) (ns : List Int) : Prop := (¬ A a ∧ Rd H a (.lst (ns.map V.int))) ∨ ((∀ H', SqL K H' a (ns.map V.int)))
theorem ScrAt.sq {K : PySem.W.Frag} {A : Addr → Prop} {H : Hp} {a : Addr} {ns : List Int} (h : ScrAt K A H a ns) : SqL K H a (ns.map V.int) := h.elim (fun z => .inl z.2) fun z => z H
theorem TupAt.sq {K : PySem.W.Frag} {A : Addr → Prop} {H : Hp} {a : Addr} {vs : List V} (h : TupAt K A H a vs) : SqT K H a vs := h.elim (fun z => .of z.2) fun ⟨o, its, n, a, b, c, d, e, _⟩ => .inr ⟨o, its, n, a, b, c, d, e⟩
theorem LstAt.sq {K : PySem.W.Frag} {A : Addr → Prop} {H : Hp} {a : Addr} {vs : List V} (h : LstAt A H a vs) : SqL K H a vs := .of h.2
mutual
def Rep (c0 : Gc) (A D : Addr → Prop) (H : Hp) : AV → V → Prop
  | .non, v => v = .non
  | .bl b, v => v = .bl b
  | .int i, v => v = .int i
  | .str s, v => v = .str s
  | .tup xs, v => ∃ a vs, v = .ref a ∧ TupAt c0.K A H a vs ∧ RepL c0 A D H xs vs
  | .lst xs, v => ∃ a vs, v = .ref a ∧ LstAt A H a vs ∧ RepL c0 A D H xs vs
  | .ins c xs, v => ∃ a C dx vs, v = .ref a ∧ ¬ A a ∧ c0.mg (c0.ct c).1 = some (.ref C) ∧ H a = some (.ins C dx ((c0.ct c).2.zip vs)) ∧ vs.length = (c0.ct c).2.length ∧ RepL c0 A D H xs vs
  | .dic ks xs, v => ∃ a vs, v = .ref a ∧ ¬ A a ∧ H a = some (.dK ((ks.map Sum.inr).zip vs)) ∧ vs.length = ks.length ∧ RepL c0 A D H xs vs
  | .dct ks xs, v => ∃ a vs, v = .ref a ∧ ¬ A a ∧ H a = some (.dT (ks.zip vs)) ∧ vs.length = ks.length ∧ RepL c0 A D H xs vs
  | .box, v => ∃ a, v = .ref a ∧ D a
  | .scr ns, v => ∃ a, v = .ref a ∧ ScrAt c0.K A H a ns
  | .any, _ => True
def RepL (c0 : Gc) (A D : Addr → Prop) (H : Hp) : List AV → List V → Prop
  | [], vs => vs = []
  | x :: xs, vs => ∃ v r, vs = v :: r ∧ Rep c0 A D H x v ∧ RepL c0 A D H xs r
end
section
variable {c0 : Gc} {A A' D D' : Addr → Prop} {H H' : Hp}
mutual
theorem Rep.imp (hk : ∀ a o, H a = some o → ¬ A a → H' a = some o ∧ ¬ A' a) (hd : ∀ a, D a → D' a) : ∀ {t : AV} {v : V}, Rep c0 A D H t v → Rep c0 A' D' H' t v
  | .non, _, h => by rw [Rep] at h ⊢; exact h
  | .bl _, _, h => by rw [Rep] at h ⊢; exact h
  | .int _, _, h => by rw [Rep] at h ⊢; exact h
  | .str _, _, h => by rw [Rep] at h ⊢; exact h
  | .tup xs, v, h => by
    rw [Rep] at h ⊢
    obtain ⟨a, vs, e, q, r⟩ := h
    refine ⟨a, vs, e, ?_, RepL.imp hk hd r⟩
    rcases q with ⟨na, q⟩ | q
    · exact .inl ⟨(hk a _ q na).2, (hk a _ q na).1⟩
    · exact .inr q
  | .lst xs, v, h => by
    rw [Rep] at h ⊢
    obtain ⟨a, vs, e, ⟨na, q⟩, r⟩ := h
    exact ⟨a, vs, e, ⟨(hk a _ q na).2, (hk a _ q na).1⟩, RepL.imp hk hd r⟩
  | .ins c xs, v, h => by
    rw [Rep] at h ⊢
    obtain ⟨a, C, dx, vs, e, na, m, q, l, r⟩ := h
    exact ⟨a, C, dx, vs, e, (hk a _ q na).2, m, (hk a _ q na).1, l, RepL.imp hk hd r⟩
  | .dic ks xs, v, h => by
    rw [Rep] at h ⊢
    obtain ⟨a, vs, e, na, q, l, r⟩ := h
    exact ⟨a, vs, e, (hk a _ q na).2, (hk a _ q na).1, l, RepL.imp hk hd r⟩
  | .dct ks xs, v, h => by
    rw [Rep] at h ⊢
    obtain ⟨a, vs, e, na, q, l, r⟩ := h
    exact ⟨a, vs, e, (hk a _ q na).2, (hk a _ q na).1, l, RepL.imp hk hd r⟩
  | .box, v, h => by
    rw [Rep] at h ⊢
    obtain ⟨a, e, q⟩ := h
    exact ⟨a, e, hd a q⟩
  | .scr ns, v, h => by
    rw [Rep] at h ⊢
    obtain ⟨a, e, q⟩ := h
    refine ⟨a, e, ?_⟩
    rcases q with ⟨na, q | ⟨o, q⟩⟩ | q
    · exact .inl ⟨(hk a _ q na).2, .inl (hk a _ q na).1⟩
    · exact .inl ⟨(hk a _ q na).2, .inr ⟨o, (hk a _ q na).1⟩⟩
    · exact .inr q
  | .any, _, _ => by rw [Rep]; exact True.intro
theorem RepL.imp (hk : ∀ a o, H a = some o → ¬ A a → H' a = some o ∧ ¬ A' a) (hd : ∀ a, D a → D' a) : ∀ {xs : List AV} {vs : List V}, RepL c0 A D H xs vs → RepL c0 A' D' H' xs vs
  | [], _, h => by rw [RepL] at h ⊢; exact h
  | x :: xs, vs, h => by
    rw [RepL] at h ⊢
    obtain ⟨v, r, e, h1, h2⟩ := h
    exact ⟨v, r, e, Rep.imp hk hd h1, RepL.imp hk hd h2⟩
end
theorem RepL.length : ∀ {xs : List AV} {vs : List V}, RepL c0 A D H xs vs → vs.length = xs.length
  | [], _, h => by rw [RepL] at h; rw [h]; rfl
  | x :: xs, vs, h => by
    rw [RepL] at h
    obtain ⟨v, r, e, _, h2⟩ := h
    rw [e, List.length_cons, List.length_cons, RepL.length h2]
theorem RepL.get : ∀ {xs : List AV} {vs : List V} {i : Nat} {v : V}, RepL c0 A D H xs vs → vs[i]? = some v → ∃ x, xs[i]? = some x ∧ Rep c0 A D H x v
  | [], _, i, v, h, e => by rw [RepL] at h; rw [h] at e; simp at e
  | x :: xs, vs, i, v, h, e => by
    rw [RepL] at h
    obtain ⟨w, r, e1, h1, h2⟩ := h
    subst e1
    cases i with
    | zero => simp at e; subst e; exact ⟨x, rfl, h1⟩
    | succ i =>
      obtain ⟨y, e2, h3⟩ := RepL.get h2 (show r[i]? = some v by simpa using e)
      exact ⟨y, by simpa using e2, h3⟩
theorem RepL.get' {xs : List AV} {vs : List V} {i : Nat} {x : AV} (h : RepL c0 A D H xs vs) (e : xs[i]? = some x) : ∃ v, vs[i]? = some v ∧ Rep c0 A D H x v := by
  have hi : i < vs.length := by
    rw [h.length]
    exact (List.getElem?_eq_some_iff.mp e).1
  obtain ⟨y, e1, r⟩ := h.get (v := vs[i]) (List.getElem?_eq_getElem hi)
  rw [e] at e1
  cases e1
  exact ⟨_, List.getElem?_eq_getElem hi, r⟩
theorem RepL.append : ∀ {xs ys : List AV} {vs ws : List V}, RepL c0 A D H xs vs → RepL c0 A D H ys ws → RepL c0 A D H (xs ++ ys) (vs ++ ws)
  | [], _, _, _, h, h' => by rw [RepL] at h; rw [h]; exact h'
  | x :: xs, ys, vs, ws, h, h' => by
    rw [RepL] at h
    obtain ⟨v, r, e, h1, h2⟩ := h
    subst e
    show RepL c0 A D H (x :: (xs ++ ys)) (v :: (r ++ ws))
    rw [RepL]
    exact ⟨v, r ++ ws, rfl, h1, RepL.append h2 h'⟩
theorem RepL.nil : RepL c0 A D H [] [] := by rw [RepL]
theorem RepL.cons {x : AV} {xs : List AV} {v : V} {vs : List V} (h : Rep c0 A D H x v) (h' : RepL c0 A D H xs vs) : RepL c0 A D H (x :: xs) (v :: vs) := by
  rw [RepL]
  exact ⟨v, vs, rfl, h, h'⟩
theorem RepL.one {x : AV} {v : V} (h : Rep c0 A D H x v) : RepL c0 A D H [x] [v] := .cons h .nil
theorem RepL.of : ∀ {xs : List AV} {vs : List V}, vs.length = xs.length → (∀ (i : Nat) (x : AV) (v : V), xs[i]? = some x → vs[i]? = some v → Rep c0 A D H x v) → RepL c0 A D H xs vs
  | [], [], _, _ => .nil
  | [], _ :: _, e, _ => by simp at e
  | _ :: _, [], e, _ => by simp at e
  | x :: xs, v :: vs, e, h => .cons (h 0 x v rfl rfl) (RepL.of (by simpa using e) fun i y w e1 e2 => h (i + 1) y w (by simpa using e1) (by simpa using e2))
theorem RepL.take {xs : List AV} {vs : List V} (n : Nat) (h : RepL c0 A D H xs vs) : RepL c0 A D H (xs.take n) (vs.take n) := by
  refine .of (by rw [List.length_take, List.length_take, h.length]) fun i x v e1 e2 => ?_
  rw [List.getElem?_take] at e1 e2
  split at e1
  · rename_i hi
    rw [if_pos hi] at e2
    obtain ⟨y, e3, r⟩ := h.get e2
    rw [e1] at e3
    cases e3
    exact r
  · cases e1
theorem RepL.drop {xs : List AV} {vs : List V} (n : Nat) (h : RepL c0 A D H xs vs) : RepL c0 A D H (xs.drop n) (vs.drop n) := by
  refine .of (by rw [List.length_drop, List.length_drop, h.length]) fun i x v e1 e2 => ?_
  rw [List.getElem?_drop] at e1 e2
  obtain ⟨y, e3, r⟩ := h.get e2
  rw [e1] at e3
  cases e3
  exact r
theorem RepL.set {xs : List AV} {vs : List V} {x : AV} {v : V} (n : Nat) (h : RepL c0 A D H xs vs) (r : Rep c0 A D H x v) : RepL c0 A D H (xs.set n x) (vs.set n v) := by
  refine .of (by rw [List.length_set, List.length_set, h.length]) fun i y w e1 e2 => ?_
  by_cases hi : n = i
  · subst hi
    have h1 : n < vs.length := by
      have := (List.getElem?_eq_some_iff.mp e2).1
      rwa [List.length_set] at this
    rw [List.getElem?_set_self h1] at e2
    rw [List.getElem?_set_self (by rw [← h.length]; exact h1)] at e1
    cases e1
    cases e2
    exact r
  · rw [List.getElem?_set_ne hi] at e1 e2
    obtain ⟨z, e3, r'⟩ := h.get e2
    rw [e1] at e3
    cases e3
    exact r'
theorem RepL.ints : ∀ {ns : List Int} {vs : List V}, RepL c0 A D H (ns.map AV.int) vs → vs = ns.map V.int
  | [], _, h => by simpa [RepL] using h
  | n :: ns, vs, h => by
    rw [List.map_cons, RepL] at h
    obtain ⟨v, r, e, h1, h2⟩ := h
    rw [Rep] at h1
    rw [e, h1, RepL.ints h2]
    rfl
theorem RepL.ints' : ∀ (ns : List Int), RepL c0 A D H (ns.map AV.int) (ns.map V.int)
  | [] => .nil
  | n :: ns => .cons (by rw [Rep]) (RepL.ints' ns)
end
inductive Slot where
  | un | fro (t : AV) | ml (xs : List AV) | md (kd : Bool) (kvs : List (AV × AV)) | slf (c : Nat) (fs : List AV)
abbrev Env' := List Slot
structure Ext (g g' : G) (H H' : Hp) : Prop where
  keep : ∀ a o, H a = some o → (∀ i, g.own i ≠ some a) → ¬ g.B a → H' a = some o
  live : ∀ a, H a ≠ none → H' a ≠ none
  m : g'.M = g.M
  bsub : ∀ a, g.B a → g'.B a
  bnew : ∀ a, g'.B a → g.B a ∨ H a = none
  dsub : ∀ a, g.D a → g'.D a
  own : ∀ i a, g'.own i = some a → (∃ j, g.own j = some a) ∨ H a = none
  s : g'.S = g.S
theorem Ext.refl (g : G) (H : Hp) : Ext g g H H := ⟨fun _ _ h _ _ => h, fun _ h => h, rfl, fun _ h => h, fun _ h => .inl h, fun _ h => h, fun i _ h => .inl ⟨i, h⟩, rfl⟩
theorem none_back {g g' : G} {H H' : Hp} (e : Ext g g' H H') {a : Addr} (h : H' a = none) : H a = none := by
  cases q : H a with
  | none => rfl
  | some o => exact absurd h (e.live a (by rw [q]; exact fun z => by cases z))
theorem Ext.trans {g g1 g2 : G} {H H1 H2 : Hp} (e : Ext g g1 H H1) (e' : Ext g1 g2 H1 H2) : Ext g g2 H H2 where
  keep := fun a o h hn hb => by
    refine e'.keep a o (e.keep a o h hn hb) (fun i hi => ?_) fun hb' => ?_
    · rcases e.own i a hi with ⟨j, hj⟩ | hj
      · exact hn j hj
      · rw [h] at hj; cases hj
    · rcases e.bnew a hb' with z | z
      · exact hb z
      · rw [h] at z; cases z
  live := fun a h => e'.live a (e.live a h)
  m := e'.m.trans e.m
  bsub := fun a h => e'.bsub a (e.bsub a h)
  bnew := fun a h => (e'.bnew a h).elim (e.bnew a) fun z => .inr (none_back e z)
  dsub := fun a h => e'.dsub a (e.dsub a h)
  own := fun i a h => (e'.own i a h).elim (fun ⟨j, hj⟩ => e.own j a hj) fun z => .inr (none_back e z)
  s := e'.s.trans e.s
theorem Ext.av {g g' : G} {H H' : Hp} (e : Ext g g' H H') {a : Addr} {o : HO} (h : H a = some o) (na : ¬ g.Av a) : H' a = some o ∧ ¬ g'.Av a := by
  refine ⟨e.keep a o h (fun i hi => na (.inr (.inl ⟨i, hi⟩))) fun hb => na (.inr (.inr hb)), ?_⟩
  rintro (z | ⟨i, z⟩ | z)
  · exact na (.inl (by rw [← e.m]; exact z))
  · rcases e.own i a z with ⟨j, hj⟩ | hj
    · exact na (.inr (.inl ⟨j, hj⟩))
    · rw [h] at hj; cases hj
  · rcases e.bnew a z with hb | hb
    · exact na (.inr (.inr hb))
    · rw [h] at hb; cases hb
abbrev RepG (c0 : Gc) (g : G) (H : Hp) (t : AV) (v : V) : Prop := Rep c0 g.Av g.D H t v
abbrev RepsG (c0 : Gc) (g : G) (H : Hp) (t : List AV) (v : List V) : Prop := RepL c0 g.Av g.D H t v
theorem Ext.rep {c0 : Gc} {g g' : G} {H H' : Hp} (e : Ext g g' H H') {t : AV} {v : V} (h : RepG c0 g H t v) : RepG c0 g' H' t v := h.imp (fun _ _ q n => e.av q n) e.dsub
theorem Ext.reps {c0 : Gc} {g g' : G} {H H' : Hp} (e : Ext g g' H H') {t : List AV} {v : List V} (h : RepsG c0 g H t v) : RepsG c0 g' H' t v := h.imp (fun _ _ q n => e.av q n) e.dsub
theorem Ext.same {g : G} {H H' : Hp} (s : Same H H') : Ext g g H H' :=
  ⟨fun a o h _ _ => s a o h, fun a h => (by
    cases q : H a with
    | none => exact absurd q h
    | some o => rw [s a o q]; exact fun z => by cases z), rfl, fun _ h => h, fun _ h => .inl h, fun _ h => h, fun i _ h => .inl ⟨i, h⟩, rfl⟩
def KVs (c0 : Gc) (A D : Addr → Prop) (H : Hp) : List (AV × AV) → List (AV × V) → Prop
  | [], ws => ws = []
  | (k, x) :: r, ws => ∃ v ws', ws = (k, v) :: ws' ∧ Rep c0 A D H x v ∧ KVs c0 A D H r ws'
def keyOf1 : AV → Option Key
  | .int i => some (.inl i)
  | .str s => some (.inr s)
  | _ => none
def keysOf : List AV → Option (List Key)
  | [] => some []
  | x :: xs => match keyOf1 x, keysOf xs with
    | some k, some ks => some (k :: ks)
    | _, _ => none
def keyOfT : AV → Option (List Key)
  | .tup xs => keysOf xs
  | _ => none
def DicK : List (AV × V) → List (Key × V) → Prop := Paired fun p q => keyOf1 p.1 = some q.1 ∧ p.2 = q.2
def DicT : List (AV × V) → List (List Key × V) → Prop := Paired fun p q => keyOfT p.1 = some q.1 ∧ p.2 = q.2
def slotOk (c0 : Gc) (g : G) (H : Hp) (o : Option Addr) (sv : Option (Option V)) : Slot → Prop
  | .un => o = none
  | .fro t => o = none ∧ ∃ v, sv = some (some v) ∧ RepG c0 g H t v
  | .ml xs => ∃ p vs, o = some p ∧ sv = some (some (.ref p)) ∧ H p = some (.lst vs) ∧ RepsG c0 g H xs vs
  | .md kd kvs => ∃ p ws, o = some p ∧ sv = some (some (.ref p)) ∧ KVs c0 g.Av g.D H kvs ws ∧ ((∃ us, H p = some (.dK us) ∧ DicK ws us ∧ kd = true) ∨ ∃ us, H p = some (.dT us) ∧ DicT ws us ∧ kd = false)
  | .slf c fs => ∃ p C dx vs, o = some p ∧ sv = some (some (.ref p)) ∧ c0.mg (c0.ct c).1 = some (.ref C) ∧ H p = some (.ins C dx ((c0.ct c).2.zip vs)) ∧ vs.length ≤ (c0.ct c).2.length ∧ RepsG c0 g H fs vs ∧ g.S = some p
structure Rel (c0 : Gc) (β : BInv) (g : G) (ρ : Env') (σ : L2.St) (H : Hp) : Prop where
  len : σ.length = ρ.length
  sl : ∀ (i : Nat) (s : Slot), ρ[i]? = some s → slotOk c0 g H (g.own i) σ[i]? s
  out : ∀ i, ρ.length ≤ i → g.own i = none
  inj : ∀ i j a, g.own i = some a → g.own j = some a → i = j
  alive : ∀ a, g.M a → H a ≠ none
  nt : ∀ a, g.M a → ∀ vs, H a ≠ some (.tup vs)
  sep : ∀ i a, g.own i = some a → ¬ g.M a ∧ ¬ g.B a
  mb : ∀ a, g.M a → ¬ g.B a
  box : β.I g.B g.D H
theorem KVs.imp {c0 : Gc} {A A' D D' : Addr → Prop} {H H' : Hp} (hk : ∀ a o, H a = some o → ¬ A a → H' a = some o ∧ ¬ A' a) (hd : ∀ a, D a → D' a) : ∀ {kvs : List (AV × AV)} {ws : List (AV × V)}, KVs c0 A D H kvs ws → KVs c0 A' D' H' kvs ws
  | [], _, h => h
  | (_, _) :: r, _, ⟨v, ws', e, h1, h2⟩ => ⟨v, ws', e, h1.imp hk hd, KVs.imp hk hd h2⟩
theorem Rel.ownLive {c0 : Gc} {β : BInv} {g : G} {ρ : Env'} {σ : L2.St} {H : Hp} (r : Rel c0 β g ρ σ H) {i : Nat} {a : Addr} (h : g.own i = some a) : H a ≠ none := by
  by_cases hi : i < ρ.length
  · have q := r.sl i ρ[i] (List.getElem?_eq_getElem hi)
    cases e : ρ[i] with
    | un => rw [e, h] at q; cases (show some a = none from q)
    | fro t => rw [e, h] at q; cases (show some a = none ∧ _ from q).1
    | ml xs =>
      rw [e, h] at q
      obtain ⟨p, vs, e1, _, e2, _⟩ := q
      cases e1
      rw [e2]; exact fun z => by cases z
    | md kd kvs =>
      rw [e, h] at q
      obtain ⟨p, vs, e1, _, _, ⟨us, e2, _⟩ | ⟨us, e2, _⟩⟩ := q <;> (cases e1; rw [e2]; exact fun z => by cases z)
    | slf c fs =>
      rw [e, h] at q
      obtain ⟨p, C, dx, vs, e1, _, _, e2, _⟩ := q
      cases e1
      rw [e2]; exact fun z => by cases z
  · rw [r.out i (by omega)] at h; cases h
theorem Rel.avLive {c0 : Gc} {β : BInv} {g : G} {ρ : Env'} {σ : L2.St} {H : Hp} (r : Rel c0 β g ρ σ H) {a : Addr} (h : g.Av a) : H a ≠ none := by
  rcases h with h | ⟨i, h⟩ | h
  · exact r.alive a h
  · exact r.ownLive h
  · exact β.live r.box h
theorem Rel.avNt {c0 : Gc} {β : BInv} {g : G} {ρ : Env'} {σ : L2.St} {H : Hp} (r : Rel c0 β g ρ σ H) {a : Addr} (h : g.Av a) (ws : List V) : H a ≠ some (.tup ws) := by
  rcases h with h | ⟨i, h⟩ | h
  · exact r.nt a h ws
  · by_cases hi : i < ρ.length
    · have q := r.sl i ρ[i] (List.getElem?_eq_getElem hi)
      cases e : ρ[i] with
      | un => rw [e, h] at q; cases (show some a = none from q)
      | fro t => rw [e, h] at q; cases (show some a = none ∧ _ from q).1
      | ml xs =>
        rw [e, h] at q
        obtain ⟨p, vs, e1, _, e2, _⟩ := q
        cases e1
        rw [e2]; exact fun z => by cases z
      | md kd kvs =>
        rw [e, h] at q
        obtain ⟨p, vs, e1, _, _, ⟨us, e2, _⟩ | ⟨us, e2, _⟩⟩ := q <;> (cases e1; rw [e2]; exact fun z => by cases z)
      | slf c fs =>
        rw [e, h] at q
        obtain ⟨p, C, dx, vs, e1, _, _, e2, _⟩ := q
        cases e1
        rw [e2]; exact fun z => by cases z
    · rw [r.out i (by omega)] at h; cases h
  · exact β.nt r.box h ws
theorem Rel.step {c0 : Gc} {β : BInv} {g g' : G} {ρ : Env'} {σ : L2.St} {H H' : Hp} (r : Rel c0 β g ρ σ H) (e : Ext g g' H H') (ho : g'.own = g.own) (hk : ∀ i a o, g.own i = some a → H a = some o → H' a = some o) (hb : β.I g'.B g'.D H') : Rel c0 β g' ρ σ H' where
  len := r.len
  sl := fun i s hs => by
    have q := r.sl i s hs
    rw [ho]
    have hk' := fun a o (q : H a = some o) n => e.av q n
    cases s with
    | un => exact q
    | fro t => obtain ⟨a, v, b, c⟩ := q; exact ⟨a, v, b, e.rep c⟩
    | ml xs => obtain ⟨p, vs, e1, e2, e3, e4⟩ := q; exact ⟨p, vs, e1, e2, hk i p _ e1 e3, e.reps e4⟩
    | md kd kvs =>
      obtain ⟨p, ws, e1, e2, e3, e4⟩ := q
      refine ⟨p, ws, e1, e2, e3.imp hk' e.dsub, ?_⟩
      rcases e4 with ⟨us, e4, e5⟩ | ⟨us, e4, e5⟩
      · exact .inl ⟨us, hk i p _ e1 e4, e5⟩
      · exact .inr ⟨us, hk i p _ e1 e4, e5⟩
    | slf c fs => obtain ⟨p, C, dx, vs, e1, e2, e3, e4, e5, e6, e7⟩ := q; exact ⟨p, C, dx, vs, e1, e2, e3, hk i p _ e1 e4, e5, e.reps e6, e.s.trans e7⟩
  out := fun i h => by rw [ho]; exact r.out i h
  inj := fun i j a h1 h2 => r.inj i j a (by rw [← ho]; exact h1) (by rw [← ho]; exact h2)
  alive := fun a h => e.live a (r.alive a (by rw [← e.m]; exact h))
  nt := fun a h vs z => by
    rw [e.m] at h
    cases q : H a with
    | none => exact r.alive a h q
    | some o =>
      have k := e.keep a o q (fun i hi => (r.sep i a hi).1 h) (r.mb a h)
      rw [k] at z
      cases z
      exact r.nt a h vs q
  sep := fun i a h => by
    rw [ho] at h
    refine ⟨by rw [e.m]; exact (r.sep i a h).1, fun hb' => ?_⟩
    rcases e.bnew a hb' with z | z
    · exact (r.sep i a h).2 z
    · exact r.ownLive h z
  mb := fun a h hb' => by
    rw [e.m] at h
    rcases e.bnew a hb' with z | z
    · exact r.mb a h z
    · exact r.alive a h z
  box := hb
theorem Rel.same {c0 : Gc} {β : BInv} {g : G} {ρ : Env'} {σ : L2.St} {H H' : Hp} (r : Rel c0 β g ρ σ H) (s : Same H H') : Rel c0 β g ρ σ H' :=
  r.step (Ext.same s) rfl (fun _ _ _ _ h => s _ _ h) (β.frame r.box fun a h => by
    cases q : H a with
    | none => exact absurd q (β.live r.box h)
    | some o => exact s a o q)
end Dn
set_option Elab.async false
set_option linter.all false
set_option maxRecDepth 100000
namespace Dn
open PySem PySem.Spec PyProof.Rows L2
inductive Hd where
  | val (t : AV) | var (j : Nat)
abbrev Sem := Env' → T (Hd × Env')
abbrev SemL := Env' → T (List AV × Env')
abbrev SemB := Env' → T (Bool × Env')
def look (ρ : Env') (j : Nat) : Option AV := match ρ[j]? with
  | some (.fro t) => some t
  | some (.ml xs) => some (.lst xs)
  | _ => none
def rs : Hd → Env' → Option AV
  | .val t, _ => some t
  | .var j, ρ => look ρ j
def frz : Hd × Env' → T (AV × Env')
  | (.val t, ρ) => .ret (t, ρ)
  | (.var j, ρ) => match ρ[j]? with
    | some (.fro t) => .ret (t, ρ)
    | some (.ml xs) => .ret (.lst xs, ρ.set j (.fro (.lst xs)))
    | _ => .bad
def lift {α : Type} : Option α → T α
  | some a => .ret a
  | none => .bad
abbrev gc (X : Cx) (ct : CT) : Gc := ⟨X.K, X.mg, ct⟩
section
variable (c0 : Gc) (β : BInv) (Ex : XK)
def okT {α : Type} (g : G) (H : Hp) (m : T α) (Q : G → Hp → α → Prop) : Prop :=
  m.all (fun a => ∀ g' H', Ext g g' H H' → Q g' H' a) fun c xs => ∀ g' H' C d vs, Ext g g' H H' → β.I g'.B g'.D H' → c0.mg (c0.ct c).1 = some (.ref C) → H' d = some (.xd ((c0.ct c).2.zip vs)) → vs.length = (c0.ct c).2.length → RepsG c0 g' H' xs vs → Ex (.ref C) (some d) H'
def RepH (g : G) (σ : L2.St) (H : Hp) : Hd → V → Prop
  | .val t, v => RepG c0 g H t v
  | .var j, v => σ[j]? = some (some v)
def RepR (g : G) (H : Hp) (t : AV) (v : V) : Prop :=
  RepG c0 g H t v ∨ ∃ xs p vs, t = .lst xs ∧ v = .ref p ∧ (∃ i, g.own i = some p) ∧ H p = some (.lst vs) ∧ RepsG c0 g H xs vs
def rdE (f : Sem) : TE := fun σ H Q => ∃ g ρ, Rel c0 β g ρ σ H ∧ okT c0 β Ex g H (f ρ) fun g' H' p => ∀ v, Rel c0 β g' p.2 σ H' → RepH c0 g' σ H' p.1 v → Q v H'
def rdL (f : SemL) : TA := fun σ H Q => ∃ g ρ, Rel c0 β g ρ σ H ∧ okT c0 β Ex g H (f ρ) fun g' H' p => ∀ vs, Rel c0 β g' p.2 σ H' → RepsG c0 g' H' p.1 vs → Q vs H'
def rdB (f : SemB) : TT := fun σ H Q => ∃ g ρ, Rel c0 β g ρ σ H ∧ okT c0 β Ex g H (f ρ) fun g' H' p => Rel c0 β g' p.2 σ H' → Q p.1 H'
end
section
variable {c0 : Gc} {β : BInv} {Ex : XK} {α γ : Type} {g : G} {H : Hp} {σ : L2.St} {ρ : Env'}
theorem okT_bind {m : T α} {k : α → T γ} {Q : G → Hp → γ → Prop} (h : okT c0 β Ex g H (m.bind k) Q) : okT c0 β Ex g H m fun g1 H1 a => okT c0 β Ex g1 H1 (k a) Q :=
  T.all_mono (T.all_bind.mp h) (fun a q g1 H1 e => T.all_mono q (fun b q g2 H2 e2 => q g2 H2 (e.trans e2)) fun c xs q g' H' C d vs e2 => q g' H' C d vs (e.trans e2)) fun _ _ q => q
theorem okT_mono {m : T α} {Q Q' : G → Hp → α → Prop} (h : okT c0 β Ex g H m Q) (hQ : ∀ g' H' a, Ext g g' H H' → Q g' H' a → Q' g' H' a) : okT c0 β Ex g H m Q' :=
  T.all_mono h (fun a q g' H' e => hQ g' H' a e (q g' H' e)) fun _ _ q => q
theorem okT_ret {a : α} {Q : G → Hp → α → Prop} (h : okT c0 β Ex g H (.ret a) Q) : Q g H a := h g H (Ext.refl g H)
theorem okT_ret' {a : α} {Q : G → Hp → α → Prop} (h : okT c0 β Ex g H (.ret a) Q) {g' : G} {H' : Hp} (e : Ext g g' H H') : Q g' H' a := h g' H' e
theorem okT_lift {o : Option α} {k : α → T γ} {Q : G → Hp → γ → Prop} (h : okT c0 β Ex g H ((lift o).bind k) Q) : ∃ a, o = some a ∧ okT c0 β Ex g H (k a) Q := by
  cases o with
  | none => exact (show False from h).elim
  | some a => exact ⟨a, rfl, h⟩
theorem RepH.ext {g' : G} {H' : Hp} {h : Hd} {v : V} (e : Ext g g' H H') (r : RepH c0 g σ H h v) : RepH c0 g' σ H' h v := by
  cases h with
  | val t => exact e.rep r
  | var j => exact r
theorem Rel.look {j : Nat} {t : AV} {v : V} (r : Rel c0 β g ρ σ H) (hl : look ρ j = some t) (hv : σ[j]? = some (some v)) : RepR c0 g H t v := by
  unfold Dn.look at hl
  cases hs : ρ[j]? with
  | none => rw [hs] at hl; cases hl
  | some s =>
    have q := r.sl j s hs
    rw [hs] at hl
    cases s with
    | un => cases hl
    | fro u =>
      cases hl
      obtain ⟨_, w, e, rp⟩ := q
      rw [hv] at e
      cases e
      exact .inl rp
    | ml xs =>
      cases hl
      obtain ⟨p, vs, e1, e2, e3, e4⟩ := q
      rw [hv] at e2
      cases e2
      exact .inr ⟨xs, p, vs, rfl, rfl, ⟨j, e1⟩, e3, e4⟩
    | md kd kvs => cases hl
    | slf c fs => cases hl
theorem RepH.rs {h : Hd} {t : AV} {v : V} (r : Rel c0 β g ρ σ H) (rh : RepH c0 g σ H h v) (hr : rs h ρ = some t) : RepR c0 g H t v := by
  cases h with
  | val u => cases hr; exact .inl rh
  | var j => exact r.look hr rh
def G.no (g : G) (j : Nat) : G := { g with own := fun i => if i = j then none else g.own i }
theorem ext_no (g : G) (j : Nat) (H : Hp) : Ext g (g.no j) H H := ⟨fun _ _ h _ _ => h, fun _ h => h, rfl, fun _ h => h, fun _ h => .inl h, fun _ h => h, fun i a h => by
  unfold G.no at h
  simp only at h
  split at h
  · cases h
  · exact .inl ⟨i, h⟩, rfl⟩
theorem slotOk_ext {g' : G} {H' : Hp} {o : Option Addr} {sv : Option (Option V)} {s : Slot} (e : Ext g g' H H') (hk : ∀ a ob, o = some a → H a = some ob → H' a = some ob) (q : slotOk c0 g H o sv s) : slotOk c0 g' H' o sv s := by
  cases s with
  | un => exact q
  | fro t => obtain ⟨a, v, b, c⟩ := q; exact ⟨a, v, b, e.rep c⟩
  | ml xs => obtain ⟨p, vs, e1, e2, e3, e4⟩ := q; exact ⟨p, vs, e1, e2, hk p _ e1 e3, e.reps e4⟩
  | md kd kvs =>
    obtain ⟨p, ws, e1, e2, e3, e4⟩ := q
    refine ⟨p, ws, e1, e2, e3.imp (fun _ _ q n => e.av q n) e.dsub, ?_⟩
    rcases e4 with ⟨us, e4, e5⟩ | ⟨us, e4, e5⟩
    · exact .inl ⟨us, hk p _ e1 e4, e5⟩
    · exact .inr ⟨us, hk p _ e1 e4, e5⟩
  | slf c fs => obtain ⟨p, C, dx, vs, e1, e2, e3, e4, e5, e6, e7⟩ := q; exact ⟨p, C, dx, vs, e1, e2, e3, hk p _ e1 e4, e5, e.reps e6, e.s.trans e7⟩
theorem Rel.put {g' : G} {H' : Hp} {σ' : L2.St} {j : Nat} {s : Slot} (r : Rel c0 β g ρ σ H) (e : Ext g g' H H') (hl : σ'.length = σ.length) (hs : ∀ i, i ≠ j → σ'[i]? = σ[i]?) (hj : j < ρ.length)
    (ho : ∀ i, i ≠ j → g'.own i = g.own i) (hk : ∀ i a o, i ≠ j → g.own i = some a → H a = some o → H' a = some o) (hb : β.I g'.B g'.D H')
    (hn : slotOk c0 g' H' (g'.own j) σ'[j]? s) (hsep : ∀ a, g'.own j = some a → ¬ g'.M a ∧ ¬ g'.B a ∧ ∀ i, i ≠ j → g.own i ≠ some a) : Rel c0 β g' (ρ.set j s) σ' H' where
  len := by rw [hl, List.length_set]; exact r.len
  sl := fun i u hi => by
    by_cases hij : i = j
    · subst hij
      rw [List.getElem?_set_self hj] at hi
      cases hi
      exact hn
    · rw [List.getElem?_set_ne (Ne.symm hij)] at hi
      rw [hs i hij, ho i hij]
      exact slotOk_ext e (fun a o h1 h2 => hk i a o hij h1 h2) (r.sl i u hi)
  out := fun i hi => by
    rw [List.length_set] at hi
    rw [ho i (by omega)]
    exact r.out i hi
  inj := fun i k a h1 h2 => by
    by_cases hi : i = j
    · by_cases hk' : k = j
      · rw [hi, hk']
      · subst hi
        rw [ho k hk'] at h2
        exact absurd h2 ((hsep a h1).2.2 k hk')
    · by_cases hk' : k = j
      · subst hk'
        rw [ho i hi] at h1
        exact absurd h1 ((hsep a h2).2.2 i hi)
      · rw [ho i hi] at h1
        rw [ho k hk'] at h2
        exact r.inj i k a h1 h2
  alive := fun a h => e.live a (r.alive a (by rw [← e.m]; exact h))
  nt := fun a h vs z => by
    rw [e.m] at h
    cases q : H a with
    | none => exact r.alive a h q
    | some o =>
      have k := e.keep a o q (fun i hi => (r.sep i a hi).1 h) (r.mb a h)
      rw [k] at z
      cases z
      exact r.nt a h vs q
  sep := fun i a h => by
    by_cases hi : i = j
    · subst hi
      exact ⟨(hsep a h).1, (hsep a h).2.1⟩
    · rw [ho i hi] at h
      refine ⟨by rw [e.m]; exact (r.sep i a h).1, fun hb' => ?_⟩
      rcases e.bnew a hb' with z | z
      · exact (r.sep i a h).2 z
      · exact r.ownLive h z
  mb := fun a h hb' => by
    rw [e.m] at h
    rcases e.bnew a hb' with z | z
    · exact r.mb a h z
    · exact r.alive a h z
  box := hb
theorem own_no {g : G} {j : Nat} : (g.no j).own j = none := by simp [G.no]
theorem own_no_ne {g : G} {i j : Nat} (h : i ≠ j) : (g.no j).own i = g.own i := by simp [G.no, h]
theorem frz_ok {p : Hd × Env'} {v : V} {k : AV × Env' → T γ} {Q : G → Hp → γ → Prop} (r : Rel c0 β g p.2 σ H) (rh : RepH c0 g σ H p.1 v) (h : okT c0 β Ex g H ((frz p).bind k) Q) :
    ∃ g' q, Ext g g' H H ∧ Rel c0 β g' q.2 σ H ∧ RepG c0 g' H q.1 v ∧ okT c0 β Ex g' H (k q) Q := by
  obtain ⟨hd, ρ⟩ := p
  cases hd with
  | val t => exact ⟨g, (t, ρ), .refl g H, r, rh, h⟩
  | var j =>
    have hv : σ[j]? = some (some v) := rh
    have r : Rel c0 β g ρ σ H := r
    cases hs : ρ[j]? with
    | none => simp only [frz, hs] at h; exact (show False from h).elim
    | some s =>
      have q := r.sl j s hs
      simp only [frz, hs] at h
      cases s with
      | un => exact (show False from h).elim
      | fro u =>
        obtain ⟨_, w, e, rp⟩ := q
        rw [hv] at e
        cases e
        exact ⟨g, (u, ρ), .refl g H, r, rp, h⟩
      | ml xs =>
        obtain ⟨p, vs, e1, e2, e3, e4⟩ := q
        rw [hv] at e2
        cases e2
        have E := ext_no g j H
        have rp : RepG c0 (g.no j) H (.lst xs) (.ref p) := by
          rw [RepG, Rep]
          refine ⟨p, vs, rfl, ⟨?_, e3⟩, E.reps e4⟩
          rintro (z | ⟨i, z⟩ | z)
          · exact (r.sep j p e1).1 z
          · by_cases hi : i = j
            · subst hi; rw [own_no] at z; cases z
            · rw [own_no_ne hi] at z
              exact hi (r.inj i j p z e1)
          · exact (r.sep j p e1).2 z
        refine ⟨g.no j, (.lst xs, ρ.set j (.fro (.lst xs))), E, ?_, rp, ?_⟩
        · refine r.put E rfl (fun _ _ => rfl) (List.getElem?_eq_some_iff.mp hs).1 (fun i hi => own_no_ne hi) (fun _ _ _ _ _ h => h) r.box ?_ fun a h => by rw [own_no] at h; cases h
          rw [own_no]
          exact ⟨rfl, .ref p, hv, rp⟩
        · exact T.all_mono h (fun a q g' H' e => q g' H' (E.trans e)) fun c xs q g' H' C d vs e2 => q g' H' C d vs (E.trans e2)
      | md kd kvs => exact (show False from h).elim
      | slf c fs => exact (show False from h).elim
end
section
variable (X : Cx) (ct : CT) (β : BInv) (Ex : XK)
def JE (e : Expr) (f : Sem) : Prop := PE X e (rdE (gc X ct) β Ex f)
def JL (es : List Expr) (f : SemL) : Prop := PA X es (rdL (gc X ct) β Ex f)
def JT (e : Expr) (f : SemB) : Prop := PT X e (rdB (gc X ct) β Ex f)
end
theorem PE.imp {X : Cx} {e : Expr} {t t' : TE} (h : PE X e t) (i : ∀ σ H Q, t' σ H Q → t σ H Q) : PE X e t' := ⟨fun pins s σ H Q I q => h.run pins s σ H Q I (i σ H Q q)⟩
theorem PT.imp {X : Cx} {e : Expr} {t t' : TT} (h : PT X e t) (i : ∀ σ H Q, t' σ H Q → t σ H Q) : PT X e t' := ⟨fun pins s σ H Q I q => h.run pins s σ H Q I (i σ H Q q)⟩
theorem PW.imp {X : Cx} {e : Expr} {t t' : TT} (h : PW X e t) (i : ∀ σ H Q, t' σ H Q → t σ H Q) : PW X e t' := ⟨fun wh pins s σ H Q I q => h.run wh pins s σ H Q I (i σ H Q q)⟩
theorem PA.imp {X : Cx} {e : List Expr} {t t' : TA} (h : PA X e t) (i : ∀ σ H Q, t' σ H Q → t σ H Q) : PA X e t' := ⟨fun pos pins s σ H Q I q => h.run pos pins s σ H Q I (i σ H Q q)⟩
def fVar (j : Nat) : Sem := fun ρ => match ρ[j]? with
  | some .un => .bad
  | some _ => .ret (.var j, ρ)
  | none => .bad
def fC (t : AV) : Sem := fun ρ => .ret (.val t, ρ)
section
variable {X : Cx} {ct : CT} {β : BInv} {Ex : XK}
theorem Rel.val {c0 : Gc} {g : G} {ρ : Env'} {σ : L2.St} {H : Hp} {j : Nat} {s : Slot} (r : Rel c0 β g ρ σ H) (h : ρ[j]? = some s) (hu : s ≠ .un) : ∃ v, σ[j]? = some (some v) := by
  have q := r.sl j s h
  cases s with
  | un => exact absurd rfl hu
  | fro t => obtain ⟨_, v, e, _⟩ := q; exact ⟨v, e⟩
  | ml xs => obtain ⟨p, vs, _, e, _⟩ := q; exact ⟨_, e⟩
  | md kd kvs => obtain ⟨p, vs, _, e, _⟩ := q; exact ⟨_, e⟩
  | slf c fs => obtain ⟨p, C, dx, vs, _, e, _⟩ := q; exact ⟨_, e⟩
theorem j_var (j : Nat) {x : Str} {pos : Pos} (hN : X.N[j]? = some x := by rfl) (hv : Vis X.env.scope x := by first | exact Or.inl rfl | exact Or.inr (Or.inl rfl) | exact Or.inr (Or.inr rfl)) (hd : (x == ("__debug__" : Str)) = false := by decide +kernel)
    (hcd : (x == ("__classdict__" : Str)) = false := by decide +kernel) : JE X ct β Ex (.Name x pos) (fVar j) := by
  refine PE.imp (pe_var (i := j) hN hv hd hcd) fun σ H Q h => ?_
  obtain ⟨g, ρ, r, h⟩ := h
  unfold fVar at h
  cases hs : ρ[j]? with
  | none => rw [hs] at h; exact (show False from h).elim
  | some s =>
    rw [hs] at h
    by_cases hu : s = .un
    · subst hu; exact (show False from h).elim
    · obtain ⟨v, e⟩ := r.val hs hu
      have h' : okT (gc X ct) β Ex g H (.ret (Hd.var j, ρ)) fun g' H' p => ∀ v, Rel (gc X ct) β g' p.2 σ H' → RepH (gc X ct) g' σ H' p.1 v → Q v H' := by
        cases s <;> first | exact h | exact absurd rfl hu
      exact ⟨v, e, okT_ret h' v r e⟩
theorem j_c {t : AV} {v : V} {e : Expr} (h : PE X e (tC v)) (hr : ∀ g H, RepG (gc X ct) g H t v) : JE X ct β Ex e (fC t) := by
  refine PE.imp h fun σ H Q h => ?_
  obtain ⟨g, ρ, r, h⟩ := h
  exact okT_ret h v r (hr g H)
theorem j_int {i j pos} : JE X ct β Ex (.Constant (.int i) j pos) (fC (.int i)) := j_c pe_int fun _ _ => by rw [RepG, Rep]
theorem j_bl {i j pos} : JE X ct β Ex (.Constant (.bool i) j pos) (fC (.bl i)) := j_c pe_bl fun _ _ => by rw [RepG, Rep]
theorem j_non {j pos} : JE X ct β Ex (.Constant .none j pos) (fC .non) := j_c pe_non fun _ _ => by rw [RepG, Rep]
theorem j_str {i j pos} : JE X ct β Ex (.Constant (.str i) j pos) (fC (.str i)) := j_c pe_str fun _ _ => by rw [RepG, Rep]
def fBin (op : AV → AV → Option AV) (f k : Sem) : Sem := fun ρ => (f ρ).bind fun p => (k p.2).bind fun q => (lift (rs p.1 q.2)).bind fun a => (lift (rs q.1 q.2)).bind fun b => (lift (op a b)).bind fun z => .ret (.val z, q.2)
def Op2 (X : Cx) (ct : CT) (r : R2) (op : AV → AV → Option AV) : Prop := ∀ (g : G) (H : Hp) (a b z : AV) (x y : V) (Q : VK), RepR (gc X ct) g H a x → RepR (gc X ct) g H b y → op a b = some z →
  (∀ v H', Same H H' → RepG (gc X ct) g H' z v → Q v H') → r x y H Q
theorem fBin_ok {r : R2} {op : AV → AV → Option AV} {f k : Sem} (hop : Op2 X ct r op) {σ : L2.St} {H : Hp} {Q : VK} (h : rdE (gc X ct) β Ex (fBin op f k) σ H Q) :
    rdE (gc X ct) β Ex f σ H fun x H1 => rdE (gc X ct) β Ex k σ H1 fun y H2 => r x y H2 Q := by
  obtain ⟨g, ρ, R, h⟩ := h
  refine ⟨g, ρ, R, okT_mono (okT_bind h) fun g1 H1 p e1 h1 x R1 rx => ⟨g1, p.2, R1, okT_mono (okT_bind h1) fun g2 H2 q e2 h2 y R2 ry => ?_⟩⟩
  obtain ⟨a, ea, h3⟩ := okT_lift h2
  obtain ⟨b, eb, h4⟩ := okT_lift h3
  obtain ⟨z, ez, h5⟩ := okT_lift h4
  refine hop g2 H2 a b z x y Q ((rx.ext e2).rs R2 ea) (ry.rs R2 eb) ez fun v H' s rv => ?_
  exact okT_ret' h5 (Ext.same s) v (R2.same s) rv
theorem j_bin {op : Operator} {r : R2} {o : AV → AV → Option AV} {a b : Expr} {f k : Sem} {pos : Pos} (ho : OpR X (binaryOp op) r) (hop : Op2 X ct r o) (ha : JE X ct β Ex a f) (hb : JE X ct β Ex b k) : JE X ct β Ex (.BinOp a op b pos) (fBin o f k) :=
  PE.imp (pe_op ho ha hb) fun σ H Q h => fBin_ok hop h
theorem j_cmp {op : CmpOp} {r : R2} {o : AV → AV → Option AV} {a b : Expr} {f k : Sem} {pos : Pos} (ho : OpR X (compareOp op) r) (hop : Op2 X ct r o) (ha : JE X ct β Ex a f) (hb : JE X ct β Ex b k) (hm : behindInMarks op b = false) :
    JE X ct β Ex (.Compare a [op] [b] pos) (fBin o f k) := PE.imp (pe_cmpR ho ha hb hm) fun σ H Q h => fBin_ok hop h
def fUn (op : AV → Option AV) (f : Sem) : Sem := fun ρ => (f ρ).bind fun p => (lift (rs p.1 p.2)).bind fun a => (lift (op a)).bind fun z => .ret (.val z, p.2)
def Op1 (X : Cx) (ct : CT) (r : V → Hp → VK → Prop) (op : AV → Option AV) : Prop := ∀ (g : G) (H : Hp) (a z : AV) (x : V) (Q : VK), RepR (gc X ct) g H a x → op a = some z →
  (∀ v H', Same H H' → RepG (gc X ct) g H' z v → Q v H') → r x H Q
end
end Dn
set_option Elab.async false
set_option linter.all false
set_option maxRecDepth 100000
namespace Dn
open PySem PySem.Spec PyProof.Rows L2
section
variable {c0 : Gc} {g : G} {H : Hp} {t : AV} {v : V}
theorem RepR.non (h : RepR c0 g H .non v) : v = .non := by
  rcases h with h | ⟨xs, p, vs, e, _⟩
  · rw [RepG, Rep] at h; exact h
  · cases e
theorem RepR.bl {b : Bool} (h : RepR c0 g H (.bl b) v) : v = .bl b := by
  rcases h with h | ⟨xs, p, vs, e, _⟩
  · rw [RepG, Rep] at h; exact h
  · cases e
theorem RepR.int {i : Int} (h : RepR c0 g H (.int i) v) : v = .int i := by
  rcases h with h | ⟨xs, p, vs, e, _⟩
  · rw [RepG, Rep] at h; exact h
  · cases e
theorem RepR.str {i : Str} (h : RepR c0 g H (.str i) v) : v = .str i := by
  rcases h with h | ⟨xs, p, vs, e, _⟩
  · rw [RepG, Rep] at h; exact h
  · cases e
theorem RepR.tup {xs : List AV} (h : RepR c0 g H (.tup xs) v) : ∃ a vs, v = .ref a ∧ SqT c0.K H a vs ∧ RepsG c0 g H xs vs := by
  rcases h with h | ⟨ys, p, vs, e, _⟩
  · rw [RepG, Rep] at h
    obtain ⟨a, vs, e, q, r⟩ := h
    exact ⟨a, vs, e, q.sq, r⟩
  · cases e
theorem RepR.lst' {xs : List AV} (h : RepR c0 g H (.lst xs) v) : ∃ a vs, v = .ref a ∧ H a = some (.lst vs) ∧ RepsG c0 g H xs vs := by
  rcases h with h | ⟨ys, p, vs, e, e2, _, e3, r⟩
  · rw [RepG, Rep] at h
    obtain ⟨a, vs, e, q, r⟩ := h
    exact ⟨a, vs, e, q.2, r⟩
  · cases e
    exact ⟨p, vs, e2, e3, r⟩
theorem RepR.lst {xs : List AV} (h : RepR c0 g H (.lst xs) v) : ∃ a vs, v = .ref a ∧ SqL c0.K H a vs ∧ RepsG c0 g H xs vs :=
  let ⟨a, vs, e, q, r⟩ := h.lst'
  ⟨a, vs, e, .of q, r⟩
theorem RepR.ins {c : Nat} {xs : List AV} (h : RepR c0 g H (.ins c xs) v) : RepG c0 g H (.ins c xs) v := by
  rcases h with h | ⟨ys, p, vs, e, _⟩
  · exact h
  · cases e
theorem rep_non : RepG c0 g H .non .non := by rw [RepG, Rep]
theorem rep_bl {b : Bool} : RepG c0 g H (.bl b) (.bl b) := by rw [RepG, Rep]
theorem rep_int {i : Int} : RepG c0 g H (.int i) (.int i) := by rw [RepG, Rep]
theorem rep_str {i : Str} : RepG c0 g H (.str i) (.str i) := by rw [RepG, Rep]
theorem rep_tup_new {H' : Hp} {p : Addr} {xs : List AV} {vs : List V} (hp : ¬ g.Av p) (e : H' p = some (.tup vs)) (r : RepsG c0 g H' xs vs) : RepG c0 g H' (.tup xs) (.ref p) := by
  rw [RepG, Rep]
  exact ⟨p, vs, rfl, .inl ⟨hp, e⟩, r⟩
theorem rep_lst_new {H' : Hp} {p : Addr} {xs : List AV} {vs : List V} (hp : ¬ g.Av p) (e : H' p = some (.lst vs)) (r : RepsG c0 g H' xs vs) : RepG c0 g H' (.lst xs) (.ref p) := by
  rw [RepG, Rep]
  exact ⟨p, vs, rfl, ⟨hp, e⟩, r⟩
theorem same_upd {H : Hp} {p : Addr} {o : HO} (h : H p = none) : Same H (upd H p o) := fun b x e => by
  rw [upd_ne (ne_of_none e h)]
  exact e
end
def big : Nat := 1000000
@[irreducible] def below (j : Int) (k : Nat) : Bool := decide (j.natAbs < 2 ^ k)
theorem below_iff {j : Int} {k : Nat} : below j k = true ↔ j.natAbs < 2 ^ k := by
  unfold below
  exact decide_eq_true_iff
theorem below_of {j : Int} {k : Nat} (h : j.natAbs < 2 ^ k) : below j k = true := below_iff.mpr h
theorem below62 {j : Int} (h : below j 62 = true) : -(2 ^ 62) ≤ j ∧ j < 2 ^ 62 := by
  have := below_iff.mp h
  omega
theorem big_line : big ≤ sizeLine := by rw [sizeLine_eq]; decide
def tru : AV → Option Bool
  | .non => some false
  | .bl b => some b
  | .int i => some (i != 0)
  | .str s => if s.length ≤ big then some ((s.length : Int) != 0) else none
  | .tup xs => some (!xs.isEmpty)
  | .lst xs => some (!xs.isEmpty)
  | _ => none
theorem isEmpty_reps {c0 : Gc} {A D : Addr → Prop} {H : Hp} {xs : List AV} {vs : List V} (h : RepL c0 A D H xs vs) : vs.isEmpty = xs.isEmpty := by
  have e := h.length
  cases xs <;> cases vs <;> first | rfl | simp at e
theorem tru_okV {c0 : Gc} {g : G} {H : Hp} {t : AV} {v : V} {b : Bool} (h : RepR c0 g H t v) (e : tru t = some b) : TruV c0.K v H b := by
  cases t with
  | non => cases e; rw [h.non]; rfl
  | bl _ => cases e; rw [h.bl]; rfl
  | int _ => cases e; rw [h.int]; rfl
  | str s =>
    rw [h.str]
    have e' : (if s.length ≤ big then some ((s.length : Int) != 0) else none) = some b := e
    by_cases hs : s.length ≤ big
    · rw [if_pos hs] at e'
      cases e'
      exact ⟨Nat.le_trans hs big_line, rfl⟩
    · rw [if_neg hs] at e'
      cases e'
  | tup xs =>
    cases e
    obtain ⟨a, vs, rfl, q, r⟩ := h.tup
    exact .inr (.inl ⟨vs, q, by rw [isEmpty_reps r]⟩)
  | lst xs =>
    cases e
    obtain ⟨a, vs, rfl, q, r⟩ := h.lst
    exact .inl ⟨vs, q, by rw [isEmpty_reps r]⟩
  | ins _ _ => cases e
  | dic _ _ => cases e
  | dct _ _ => cases e
  | box => cases e
  | scr _ => cases e
  | any => cases e
def fTru (f : Sem) : SemB := fun ρ => (f ρ).bind fun p => (lift (rs p.1 p.2)).bind fun a => (lift (tru a)).bind fun b => .ret (b, p.2)
def blOf : AV → Option Bool
  | .bl b => some b
  | _ => none
def fBlT (f : Sem) : SemB := fun ρ => (f ρ).bind fun p => (lift (rs p.1 p.2)).bind fun a => (lift (blOf a)).bind fun b => .ret (b, p.2)
section
variable {X : Cx} {ct : CT} {β : BInv} {Ex : XK} {a b c : Expr} {f k l : Sem} {fb kb : SemB} {pos : Pos}
theorem jt_truth (ha : JE X ct β Ex a f) (he : ∀ whole, isTrue a X.env whole = (do let v ← whole; standAt a.pos; holding [v] (truthy v)) := by intro _; rfl) : JT X ct β Ex a (fTru f) := by
  refine PT.imp (pt_truth ha he) fun σ H Q h => ?_
  obtain ⟨g, ρ, R, h⟩ := h
  refine ⟨g, ρ, R, okT_mono (okT_bind h) fun g1 H1 p e1 h1 x R1 rx => ?_⟩
  obtain ⟨u, eu, h2⟩ := okT_lift h1
  obtain ⟨d, ed, h3⟩ := okT_lift h2
  exact ⟨d, tru_okV (rx.rs R1 eu) ed, okT_ret h3 R1⟩
theorem fBlT_ok {σ : L2.St} {H : Hp} {Q : Bool → Hp → Prop} (h : rdB (gc X ct) β Ex (fBlT f) σ H Q) : rdE (gc X ct) β Ex f σ H fun x H1 => ∃ k, x = .bl k ∧ Q k H1 := by
  obtain ⟨g, ρ, R, h⟩ := h
  refine ⟨g, ρ, R, okT_mono (okT_bind h) fun g1 H1 p e1 h1 x R1 rx => ?_⟩
  obtain ⟨u, eu, h2⟩ := okT_lift h1
  obtain ⟨d, ed, h3⟩ := okT_lift h2
  cases u with
  | bl _ =>
    cases ed
    exact ⟨_, (rx.rs R1 eu).bl, okT_ret h3 R1⟩
  | _ => cases ed
theorem jt_cmp {op : CmpOp} {r : R2} {o : AV → AV → Option AV} (ho : OpR X (compareOp op) r) (hop : Op2 X ct r o) (ha : JE X ct β Ex a f) (hb : JE X ct β Ex b k) (hm : behindInMarks op b = false) :
    JT X ct β Ex (.Compare a [op] [b] pos) (fBlT (fBin o f k)) := PT.imp (pt_cmpR ho ha hb hm) fun σ H Q h => fBin_ok hop (fBlT_ok h)
def fNotT (f : SemB) : SemB := fun ρ => (f ρ).bind fun p => .ret (!p.1, p.2)
theorem jt_not (ha : JT X ct β Ex a fb) : JT X ct β Ex (.UnaryOp .Not a pos) (fNotT fb) := by
  refine PT.imp (pt_not ha) fun σ H Q h => ?_
  obtain ⟨g, ρ, R, h⟩ := h
  exact ⟨g, ρ, R, okT_mono (okT_bind h) fun g1 H1 p e1 h1 R1 => okT_ret h1 R1⟩
def fAndT (f k : SemB) : SemB := fun ρ => (f ρ).bind fun p => if p.1 then k p.2 else .ret (false, p.2)
def fOrT (f k : SemB) : SemB := fun ρ => (f ρ).bind fun p => if p.1 then .ret (true, p.2) else k p.2
def JW (X : Cx) (ct : CT) (β : BInv) (Ex : XK) (e : Expr) (f : SemB) : Prop := PW X e (rdB (gc X ct) β Ex f)
theorem jw_pt {e : Expr} (h : JW X ct β Ex e fb) : JT X ct β Ex e fb := PW.pt h
theorem jw_or1 (ha : JT X ct β Ex a fb) : JW X ct β Ex (.BoolOp .Or [a] pos) fb := PW.imp (pw_or1 ha) fun _ _ _ h => h
theorem jw_or {rest : List Expr} (ha : JT X ct β Ex a fb) (hb : JW X ct β Ex (.BoolOp .Or (b :: rest) pos) kb) : JW X ct β Ex (.BoolOp .Or (a :: b :: rest) pos) (fOrT fb kb) := by
  refine PW.imp (pw_or ha hb) fun σ H Q h => ?_
  obtain ⟨g, ρ, R, h⟩ := h
  refine ⟨g, ρ, R, okT_mono (okT_bind h) fun g1 H1 p e1 h1 R1 => ?_⟩
  by_cases hp : p.1 = true
  · rw [if_pos hp] at h1 ⊢
    exact okT_ret h1 R1
  · rw [if_neg hp] at h1 ⊢
    exact ⟨g1, p.2, R1, h1⟩
def fAnd (f k : Sem) : Sem := fun ρ => (f ρ).bind fun p => (lift (rs p.1 p.2)).bind fun a => (lift (blOf a)).bind fun b => if b then k p.2 else .ret (.val (.bl false), p.2)
def fOr (f k : Sem) : Sem := fun ρ => (f ρ).bind fun p => (lift (rs p.1 p.2)).bind fun a => (lift (blOf a)).bind fun b => if b then .ret (.val (.bl true), p.2) else k p.2
def fNot (f : Sem) : Sem := fun ρ => (f ρ).bind fun p => (lift (rs p.1 p.2)).bind fun a => (lift (blOf a)).bind fun b => .ret (.val (.bl (!b)), p.2)
theorem okT_bl {g : G} {ρ : Env'} {σ : L2.St} {H : Hp} {b : Bool} {Q : VK} (h : okT (gc X ct) β Ex g H (.ret (Hd.val (.bl b), ρ)) fun g' H' p => ∀ v, Rel (gc X ct) β g' p.2 σ H' → RepH (gc X ct) g' σ H' p.1 v → Q v H') (R : Rel (gc X ct) β g ρ σ H) : Q (.bl b) H :=
  okT_ret h (.bl b) R (show RepG (gc X ct) g H (.bl b) (.bl b) from rep_bl)
theorem blOf_eq {t : AV} {b : Bool} (h : blOf t = some b) : t = .bl b := by
  cases t with
  | bl c => cases h; rfl
  | _ => cases h
theorem j_one {op} (h : JE X ct β Ex a f) : JE X ct β Ex (.BoolOp op [a] pos) f := PE.imp (pe_one h) fun _ _ _ h => h
theorem j_and {rest : List Expr} (ha : JE X ct β Ex a f) (hb : JE X ct β Ex (.BoolOp .And (b :: rest) pos) k) : JE X ct β Ex (.BoolOp .And (a :: b :: rest) pos) (fAnd f k) := by
  refine PE.imp (pe_and ha hb) fun σ H Q h => ?_
  obtain ⟨g, ρ, R, h⟩ := h
  refine ⟨g, ρ, R, okT_mono (okT_bind h) fun g1 H1 p e1 h1 x R1 rx => ?_⟩
  obtain ⟨u, eu, h2⟩ := okT_lift h1
  obtain ⟨d, ed, h3⟩ := okT_lift h2
  have eu' := blOf_eq ed
  subst eu'
  refine ⟨d, (rx.rs R1 eu).bl, ?_⟩
  cases d with
  | true => exact iteT ⟨g1, p.2, R1, h3⟩
  | false => exact iteF (okT_bl h3 R1)
theorem j_not (ha : JE X ct β Ex a f) : JE X ct β Ex (.UnaryOp .Not a pos) (fNot f) := by
  refine PE.imp (pe_not ha) fun σ H Q h => ?_
  obtain ⟨g, ρ, R, h⟩ := h
  refine ⟨g, ρ, R, okT_mono (okT_bind h) fun g1 H1 p e1 h1 x R1 rx => ?_⟩
  obtain ⟨u, eu, h2⟩ := okT_lift h1
  obtain ⟨d, ed, h3⟩ := okT_lift h2
  have eu' := blOf_eq ed
  subst eu'
  exact ⟨d, (rx.rs R1 eu).bl, okT_bl h3 R1⟩
def fIf (t : SemB) (f k : Sem) : Sem := fun ρ => (t ρ).bind fun p => if p.1 then f p.2 else k p.2
theorem j_ifExp (hc : JT X ct β Ex c fb) (ha : JE X ct β Ex a f) (hb : JE X ct β Ex b k) : JE X ct β Ex (.IfExp c a b pos) (fIf fb f k) := by
  refine PE.imp (pe_ifExp hc ha hb) fun σ H Q h => ?_
  obtain ⟨g, ρ, R, h⟩ := h
  refine ⟨g, ρ, R, okT_mono (okT_bind h) fun g1 H1 p e1 h1 R1 => ?_⟩
  by_cases hp : p.1 = true
  · rw [if_pos hp] at h1 ⊢
    exact ⟨g1, p.2, R1, h1⟩
  · rw [if_neg hp] at h1 ⊢
    exact ⟨g1, p.2, R1, h1⟩
def fChain (o o' : AV → AV → Option AV) (f k l : Sem) : Sem := fun ρ => (f ρ).bind fun p => (k p.2).bind fun q => (lift (rs p.1 q.2)).bind fun a => (lift (rs q.1 q.2)).bind fun b => (lift (o a b)).bind fun z => (lift (blOf z)).bind fun d =>
  if d then (l q.2).bind fun r => (lift (rs q.1 r.2)).bind fun b' => (lift (rs r.1 r.2)).bind fun c => (lift (o' b' c)).bind fun z => .ret (.val z, r.2) else .ret (.val (.bl false), q.2)
def Op2p (X : Cx) (ct : CT) (r : R2) (op : AV → AV → Option AV) : Prop := ∀ (g : G) (H : Hp) (a b z : AV) (x y : V) (Q : VK), RepR (gc X ct) g H a x → RepR (gc X ct) g H b y → op a b = some z →
  (∀ v, RepG (gc X ct) g H z v → Q v H) → r x y H Q
theorem Op2p.op {r : R2} {o : AV → AV → Option AV} (h : Op2p X ct r o) : Op2 X ct r o := fun g H a b z x y Q ra rb e q => h g H a b z x y Q ra rb e fun v rv => q v H (Same.refl H) rv
theorem jt_chain {op op' : CmpOp} {r r' : R2} {o o' : AV → AV → Option AV} (ho : OpR X (compareOp op) r) (hop : Op2p X ct r o) (ho' : OpR X (compareOp op') r') (hop' : Op2 X ct r' o') (ha : JE X ct β Ex a f) (hb : JE X ct β Ex b k) (hc : JE X ct β Ex c l)
    (hm : lastMarks [op, op'] [b, c] = false := by with_unfolding_all rfl) : JT X ct β Ex (.Compare a [op, op'] [b, c] pos) (fBlT (fChain o o' f k l)) := by
  refine PT.imp (pt_chain ho ho' ha hb hc hm) fun σ H Q h => ?_
  have h := fBlT_ok h
  obtain ⟨g, ρ, R, h⟩ := h
  refine ⟨g, ρ, R, okT_mono (okT_bind h) fun g1 H1 p e1 h1 x R1 rx => ⟨g1, p.2, R1, okT_mono (okT_bind h1) fun g2 H2 q e2 h2 y R2 ry => ?_⟩⟩
  obtain ⟨u, eu, h3⟩ := okT_lift h2
  obtain ⟨w, ew, h4⟩ := okT_lift h3
  obtain ⟨z, ez, h5⟩ := okT_lift h4
  obtain ⟨d, ed, h6⟩ := okT_lift h5
  have ez' := blOf_eq ed
  subst ez'
  refine hop g2 H2 u w _ x y _ ((rx.ext e2).rs R2 eu) (ry.rs R2 ew) ez fun v rv => ?_
  rw [RepG, Rep] at rv
  refine ⟨d, rv, ?_⟩
  cases d with
  | true =>
    refine iteT ⟨g2, q.2, R2, okT_mono (okT_bind h6) fun g3 H3 s e3 h7 z' R3 rz => ?_⟩
    obtain ⟨w', ew', h8⟩ := okT_lift h7
    obtain ⟨u', eu', h9⟩ := okT_lift h8
    obtain ⟨z2, ez2, h10⟩ := okT_lift h9
    exact hop' g3 H3 w' u' z2 y z' _ ((ry.ext e3).rs R3 ew') (rz.rs R3 eu') ez2 fun v H' sm rv => okT_ret' h10 (Ext.same sm) v (R3.same sm) rv
  | false => exact iteF (okT_bl h6 R2)
def lNil : SemL := fun ρ => .ret ([], ρ)
def lCons (f : Sem) (k : SemL) : SemL := fun ρ => (f ρ).bind fun p => (frz p).bind fun q => (k q.2).bind fun r => .ret (q.1 :: r.1, r.2)
theorem jl_nil : JL X ct β Ex [] lNil := PA.imp pa_nil fun σ H Q h => by
  obtain ⟨g, ρ, R, h⟩ := h
  exact okT_ret h _ R .nil
theorem jl_cons {es : List Expr} {m : SemL} (ha : JE X ct β Ex a f) (hr : JL X ct β Ex es m) (hs : starEach (a :: es) X.env = (false, eval a X.env) :: starEach es X.env := by rfl) : JL X ct β Ex (a :: es) (lCons f m) := by
  refine PA.imp (pa_cons ha hr hs) fun σ H Q h => ?_
  obtain ⟨g, ρ, R, h⟩ := h
  refine ⟨g, ρ, R, okT_mono (okT_bind h) fun g1 H1 p e1 h1 x R1 rx => ?_⟩
  obtain ⟨g2, q, e2, R2, rq, h2⟩ := frz_ok R1 rx h1
  refine ⟨g2, q.2, R2, okT_mono (okT_bind h2) fun g3 H3 r e3 h3 vs R3 rr => ?_⟩
  exact okT_ret h3 _ R3 (.cons (e3.rep rq) rr)
def fTup (k : SemL) : Sem := fun ρ => (k ρ).bind fun p => if p.1.length ≤ big then .ret (.val (.tup p.1), p.2) else .bad
def fLst (k : SemL) : Sem := fun ρ => (k ρ).bind fun p => if p.1.length ≤ big then .ret (.val (.lst p.1), p.2) else .bad
theorem Rel.freshAv {c0 : Gc} {g : G} {ρ : Env'} {σ : L2.St} {H : Hp} {p : Addr} (R : Rel c0 β g ρ σ H) (h : H p = none) : ¬ g.Av p := fun z => R.avLive z h
theorem j_tup {es : List Expr} {m : SemL} {x1} (h : JL X ct β Ex es m) : JE X ct β Ex (.Tuple es x1 pos) (fTup m) := by
  refine PE.imp (pe_tup h) fun σ H Q h => ?_
  obtain ⟨g, ρ, R, h⟩ := h
  refine ⟨g, ρ, R, okT_mono (okT_bind h) fun g1 H1 p e1 h1 vs R1 rx => ?_⟩
  by_cases hl : p.1.length ≤ big
  · rw [if_pos hl] at h1
    refine ⟨by rw [rx.length]; exact Nat.le_trans hl big_line, fun q hq => ?_⟩
    have s := same_upd (o := .tup vs) hq
    exact okT_ret' h1 (Ext.same s) _ (R1.same s) (rep_tup_new (R1.freshAv hq) upd_same ((Ext.same s).reps rx))
  · rw [if_neg hl] at h1
    exact (show False from h1).elim
end
end Dn
set_option Elab.async false
set_option linter.all false
set_option maxRecDepth 100000
namespace Dn
open PySem PySem.Spec PyProof.Rows L2
def dat : Nat → AV → Bool
  | _, .non => true
  | _, .bl _ => true
  | _, .int _ => true
  | _, .str s => PyData.strOk s
  | n + 1, .tup xs => xs.all (dat n)
  | n + 1, .lst xs => xs.all (dat n)
  | _, _ => false
def allEq (f : AV → AV → Bool) : List AV → List AV → Bool
  | [], [] => true
  | x :: xs, y :: ys => f x y && allEq f xs ys
  | _, _ => false
def aeq : Nat → AV → AV → Bool
  | _, .non, .non => true
  | _, .bl a, .bl b => a == b
  | _, .bl a, .int j => (if a then 1 else 0) == j
  | _, .int i, .bl b => i == (if b then 1 else 0)
  | _, .int i, .int j => i == j
  | _, .str x, .str y => x == y
  | n + 1, .tup xs, .tup ys => allEq (aeq n) xs ys
  | n + 1, .lst xs, .lst ys => allEq (aeq n) xs ys
  | _, _, _ => false
def toD : Nat → AV → PyData
  | _, .non => .none
  | _, .bl b => .bool b
  | _, .int i => .int i
  | _, .str s => .str s
  | n + 1, .tup xs => .tuple (xs.map (toD n))
  | n + 1, .lst xs => .list (xs.map (toD n))
  | _, _ => .none
theorem toD_lay : ∀ (n : Nat) (t : AV), dat n t = true → (toD n t).canLay0 = true ∧ (toD n t).depth ≤ n
  | n, .non, _ => by cases n <;> simp [toD, PyData.canLay0, PyData.depth]
  | n, .bl _, _ => by cases n <;> simp [toD, PyData.canLay0, PyData.depth]
  | n, .int _, _ => by cases n <;> simp [toD, PyData.canLay0, PyData.depth]
  | n, .str s, h => by
    have h' : PyData.strOk s = true := by cases n <;> exact h
    cases n <;> simp [toD, PyData.canLay0, PyData.depth, h']
  | 0, .tup _, h => by simp [dat] at h
  | 0, .lst _, h => by simp [dat] at h
  | n, .ins _ _, h => by cases n <;> simp [dat] at h
  | n, .box, h => by cases n <;> simp [dat] at h
  | n, .scr _, h => by cases n <;> simp [dat] at h
  | n, .dic _ _, h => by cases n <;> simp [dat] at h
  | n, .dct _ _, h => by cases n <;> simp [dat] at h
  | n, .any, h => by cases n <;> simp [dat] at h
  | n + 1, .tup xs, h => by
    have h' : xs.all (dat n) = true := h
    have q : PyData.canLayAll0 (xs.map (toD n)) = true ∧ PyData.depthAll (xs.map (toD n)) ≤ n := by
      induction xs with
      | nil => simp [PyData.canLayAll0, PyData.depthAll]
      | cons x xs ih =>
        rw [List.all_cons, Bool.and_eq_true] at h'
        have a := toD_lay n x h'.1
        have b := ih h'.2 h'.2
        simp only [List.map_cons, PyData.canLayAll0, PyData.depthAll, a.1, b.1, Bool.and_self, true_and]
        omega
    simp only [toD, PyData.canLay0, PyData.depth, q.1, true_and]
    omega
  | n + 1, .lst xs, h => by
    have h' : xs.all (dat n) = true := h
    have q : PyData.canLayAll0 (xs.map (toD n)) = true ∧ PyData.depthAll (xs.map (toD n)) ≤ n := by
      induction xs with
      | nil => simp [PyData.canLayAll0, PyData.depthAll]
      | cons x xs ih =>
        rw [List.all_cons, Bool.and_eq_true] at h'
        have a := toD_lay n x h'.1
        have b := ih h'.2 h'.2
        simp only [List.map_cons, PyData.canLayAll0, PyData.depthAll, a.1, b.1, Bool.and_self, true_and]
        omega
    simp only [toD, PyData.canLay0, PyData.depth, q.1, true_and]
    omega
theorem toD_shaped {n : Nat} {t : AV} (h : dat n t = true) (hn : n ≤ 64) : SeqAt.shaped (toD n t) = true := by
  obtain ⟨a, b⟩ := toD_lay n t h
  show ((toD n t).canLay0 && decide ((toD n t).depth ≤ 64)) = true
  rw [a, Bool.true_and]
  exact decide_eq_true (by omega)
theorem dp_of {c0 : Gc} {g : G} {H : Hp} : ∀ (n : Nat) {t : AV} {v : V}, RepG c0 g H t v → dat n t = true → Dp c0.K H v (toD n t)
  | n, .non, v, h, _ => by rw [RepG, Rep] at h; subst h; cases n <;> exact .non
  | n, .bl b, v, h, _ => by rw [RepG, Rep] at h; subst h; cases n <;> exact .bl b
  | n, .int i, v, h, _ => by rw [RepG, Rep] at h; subst h; cases n <;> exact .int i
  | n, .str s, v, h, _ => by rw [RepG, Rep] at h; subst h; cases n <;> exact .str s
  | 0, .tup _, _, _, h => by simp [dat] at h
  | 0, .lst _, _, _, h => by simp [dat] at h
  | n, .ins _ _, _, _, h => by cases n <;> simp [dat] at h
  | n, .box, _, _, h => by cases n <;> simp [dat] at h
  | n, .scr _, _, _, h => by cases n <;> simp [dat] at h
  | n, .dic _ _, _, _, h => by cases n <;> simp [dat] at h
  | n, .dct _ _, _, _, h => by cases n <;> simp [dat] at h
  | n, .any, _, _, h => by cases n <;> simp [dat] at h
  | n + 1, .tup xs, v, h, hd => by
    rw [RepG, Rep] at h
    obtain ⟨a, vs, rfl, q, r⟩ := h
    refine .tup q.sq ?_
    have hd' : xs.all (dat n) = true := hd
    clear q
    induction xs generalizing vs with
    | nil => rw [RepL] at r; subst r; exact .nil
    | cons x xs ih =>
      rw [RepL] at r
      obtain ⟨v, r', rfl, h1, h2⟩ := r
      rw [List.all_cons, Bool.and_eq_true] at hd'
      exact .cons (dp_of n h1 hd'.1) (ih hd'.2 _ h2 hd'.2)
  | n + 1, .lst xs, v, h, hd => by
    rw [RepG, Rep] at h
    obtain ⟨a, vs, rfl, q, r⟩ := h
    refine .lst q.sq ?_
    have hd' : xs.all (dat n) = true := hd
    clear q
    induction xs generalizing vs with
    | nil => rw [RepL] at r; subst r; exact .nil
    | cons x xs ih =>
      rw [RepL] at r
      obtain ⟨v, r', rfl, h1, h2⟩ := r
      rw [List.all_cons, Bool.and_eq_true] at hd'
      exact .cons (dp_of n h1 hd'.1) (ih hd'.2 _ h2 hd'.2)
theorem dpAll_of {c0 : Gc} {g : G} {H : Hp} (n : Nat) : ∀ {xs : List AV} {vs : List V}, RepsG c0 g H xs vs → xs.all (dat n) = true → DpAll c0.K H vs (xs.map (toD n))
  | [], vs, r, _ => by rw [RepsG, RepL] at r; subst r; exact .nil
  | x :: xs, vs, r, hd => by
    rw [RepsG, RepL] at r
    obtain ⟨v, r', rfl, h1, h2⟩ := r
    rw [List.all_cons, Bool.and_eq_true] at hd
    exact .cons (dp_of n h1 hd.1) (dpAll_of n h2 hd.2)
theorem dp_ofR {c0 : Gc} {g : G} {H : Hp} {n : Nat} {t : AV} {v : V} (h : RepR c0 g H t v) (hd : dat n t = true) : Dp c0.K H v (toD n t) := by
  rcases h with h | ⟨xs, p, vs, rfl, rfl, _, e, r⟩
  · exact dp_of n h hd
  · cases n with
    | zero => simp [dat] at hd
    | succ n => exact .lst (.of e) (dpAll_of n r hd)
theorem aeq_eqv : ∀ (n : Nat) (a b : AV), dat n a = true → dat n b = true → PyData.eqv (toD n a) (toD n b) = aeq n a b := by
  intro n
  induction n with
  | zero =>
    intro a b ha hb
    cases a <;> cases b <;> first | (simp [dat] at ha; done) | (simp [dat] at hb; done) | rfl
  | succ n ih =>
    have lists : ∀ (xs ys : List AV), xs.all (dat n) = true → ys.all (dat n) = true → PyData.eqvAll (xs.map (toD n)) (ys.map (toD n)) = allEq (aeq n) xs ys := by
      intro xs
      induction xs with
      | nil => intro ys _ _; cases ys <;> rfl
      | cons x xs ihx =>
        intro ys hx hy
        cases ys with
        | nil => rfl
        | cons y ys =>
          rw [List.all_cons, Bool.and_eq_true] at hx hy
          show (PyData.eqv (toD n x) (toD n y) && PyData.eqvAll (xs.map (toD n)) (ys.map (toD n))) = (aeq n x y && allEq (aeq n) xs ys)
          rw [ih x y hx.1 hy.1, ihx ys hx.2 hy.2]
    intro a b ha hb
    cases a <;> cases b <;> first
      | (simp [dat] at ha; done)
      | (simp [dat] at hb; done)
      | rfl
      | (simp only [toD, PyData.eqv, aeq]; exact lists _ _ ha hb)
abbrev DEP : Nat := 12
def pEq (a b : AV) : Option AV := if dat DEP a && dat DEP b then some (.bl (aeq DEP a b)) else none
def pNe (a b : AV) : Option AV := if dat DEP a && dat DEP b then some (.bl (!aeq DEP a b)) else none
def inAny (a : AV) (xs : List AV) : Bool := xs.any fun z => aeq DEP z a
def pIn (a b : AV) : Option AV := match b with
  | .tup xs => if dat DEP a && xs.all (dat DEP) then some (.bl (inAny a xs)) else none
  | .lst xs => if dat DEP a && xs.all (dat DEP) then some (.bl (inAny a xs)) else none
  | _ => none
def pNotIn (a b : AV) : Option AV := match b with
  | .tup xs => if dat DEP a && xs.all (dat DEP) then some (.bl (!inAny a xs)) else none
  | .lst xs => if dat DEP a && xs.all (dat DEP) then some (.bl (!inAny a xs)) else none
  | _ => none
theorem if_some {p : Bool} {a z : AV} (h : (if p then some a else none) = some z) : p = true ∧ z = a := by
  cases p with
  | true => cases h; exact ⟨rfl, rfl⟩
  | false => cases h
section
variable {X : Cx} {ct : CT} {β : BInv} {Ex : XK}
theorem o_eq : Op2p X ct (rEqD X.K) pEq := by
  intro g H a b z x y Q ra rb e q
  obtain ⟨h, rfl⟩ := if_some e
  rw [Bool.and_eq_true] at h
  exact ⟨_, _, dp_ofR ra h.1, dp_ofR rb h.2, toD_shaped h.1 (by decide), toD_shaped h.2 (by decide), by rw [aeq_eqv _ _ _ h.1 h.2]; exact q _ rep_bl⟩
theorem o_ne : Op2p X ct (rNeD X.K) pNe := by
  intro g H a b z x y Q ra rb e q
  obtain ⟨h, rfl⟩ := if_some e
  rw [Bool.and_eq_true] at h
  exact ⟨_, _, dp_ofR ra h.1, dp_ofR rb h.2, toD_shaped h.1 (by decide), toD_shaped h.2 (by decide), by rw [aeq_eqv _ _ _ h.1 h.2]; exact q _ rep_bl⟩
def rInT (K : PySem.W.Frag) (neg : Bool) : R2 := fun x y H Q => ∃ d ds, Dp K H x d ∧ Dp K H y (.tuple ds) ∧ SeqAt.shaped d = true ∧ SeqAt.shaped (.list ds) = true ∧ Q (.bl (if neg then !ds.any fun z => PyData.eqv z d else ds.any fun z => PyData.eqv z d)) H
theorem lay_tl {ds : List PyData} (h : SeqAt.shaped (.list ds) = true) : PyData.canLayAll0 ds = true := SeqAt.canLay_of_shaped h
theorem op_inT (hu : X.A.units + 65 < cLine) : OpR X (compareOp .In) (rInT X.K false) := by
  intro pins s σ H x y v u Q I rx ry h
  obtain ⟨d, ds, hd, he, sd, se, q⟩ := h
  obtain ⟨as, r1⟩ := Dp.reads I d x v hd rx
  obtain ⟨bs, r2⟩ := Dp.reads I (.tuple ds) y u he ry
  exact SeqAt.in_tuple_reads r2 r1 (lay_tl se) (SeqAt.canLay_of_shaped sd) (room_in_shaped sd hu) ⟨.bl _, H, I, rfl, q⟩
theorem anyD {a : AV} (ha : dat DEP a = true) : ∀ {xs : List AV}, xs.all (dat DEP) = true → ((xs.map (toD DEP)).any fun z => PyData.eqv z (toD DEP a)) = inAny a xs
  | [], _ => rfl
  | x :: xs, h => by
    rw [List.all_cons, Bool.and_eq_true] at h
    show (PyData.eqv (toD DEP x) (toD DEP a) || (xs.map (toD DEP)).any _) = (aeq DEP x a || inAny a xs)
    rw [aeq_eqv _ _ _ h.1 ha, anyD ha h.2]
theorem shapedL {xs : List AV} (h : xs.all (dat DEP) = true) : SeqAt.shaped (.list (xs.map (toD DEP))) = true := toD_shaped (n := DEP + 1) (t := .lst xs) h (by decide)
theorem o_in : Op2p X ct (fun x y H Q => rInD X.K x y H Q ∨ rInT X.K false x y H Q) pIn := by
  intro g H a b z x y Q ra rb e q
  cases b with
  | tup xs =>
    obtain ⟨h, rfl⟩ := if_some (show (if dat DEP a && xs.all (dat DEP) then some (AV.bl (inAny a xs)) else none) = some z from e)
    rw [Bool.and_eq_true] at h
    refine .inr ⟨_, _, dp_ofR ra h.1, dp_ofR (n := DEP + 1) rb h.2, toD_shaped h.1 (by decide), shapedL h.2, ?_⟩
    have e1 := anyD h.1 h.2
    simp only [e1]
    exact q _ rep_bl
  | lst xs =>
    obtain ⟨h, rfl⟩ := if_some (show (if dat DEP a && xs.all (dat DEP) then some (AV.bl (inAny a xs)) else none) = some z from e)
    rw [Bool.and_eq_true] at h
    refine .inl ⟨_, _, dp_ofR ra h.1, dp_ofR (n := DEP + 1) rb h.2, toD_shaped h.1 (by decide), shapedL h.2, ?_⟩
    have e1 := anyD h.1 h.2
    simp only [e1]
    exact q _ rep_bl
  | _ => cases e
end
def pAdd (a b : AV) : Option AV := match a, b with
  | .int i, .int j => some (.int (i + j))
  | .str x, .str y => if x.length + y.length ≤ big then some (.str (x ++ y)) else none
  | .tup xs, .tup ys => if xs.length + ys.length ≤ big then some (.tup (xs ++ ys)) else none
  | .lst xs, .lst ys => if xs.length + ys.length ≤ big then some (.lst (xs ++ ys)) else none
  | _, _ => none
def pSub (a b : AV) : Option AV := match a, b with
  | .int i, .int j => some (.int (i - j))
  | _, _ => none
def pMul (a b : AV) : Option AV := match a, b with
  | .int i, .int j => if i.natAbs.log2 + j.natAbs.log2 < 1000000 then some (.int (i * j)) else none
  | .lst xs, .int k => if 0 ≤ k ∧ xs.length * k.toNat ≤ big ∧ k < 1000000 then some (.lst (List.replicate k.toNat xs).flatten) else none
  | .tup xs, .int k => if xs.isEmpty = false ∧ 2 ≤ k ∧ k ≤ 1000 ∧ xs.length ≤ 1000 then some (.tup (List.replicate k.toNat xs).flatten) else none
  | _, _ => none
def pDiv (a b : AV) : Option AV := match a, b with
  | .int i, .int j => if 0 < j ∧ j.natAbs.log2 < 9000 then some (.int (i / j)) else none
  | _, _ => none
def pMod (a b : AV) : Option AV := match a, b with
  | .int i, .int j => if 0 < j then some (.int (i % j)) else none
  | _, _ => none
def pPow (a b : AV) : Option AV := match a, b with
  | .int i, .int j => if 0 ≤ j ∧ j ≤ 1000000 ∧ below i 64 = true then some (.int (i ^ j.toNat)) else none
  | _, _ => none
def pNeg (a : AV) : Option AV := match a with
  | .int i => some (.int (-i))
  | _ => none
def pLt (a b : AV) : Option AV := match a, b with
  | .int i, .int j => some (.bl (decide (i < j)))
  | _, _ => none
def pLe (a b : AV) : Option AV := match a, b with
  | .int i, .int j => some (.bl (decide (i ≤ j)))
  | _, _ => none
def pGt (a b : AV) : Option AV := match a, b with
  | .int i, .int j => some (.bl (decide (j < i)))
  | _, _ => none
def pGe (a b : AV) : Option AV := match a, b with
  | .int i, .int j => some (.bl (decide (j ≤ i)))
  | _, _ => none
def pIsN (a b : AV) : Option AV := match b with
  | .non => match a with
    | .non => some (.bl true)
    | .any => none
    | _ => some (.bl false)
  | _ => none
def pNotN (a b : AV) : Option AV := match b with
  | .non => match a with
    | .non => some (.bl false)
    | .any => none
    | _ => some (.bl true)
  | _ => none
theorem ifp_some {p : Prop} [Decidable p] {a z : AV} (h : (if p then some a else none) = some z) : p ∧ z = a := by
  by_cases hp : p
  · rw [if_pos hp] at h; cases h; exact ⟨hp, rfl⟩
  · rw [if_neg hp] at h; cases h
section
variable {X : Cx} {ct : CT} {β : BInv} {Ex : XK}
theorem rep_tupR {c0 : Gc} {g : G} {H : Hp} {xs : List AV} {v : V} (h : RepR c0 g H (.tup xs) v) : RepG c0 g H (.tup xs) v := by
  rcases h with h | ⟨ys, p, vs, e, _⟩
  · exact h
  · cases e
abbrev rAddA (K : PySem.W.Frag) : R2 := fun x y H Q => (((rI0 fun i j => .int (i + j)) x y H Q ∨ (∃ i j, x = .str i ∧ y = .str j ∧ i.length + j.length ≤ sizeLine ∧ Q (.str (i ++ j)) H)) ∨ rCatA K x y H Q) ∨ rCat x y H Q
theorem op_addA : OpR X (binaryOp .Add) (rAddA X.K) := ((op_add.or op_add_str).or op_catA).or op_cat
def Op2' (X : Cx) (ct : CT) (r : R2) (op : AV → AV → Option AV) : Prop := ∀ (g : G) (H : Hp) (a b z : AV) (x y : V) (Q : VK), (∀ p, g.Av p → H p ≠ none) → RepR (gc X ct) g H a x → RepR (gc X ct) g H b y → op a b = some z →
  (∀ v H', Same H H' → RepG (gc X ct) g H' z v → Q v H') → r x y H Q
theorem Op2.op' {r : R2} {o : AV → AV → Option AV} (h : Op2 X ct r o) : Op2' X ct r o := fun g H a b z x y Q _ => h g H a b z x y Q
theorem fBin_ok' {r : R2} {op : AV → AV → Option AV} {f k : Sem} (hop : Op2' X ct r op) {σ : L2.St} {H : Hp} {Q : VK} (h : rdE (gc X ct) β Ex (fBin op f k) σ H Q) :
    rdE (gc X ct) β Ex f σ H fun x H1 => rdE (gc X ct) β Ex k σ H1 fun y H2 => r x y H2 Q := by
  obtain ⟨g, ρ, R, h⟩ := h
  refine ⟨g, ρ, R, okT_mono (okT_bind h) fun g1 H1 p e1 h1 x R1 rx => ⟨g1, p.2, R1, okT_mono (okT_bind h1) fun g2 H2 q e2 h2 y R2 ry => ?_⟩⟩
  obtain ⟨a, ea, h3⟩ := okT_lift h2
  obtain ⟨b, eb, h4⟩ := okT_lift h3
  obtain ⟨z, ez, h5⟩ := okT_lift h4
  refine hop g2 H2 a b z x y Q (fun _ h => R2.avLive h) ((rx.ext e2).rs R2 ea) (ry.rs R2 eb) ez fun v H' s rv => ?_
  exact okT_ret' h5 (Ext.same s) v (R2.same s) rv
theorem j_bin' {op : Operator} {r : R2} {o : AV → AV → Option AV} {a b : Expr} {f k : Sem} {pos : Pos} (ho : OpR X (binaryOp op) r) (hop : Op2' X ct r o) (ha : JE X ct β Ex a f) (hb : JE X ct β Ex b k) : JE X ct β Ex (.BinOp a op b pos) (fBin o f k) :=
  PE.imp (pe_op ho ha hb) fun σ H Q h => fBin_ok' hop h
theorem reps_nil {c0 : Gc} {A D : Addr → Prop} {H : Hp} {xs : List AV} {vs : List V} (r : RepL c0 A D H xs vs) (h : vs = []) : xs = [] := by
  have := r.length
  rw [h] at this
  cases xs with
  | nil => rfl
  | cons _ _ => simp at this
theorem o_add : Op2' X ct (rAddA X.K) pAdd := by
  intro g H a b z x y Q live ra rb e q
  cases a <;> cases b <;> first | (simp [pAdd] at e; done) | skip
  · cases e
    exact .inl (.inl (.inl ⟨_, _, ra.int, rb.int, q _ H (Same.refl H) rep_int⟩))
  · obtain ⟨h, rfl⟩ := ifp_some e
    exact .inl (.inl (.inr ⟨_, _, ra.str, rb.str, Nat.le_trans h big_line, q _ H (Same.refl H) rep_str⟩))
  · obtain ⟨h, rfl⟩ := ifp_some e
    obtain ⟨a', vs, rfl, h1, r1⟩ := ra.tup
    obtain ⟨b', ws, rfl, h2, r2⟩ := rb.tup
    refine .inl (.inr ⟨a', b', vs, ws, rfl, rfl, h1, h2, ?_, fun hv => ?_, fun _ hw => ?_, fun _ _ p hp => ?_⟩)
    · rw [r1.length, r2.length]; exact Nat.le_trans h big_line
    · refine q _ H (Same.refl H) ?_
      rw [reps_nil r1 hv]
      exact rep_tupR rb
    · refine q _ H (Same.refl H) ?_
      rw [reps_nil r2 hw, List.append_nil]
      exact rep_tupR ra
    · have s := same_upd (o := .tup (vs ++ ws)) hp
      exact q _ _ s (rep_tup_new (fun z => live p z hp) upd_same ((Ext.same s).reps (r1.append r2)))
  · obtain ⟨h, rfl⟩ := ifp_some e
    obtain ⟨a', vs, rfl, h1, r1⟩ := ra.lst'
    obtain ⟨b', ws, rfl, h2, r2⟩ := rb.lst'
    refine .inr ⟨a', b', vs, ws, rfl, rfl, h1, h2, ?_, fun p hp => ?_⟩
    · rw [r1.length, r2.length]; exact Nat.le_trans h big_line
    · have s := same_upd (o := .lst (vs ++ ws)) hp
      exact q _ _ s (rep_lst_new (fun z => live p z hp) upd_same ((Ext.same s).reps (r1.append r2)))
theorem o_sub : Op2 X ct (rI0 fun i j => .int (i - j)) pSub := by
  intro g H a b z x y Q ra rb e q
  cases a <;> cases b <;> first | (simp [pSub] at e; done) | skip
  cases e
  exact ⟨_, _, ra.int, rb.int, q _ H (Same.refl H) rep_int⟩
theorem o_div : Op2 X ct (rI CDivW fun i j => .int (i / j)) pDiv := by
  intro g H a b z x y Q ra rb e q
  cases a <;> cases b <;> first | (simp [pDiv] at e; done) | skip
  obtain ⟨h, rfl⟩ := ifp_some e
  exact ⟨_, _, ra.int, rb.int, h, q _ H (Same.refl H) rep_int⟩
theorem o_mod : Op2 X ct (rI (fun _ j => 0 < j) fun i j => .int (i % j)) pMod := by
  intro g H a b z x y Q ra rb e q
  cases a <;> cases b <;> first | (simp [pMod] at e; done) | skip
  obtain ⟨h, rfl⟩ := ifp_some e
  exact ⟨_, _, ra.int, rb.int, h, q _ H (Same.refl H) rep_int⟩
theorem o_pow : Op2 X ct (rI CPow fun i j => .int (i ^ j.toNat)) pPow := by
  intro g H a b z x y Q ra rb e q
  cases a <;> cases b <;> first | (simp [pPow] at e; done) | skip
  obtain ⟨h, rfl⟩ := ifp_some e
  exact ⟨_, _, ra.int, rb.int, ⟨h.1, h.2.1, below_iff.mp h.2.2⟩, q _ H (Same.refl H) rep_int⟩
theorem o_lt : Op2p X ct (rI0 fun i j => .bl (decide (i < j))) pLt := by
  intro g H a b z x y Q ra rb e q
  cases a <;> cases b <;> first | (simp [pLt] at e; done) | skip
  cases e
  exact ⟨_, _, ra.int, rb.int, q _ rep_bl⟩
theorem o_le : Op2p X ct (rI0 fun i j => .bl (decide (i ≤ j))) pLe := by
  intro g H a b z x y Q ra rb e q
  cases a <;> cases b <;> first | (simp [pLe] at e; done) | skip
  cases e
  exact ⟨_, _, ra.int, rb.int, q _ rep_bl⟩
theorem o_gt : Op2p X ct (rI0 fun i j => .bl (decide (j < i))) pGt := by
  intro g H a b z x y Q ra rb e q
  cases a <;> cases b <;> first | (simp [pGt] at e; done) | skip
  cases e
  exact ⟨_, _, ra.int, rb.int, q _ rep_bl⟩
theorem o_ge : Op2p X ct (rI0 fun i j => .bl (decide (j ≤ i))) pGe := by
  intro g H a b z x y Q ra rb e q
  cases a <;> cases b <;> first | (simp [pGe] at e; done) | skip
  cases e
  exact ⟨_, _, ra.int, rb.int, q _ rep_bl⟩
def isNon : AV → Bool
  | .non => true
  | _ => false
theorem repR_ref {c0 : Gc} {g : G} {H : Hp} {t : AV} {v : V} (h : RepR c0 g H t v) (ha : t ≠ .any) : decide (v = .non) = isNon t := by
  cases t with
  | non => have e := h.non; subst e; rfl
  | bl _ => have e := h.bl; subst e; rfl
  | int _ => have e := h.int; subst e; rfl
  | str _ => have e := h.str; subst e; rfl
  | tup _ => obtain ⟨a, vs, rfl, _⟩ := h.tup; rfl
  | lst _ => obtain ⟨a, vs, rfl, _⟩ := h.lst; rfl
  | ins _ _ => have h := h.ins; rw [RepG, Rep] at h; obtain ⟨a, _, _, _, rfl, _⟩ := h; rfl
  | box =>
    rcases h with h | ⟨_, _, _, e, _⟩
    · rw [RepG, Rep] at h; obtain ⟨a, rfl, _⟩ := h; rfl
    · cases e
  | scr _ =>
    rcases h with h | ⟨_, _, _, e, _⟩
    · rw [RepG, Rep] at h; obtain ⟨a, rfl, _⟩ := h; rfl
    · cases e
  | dic _ _ =>
    rcases h with h | ⟨_, _, _, e, _⟩
    · rw [RepG, Rep] at h; obtain ⟨a, _, rfl, _⟩ := h; rfl
    · cases e
  | dct _ _ =>
    rcases h with h | ⟨_, _, _, e, _⟩
    · rw [RepG, Rep] at h; obtain ⟨a, _, rfl, _⟩ := h; rfl
    · cases e
  | any => exact absurd rfl ha
theorem o_isN : Op2p X ct (fun x y H Q => y = .non ∧ Q (.bl (decide (x = .non))) H) pIsN := by
  intro g H a b z x y Q ra rb e q
  cases b <;> first | (simp [pIsN] at e; done) | skip
  refine ⟨rb.non, ?_⟩
  rw [repR_ref ra (fun z => by subst z; cases e)]
  cases a <;> (cases e; try exact q _ rep_bl)
theorem o_notN : Op2p X ct (fun x y H Q => y = .non ∧ Q (.bl (!decide (x = .non))) H) pNotN := by
  intro g H a b z x y Q ra rb e q
  cases b <;> first | (simp [pNotN] at e; done) | skip
  refine ⟨rb.non, ?_⟩
  rw [repR_ref ra (fun z => by subst z; cases e)]
  cases a <;> (cases e; try exact q _ rep_bl)
end
end Dn
set_option Elab.async false
set_option linter.all false
set_option maxRecDepth 100000
namespace Dn
open PySem PySem.Spec PyProof.Rows L2
def Op1' (X : Cx) (ct : CT) (r : V → Hp → VK → Prop) (op : AV → Option AV) : Prop := ∀ (g : G) (H : Hp) (a z : AV) (x : V) (Q : VK), (∀ p, g.Av p → H p ≠ none) → RepR (gc X ct) g H a x → op a = some z →
  (∀ v H', Same H H' → RepG (gc X ct) g H' z v → Q v H') → r x H Q
section
variable {X : Cx} {ct : CT} {β : BInv} {Ex : XK} {a b : Expr} {f k : Sem} {pos p : Pos} {x : Str} {id ty : String}
theorem Op1.op' {r : V → Hp → VK → Prop} {o : AV → Option AV} (h : Op1 X ct r o) : Op1' X ct r o := fun g H a z x Q _ => h g H a z x Q
theorem fUn_ok' {r : V → Hp → VK → Prop} {op : AV → Option AV} (hop : Op1' X ct r op) {σ : L2.St} {H : Hp} {Q : VK} (h : rdE (gc X ct) β Ex (fUn op f) σ H Q) :
    rdE (gc X ct) β Ex f σ H fun x H1 => r x H1 Q := by
  obtain ⟨g, ρ, R, h⟩ := h
  refine ⟨g, ρ, R, okT_mono (okT_bind h) fun g1 H1 p e1 h1 x R1 rx => ?_⟩
  obtain ⟨a, ea, h3⟩ := okT_lift h1
  obtain ⟨z, ez, h5⟩ := okT_lift h3
  refine hop g1 H1 a z x Q (fun _ h => R1.avLive h) (rx.rs R1 ea) ez fun v H' s rv => ?_
  exact okT_ret' h5 (Ext.same s) v (R1.same s) rv
theorem j_callB {r : List V → Hp → VK → Prop} {o : AV → Option AV} (hc : CallR X (.builtin id) r) (hop : Op1' X ct (fun x H Q => r [x] H Q) o) (hg : Gl X x) (hm : X.mg x = none) (hv : bootBuiltins x = some (.builtin id)) (ha : JE X ct β Ex a f)
    (hn : x ≠ "__name__" := by decide +kernel) (hdb : (x == ("__debug__" : Str)) = false := by decide +kernel) (he : starEach [a] X.env = (false, eval a X.env) :: starEach [] X.env := by rfl) : JE X ct β Ex (.Call (.Name x p) [a] [] pos) (fUn o f) := by
  refine PE.imp (pe_callB hc hg hm hv (pa_cons ha pa_nil he) hn hdb he) fun σ H Q h => ?_
  exact fUn_ok' hop h
theorem j_callTy {r : List V → Hp → VK → Prop} {o : AV → Option AV} (hc : CallR X (.type ty) r) (hop : Op1' X ct (fun x H Q => r [x] H Q) o) (hg : Gl X x) (hm : X.mg x = none) (hv : bootBuiltins x = some (.type ty)) (ha : JE X ct β Ex a f)
    (hn : x ≠ "__name__" := by decide +kernel) (hdb : (x == ("__debug__" : Str)) = false := by decide +kernel) (he : starEach [a] X.env = (false, eval a X.env) :: starEach [] X.env := by rfl) : JE X ct β Ex (.Call (.Name x p) [a] [] pos) (fUn o f) := by
  refine PE.imp (pe_callTy hc hg hm hv (pa_cons ha pa_nil he) hn hdb he) fun σ H Q h => ?_
  exact fUn_ok' hop h
theorem j_callB2 {r : List V → Hp → VK → Prop} {o : AV → AV → Option AV} (hc : CallR X (.builtin id) r) (hop : Op2' X ct (fun x y H Q => r [x, y] H Q) o) (hg : Gl X x) (hm : X.mg x = none) (hv : bootBuiltins x = some (.builtin id)) (ha : JE X ct β Ex a f) (hb : JE X ct β Ex b k)
    (hn : x ≠ "__name__" := by decide +kernel) (hdb : (x == ("__debug__" : Str)) = false := by decide +kernel) (he : starEach [a, b] X.env = (false, eval a X.env) :: starEach [b] X.env := by rfl) (he2 : starEach [b] X.env = (false, eval b X.env) :: starEach [] X.env := by rfl)
    (hpl : (backTo pos (starEach [b] X.env)).any (·.1) = false := by rfl) : JE X ct β Ex (.Call (.Name x p) [a, b] [] pos) (fBin o f k) := by
  refine PE.imp (pe_callB hc hg hm hv (pa_cons ha (pa_cons hb pa_nil he2) he) hn hdb he hpl) fun σ H Q h => ?_
  exact fBin_ok' hop h
theorem RepR.scr {c0 : Gc} {g : G} {H : Hp} {ns : List Int} {v : V} (h : RepR c0 g H (.scr ns) v) : ∃ a, v = .ref a ∧ SqL c0.K H a (ns.map V.int) := by
  rcases h with h | ⟨_, _, _, e, _⟩
  · rw [RepG, Rep] at h
    obtain ⟨a, rfl, q⟩ := h
    exact ⟨a, rfl, q.sq⟩
  · cases e
def strAt (s : Str) (i : Int) : Option AV := if s.length ≤ big then (atI s.cps.toList i).map fun c => .str ⟨#[c]⟩ else none
def pIx (a b : AV) : Option AV := match b with
  | .int i => match a with
    | .tup xs => atI xs i
    | .lst xs => atI xs i
    | .str s => strAt s i
    | .scr ns => atI (ns.map AV.int) i
    | _ => none
  | _ => none
theorem atI_rep {c0 : Gc} {A D : Addr → Prop} {H : Hp} {xs : List AV} {vs : List V} {i : Int} {t : AV} (r : RepL c0 A D H xs vs) (h : atI xs i = some t) : ∃ v, atI vs i = some v ∧ Rep c0 A D H t v := by
  unfold atI at h ⊢
  rw [r.length]
  cases e : ixN xs.length i with
  | none => rw [e] at h; cases h
  | some j =>
    rw [e] at h
    exact r.get' (i := j) h
theorem o_ix : Op2 X ct (rIx X.K) pIx := by
  intro g H a b z x y Q ra rb e q
  cases b with
  | int i =>
    have hy := rb.int
    cases a with
    | tup xs =>
      obtain ⟨p, vs, rfl, h1, r⟩ := ra.tup
      obtain ⟨v, e1, r1⟩ := atI_rep r (show atI xs i = some z from e)
      exact .inr (.inl ⟨p, vs, i, v, rfl, hy, h1, e1, q v H (Same.refl H) r1⟩)
    | lst xs =>
      obtain ⟨p, vs, rfl, h1, r⟩ := ra.lst
      obtain ⟨v, e1, r1⟩ := atI_rep r (show atI xs i = some z from e)
      exact .inl ⟨p, vs, i, v, rfl, hy, h1, e1, q v H (Same.refl H) r1⟩
    | str s =>
      have hx := ra.str
      have e : strAt s i = some z := e
      unfold strAt at e
      by_cases hs : s.length ≤ big
      · rw [if_pos hs] at e
        cases e1 : atI s.cps.toList i with
        | none => rw [e1] at e; cases e
        | some c =>
          rw [e1] at e
          cases e
          exact .inr (.inr ⟨s, i, c, hx, hy, Nat.le_trans hs big_line, e1, q _ H (Same.refl H) rep_str⟩)
      · rw [if_neg hs] at e; cases e
    | scr ns =>
      obtain ⟨p, rfl, h1⟩ := ra.scr
      obtain ⟨v, e1, r1⟩ := atI_rep (RepL.ints' (c0 := gc X ct) (A := g.Av) (D := g.D) (H := H) ns) (show atI (ns.map AV.int) i = some z from e)
      exact .inl ⟨p, _, i, v, rfl, hy, h1, e1, q v H (Same.refl H) r1⟩
    | _ => cases e
  | _ => cases e
theorem j_ix (ha : JE X ct β Ex a f) (hb : JE X ct β Ex b k) (hs : PlainIx b := by exact fun _ _ => rfl) : JE X ct β Ex (.Subscript a b pos) (fBin pIx f k) :=
  PE.imp (pe_ix ix_seq ha hb hs) fun σ H Q h => fBin_ok o_ix h
def cutA (xs : List AV) (lo hi : Option Int) : List AV := (xs.drop (HT.sIx xs.length 0 lo)).take (HT.sIx xs.length xs.length hi - HT.sIx xs.length 0 lo)
def intOf : AV → Option Int
  | .int i => some i
  | _ => none
def fPart : Option Sem → Env' → T (Option Int × Env')
  | none, ρ => .ret (none, ρ)
  | some f, ρ => (f ρ).bind fun p => (lift (rs p.1 p.2)).bind fun a => (lift (intOf a)).bind fun i => .ret (some i, p.2)
def pCut (a : AV) (lo hi : Option Int) : Option AV := match a with
  | .tup xs => some (.tup (cutA xs lo hi))
  | .lst xs => some (.lst (cutA xs lo hi))
  | .scr ns => some (.lst (cutA (ns.map AV.int) lo hi))
  | _ => none
def fSl (f : Sem) (l h : Option Sem) : Sem := fun ρ => (f ρ).bind fun p => (fPart l p.2).bind fun q => (fPart h q.2).bind fun r => (lift (rs p.1 r.2)).bind fun a => (lift (pCut a q.1 r.1)).bind fun z => .ret (.val z, r.2)
def rdO (c0 : Gc) (β : BInv) (Ex : XK) (f : Env' → T (Option Int × Env')) : TO := fun σ H Q => ∃ g ρ, Rel c0 β g ρ σ H ∧ okT c0 β Ex g H (f ρ) fun g' H' p => Rel c0 β g' p.2 σ H' → Q p.1 H'
def JO (X : Cx) (ct : CT) (β : BInv) (Ex : XK) (e : Option Expr) (f : Option Sem) : Prop := PO X e (rdO (gc X ct) β Ex (fPart f))
theorem PO.imp {X : Cx} {e : Option Expr} {t t' : TO} (h : PO X e t) (i : ∀ σ H Q, t' σ H Q → t σ H Q) : PO X e t' := ⟨fun pins s σ H Q I q => h.run pins s σ H Q I (i σ H Q q)⟩
theorem intOf_eq {t : AV} {i : Int} (h : intOf t = some i) : t = .int i := by
  cases t with
  | int j => cases h; rfl
  | _ => cases h
theorem jo_none : JO X ct β Ex none none := PO.imp po_none fun σ H Q h => by
  obtain ⟨g, ρ, R, h⟩ := h
  exact okT_ret h R
theorem jo_some (ha : JE X ct β Ex a f) : JO X ct β Ex (some a) (some f) := PO.imp (po_some ha) fun σ H Q h => by
  obtain ⟨g, ρ, R, h⟩ := h
  refine ⟨g, ρ, R, okT_mono (okT_bind h) fun g1 H1 p e1 h1 x R1 rx => ?_⟩
  obtain ⟨u, eu, h2⟩ := okT_lift h1
  obtain ⟨i, ei, h3⟩ := okT_lift h2
  have := intOf_eq ei
  subst this
  exact ⟨i, (rx.rs R1 eu).int, okT_ret h3 R1⟩
theorem cut_rep {c0 : Gc} {A D : Addr → Prop} {H : Hp} {xs : List AV} {vs : List V} {lo hi : Option Int} (r : RepL c0 A D H xs vs) : RepL c0 A D H (cutA xs lo hi) (cutV vs lo hi) := by
  unfold cutA cutV
  rw [r.length]
  exact (r.drop _).take _
theorem cutA_whole {xs : List AV} {lo hi : Option Int} (h : HT.sIx xs.length 0 lo = 0 ∧ HT.sIx xs.length xs.length hi = xs.length) : cutA xs lo hi = xs := by
  unfold cutA
  rw [h.1, h.2]
  simp
theorem j_sl {l h : Option Expr} {fl fh : Option Sem} {p2 : Pos} (ha : JE X ct β Ex a f) (hl : JO X ct β Ex l fl) (hh : JO X ct β Ex h fh) : JE X ct β Ex (.Subscript a (.Slice l h none p2) pos) (fSl f fl fh) := by
  refine PE.imp (pe_slice (sl_list.or sl_tupA) ha hl hh) fun σ H Q h => ?_
  obtain ⟨g, ρ, R, h⟩ := h
  refine ⟨g, ρ, R, okT_mono (okT_bind h) fun g1 H1 p e1 h1 x R1 rx => ⟨g1, p.2, R1, okT_mono (okT_bind h1) fun g2 H2 q e2 h2 R2 => ⟨g2, q.2, R2, okT_mono (okT_bind h2) fun g3 H3 r e3 h3 R3 => ?_⟩⟩⟩
  obtain ⟨u, eu, h4⟩ := okT_lift h3
  obtain ⟨z, ez, h5⟩ := okT_lift h4
  have ru := (rx.ext (e2.trans e3)).rs R3 eu
  cases u with
  | tup xs =>
    cases ez
    have rg := rep_tupR ru
    obtain ⟨a, vs, rfl, h1, rv⟩ := ru.tup
    refine .inr ⟨a, vs, rfl, h1, fun hw => ?_, fun _ p hp => ?_⟩
    · rw [rv.length] at hw
      refine okT_ret h5 _ R3 (show RepG (gc X ct) g3 H3 (.tup (cutA xs q.1 r.1)) (.ref a) from ?_)
      rw [cutA_whole hw]
      exact rg
    · have s := same_upd (o := .tup (cutV vs q.1 r.1)) hp
      exact okT_ret' h5 (Ext.same s) _ (R3.same s) (show RepG (gc X ct) g3 _ _ _ from rep_tup_new (R3.freshAv hp) upd_same ((Ext.same s).reps (cut_rep rv)))
  | lst xs =>
    cases ez
    obtain ⟨a, vs, rfl, h1, rv⟩ := ru.lst
    refine .inl ⟨a, vs, rfl, h1, fun p hp => ?_⟩
    have s := same_upd (o := .lst (cutV vs q.1 r.1)) hp
    exact okT_ret' h5 (Ext.same s) _ (R3.same s) (show RepG (gc X ct) g3 _ _ _ from rep_lst_new (R3.freshAv hp) upd_same ((Ext.same s).reps (cut_rep rv)))
  | scr ns =>
    cases ez
    obtain ⟨a, rfl, h1⟩ := ru.scr
    refine .inl ⟨a, _, rfl, h1, fun p hp => ?_⟩
    have s := same_upd (o := .lst (cutV (ns.map V.int) q.1 r.1)) hp
    exact okT_ret' h5 (Ext.same s) _ (R3.same s) (show RepG (gc X ct) g3 _ _ _ from rep_lst_new (R3.freshAv hp) upd_same ((Ext.same s).reps (cut_rep (RepL.ints' ns))))
  | _ => cases ez
def pFld (c i : Nat) (a : AV) : Option AV := match a with
  | .ins c' xs => if c' = c then xs[i]? else none
  | _ => none
structure FldOk (X : Cx) (ct : CT) (c i : Nat) (f : Str) : Prop where
  at_ : (ct c).2[i]? = some f
  nd : (ct c).2.Nodup
  cls : ∀ C, X.mg (ct c).1 = some (.ref C) → Cls X.K C ∧ NoAttr X.K C f
theorem lookup_zip : ∀ {fl : List Str} {vs : List V} {i : Nat} {f : Str} {v : V}, fl.Nodup → fl[i]? = some f → vs[i]? = some v → (fl.zip vs).lookup f = some v
  | [], _, _, _, _, _, h, _ => by simp at h
  | _ :: _, [], _, _, _, _, _, h => by simp at h
  | g :: fl, w :: vs, 0, f, v, _, h, h' => by
    simp at h h'
    subst h h'
    simp [List.lookup]
  | g :: fl, w :: vs, i + 1, f, v, nd, h, h' => by
    have h1 : fl[i]? = some f := by simpa using h
    have h2 : vs[i]? = some v := by simpa using h'
    have ne : f ≠ g := fun e => (List.nodup_cons.mp nd).1 (e ▸ List.mem_of_getElem? h1)
    have hb : (f == g) = false := beq_eq_false_iff_ne.mpr ne
    simp only [List.zip_cons_cons, List.lookup, hb]
    exact lookup_zip (List.nodup_cons.mp nd).2 h1 h2
theorem j_fld {c i : Nat} {n : Str} (F : FldOk X ct c i n) (ha : JE X ct β Ex a f) (hb : attributeBase a n X.env (eval a X.env) = eval a X.env := by rfl) : JE X ct β Ex (.Attribute a n pos) (fUn (pFld c i) f) := by
  refine PE.imp (pe_fld ha hb) fun σ H Q h => ?_
  refine fUn_ok' (r := fun x H1 Q => ∃ a C dx fs v, x = .ref a ∧ H1 a = some (.ins C dx fs) ∧ Cls X.K C ∧ NoAttr X.K C n ∧ fs.lookup n = some v ∧ Q v H1) (fun g H a z x Q _ ra e q => ?_) h
  cases a with
  | ins c' xs =>
    have e' : (if c' = c then xs[i]? else none) = some z := e
    clear e
    by_cases hc : c' = c
    · rw [if_pos hc] at e'
      subst hc
      have ra := ra.ins
      rw [RepG, Rep] at ra
      obtain ⟨a, C, dx, vs, rfl, na, hm, ho, hl, r⟩ := ra
      obtain ⟨v, ev, rv⟩ := r.get' e'
      obtain ⟨k1, k2⟩ := F.cls C hm
      exact ⟨a, C, dx, _, v, rfl, ho, k1, k2, lookup_zip F.nd F.at_ ev, q v H (Same.refl H) rv⟩
    · rw [if_neg hc] at e'; cases e'
  | _ => cases e
end
def intsOf : List AV → Option (List Int)
  | [] => some []
  | .int i :: xs => (intsOf xs).map fun r => i :: r
  | _ :: _ => none
def bsOf : List AV → Option (List Bool)
  | [] => some []
  | .bl i :: xs => (bsOf xs).map fun r => i :: r
  | _ :: _ => none
theorem intsOf_eq : ∀ {xs : List AV} {ns : List Int}, intsOf xs = some ns → xs = ns.map AV.int
  | [], ns, h => by cases h; rfl
  | .int i :: xs, ns, h => by
    unfold intsOf at h
    cases e : intsOf xs with
    | none => rw [e] at h; cases h
    | some r => rw [e] at h; cases h; rw [intsOf_eq e]; rfl
  | .non :: _, _, h => by cases h
  | .bl _ :: _, _, h => by cases h
  | .str _ :: _, _, h => by cases h
  | .tup _ :: _, _, h => by cases h
  | .lst _ :: _, _, h => by cases h
  | .ins _ _ :: _, _, h => by cases h
  | .box :: _, _, h => by cases h
  | .scr _ :: _, _, h => by cases h
  | .dic _ _ :: _, _, h => by cases h
  | .dct _ _ :: _, _, h => by cases h
  | .any :: _, _, h => by cases h
theorem bsOf_eq : ∀ {xs : List AV} {ns : List Bool}, bsOf xs = some ns → xs = ns.map AV.bl
  | [], ns, h => by cases h; rfl
  | .bl i :: xs, ns, h => by
    unfold bsOf at h
    cases e : bsOf xs with
    | none => rw [e] at h; cases h
    | some r => rw [e] at h; cases h; rw [bsOf_eq e]; rfl
  | .non :: _, _, h => by cases h
  | .int _ :: _, _, h => by cases h
  | .str _ :: _, _, h => by cases h
  | .tup _ :: _, _, h => by cases h
  | .lst _ :: _, _, h => by cases h
  | .ins _ _ :: _, _, h => by cases h
  | .box :: _, _, h => by cases h
  | .scr _ :: _, _, h => by cases h
  | .dic _ _ :: _, _, h => by cases h
  | .dct _ _ :: _, _, h => by cases h
  | .any :: _, _, h => by cases h
theorem reps_ints {c0 : Gc} {A D : Addr → Prop} {H : Hp} {ns : List Int} {vs : List V} (r : RepL c0 A D H (ns.map AV.int) vs) : vs = ns.map V.int := r.ints
theorem reps_bls {c0 : Gc} {A D : Addr → Prop} {H : Hp} : ∀ {bs : List Bool} {vs : List V}, RepL c0 A D H (bs.map AV.bl) vs → vs = bs.map V.bl
  | [], _, h => by simpa [RepL] using h
  | n :: ns, vs, h => by
    rw [List.map_cons, RepL] at h
    obtain ⟨v, r, e, h1, h2⟩ := h
    rw [Rep] at h1
    rw [e, h1, reps_bls h2]
    rfl
def pLen (a : AV) : Option AV := match a with
  | .tup xs => some (.int xs.length)
  | .lst xs => some (.int xs.length)
  | .scr xs => some (.int xs.length)
  | .str s => if s.length ≤ big then some (.int s.length) else none
  | _ => none
def pInt (a : AV) : Option AV := match a with
  | .int i => some (.int i)
  | .bl b => some (.int (if b then 1 else 0))
  | _ => none
def pAbs (a : AV) : Option AV := match a with
  | .int i => some (.int (if i < 0 then -i else i))
  | _ => none
def pStr (a : AV) : Option AV := match a with
  | .int i => if i.natAbs.log2 < 1920 then some (.str (toString i)) else none
  | _ => none
def pList (a : AV) : Option AV := match a with
  | .tup xs => some (.lst xs)
  | .lst xs => some (.lst xs)
  | _ => none
def pTuple (a : AV) : Option AV := match a with
  | .tup xs => some (.tup xs)
  | .lst xs => some (.tup xs)
  | _ => none
def pAll (a : AV) : Option AV := match a with
  | .lst xs => (bsOf xs).map fun bs => .bl (bs.all id)
  | _ => none
def pAny (a : AV) : Option AV := match a with
  | .lst xs => (bsOf xs).map fun bs => .bl (bs.any id)
  | _ => none
def pSum (a : AV) : Option AV := match a with
  | .lst xs => (intsOf xs).map fun bs => .int bs.sum
  | _ => none
def pMax2 (a b : AV) : Option AV := match a, b with
  | .int i, .int j => some (.int (if j > i then j else i))
  | _, _ => none
def pMin2 (a b : AV) : Option AV := match a, b with
  | .int i, .int j => some (.int (if j < i then j else i))
  | _, _ => none
def pDivmod (a b : AV) : Option AV := match a, b with
  | .int i, .int j => if 0 < j ∧ below j 29 = true then some (.tup [.int (i / j), .int (i % j)]) else none
  | _, _ => none
section
variable {X : Cx} {ct : CT} {β : BInv} {Ex : XK}
theorem o_len : Op1' X ct (fun x H Q => ∃ y n, [x] = [y] ∧ LenV X.K y H n ∧ Q (.int n) H) pLen := by
  intro g H a z x Q live ra e q
  cases a with
  | tup xs =>
    cases e
    obtain ⟨p, vs, rfl, h1, r⟩ := ra.tup
    exact ⟨_, _, rfl, .inr ⟨vs, h1, r.length.symm⟩, q _ H (Same.refl H) rep_int⟩
  | lst xs =>
    cases e
    obtain ⟨p, vs, rfl, h1, r⟩ := ra.lst
    exact ⟨_, _, rfl, .inl ⟨vs, h1, r.length.symm⟩, q _ H (Same.refl H) rep_int⟩
  | scr xs =>
    cases e
    obtain ⟨p, rfl, h1⟩ := ra.scr
    exact ⟨_, _, rfl, .inl ⟨_, h1, (List.length_map _).symm⟩, q _ H (Same.refl H) rep_int⟩
  | str s =>
    obtain ⟨h, rfl⟩ := ifp_some e
    have hx := ra.str
    subst hx
    exact ⟨_, _, rfl, ⟨Nat.le_trans h big_line, rfl⟩, q _ H (Same.refl H) rep_int⟩
  | _ => cases e
theorem o_int : Op1' X ct (fun x H Q => (∃ i, [x] = [V.int i] ∧ Q (.int i) H) ∨ ∃ k, [x] = [V.bl k] ∧ Q (.int (if k then 1 else 0)) H) pInt := by
  intro g H a z x Q live ra e q
  cases a with
  | int i => cases e; exact .inl ⟨i, by rw [ra.int], q _ H (Same.refl H) rep_int⟩
  | bl b => cases e; exact .inr ⟨b, by rw [ra.bl], q _ H (Same.refl H) rep_int⟩
  | _ => cases e
theorem o_abs : Op1' X ct (fun x H Q => ∃ i, [x] = [V.int i] ∧ Q (.int (if i < 0 then -i else i)) H) pAbs := by
  intro g H a z x Q live ra e q
  cases a with
  | int i => cases e; exact ⟨i, by rw [ra.int], q _ H (Same.refl H) rep_int⟩
  | _ => cases e
theorem o_tuple : Op1' X ct (fun x H Q => ∃ p ys, [x] = [V.ref p] ∧ ((SqL X.K H p ys ∧ ∀ l, H l = none → Q (.ref l) (upd H l (.tup ys))) ∨ (SqT X.K H p ys ∧ Q (.ref p) H))) pTuple := by
  intro g H a z x Q live ra e q
  cases a with
  | tup xs =>
    cases e
    have rg := rep_tupR ra
    obtain ⟨p, vs, rfl, h1, r⟩ := ra.tup
    exact ⟨p, vs, rfl, .inr ⟨h1, q _ H (Same.refl H) rg⟩⟩
  | lst xs =>
    cases e
    obtain ⟨p, vs, rfl, h1, r⟩ := ra.lst
    refine ⟨p, vs, rfl, .inl ⟨h1, fun l hl => ?_⟩⟩
    have s := same_upd (o := .tup vs) hl
    exact q _ _ s (rep_tup_new (fun z => live l z hl) upd_same ((Ext.same s).reps r))
  | _ => cases e
theorem map_some {α : Type} {o : Option α} {f : α → AV} {z : AV} (h : o.map f = some z) : ∃ a, o = some a ∧ z = f a := by
  cases o with
  | none => cases h
  | some a => cases h; exact ⟨a, rfl, rfl⟩
theorem o_all : Op1' X ct (fun x H Q => rAll X.K [x] H Q) pAll := by
  intro g H a z x Q live ra e q
  cases a with
  | lst xs =>
    obtain ⟨bs, e1, rfl⟩ := map_some e
    rw [bsOf_eq e1] at ra
    obtain ⟨p, vs, rfl, h1, r⟩ := ra.lst
    rw [reps_bls r] at h1
    exact ⟨p, bs, rfl, h1, q _ H (Same.refl H) rep_bl⟩
  | _ => cases e
theorem o_any : Op1' X ct (fun x H Q => rAny X.K [x] H Q) pAny := by
  intro g H a z x Q live ra e q
  cases a with
  | lst xs =>
    obtain ⟨bs, e1, rfl⟩ := map_some e
    rw [bsOf_eq e1] at ra
    obtain ⟨p, vs, rfl, h1, r⟩ := ra.lst
    rw [reps_bls r] at h1
    exact ⟨p, bs, rfl, h1, q _ H (Same.refl H) rep_bl⟩
  | _ => cases e
theorem o_sum : Op1' X ct (fun x H Q => rSum X.K [x] H Q) pSum := by
  intro g H a z x Q live ra e q
  cases a with
  | lst xs =>
    obtain ⟨bs, e1, rfl⟩ := map_some e
    rw [intsOf_eq e1] at ra
    obtain ⟨p, vs, rfl, h1, r⟩ := ra.lst
    rw [reps_ints r] at h1
    exact ⟨p, bs, rfl, h1, q _ H (Same.refl H) rep_int⟩
  | _ => cases e
theorem o_max2 : Op2' X ct (fun x y H Q => ∃ i j, [x, y] = [V.int i, .int j] ∧ Q (.int (if j > i then j else i)) H) pMax2 := by
  intro g H a b z x y Q live ra rb e q
  cases a <;> cases b <;> first | (simp [pMax2] at e; done) | skip
  cases e
  exact ⟨_, _, by rw [ra.int, rb.int], q _ H (Same.refl H) rep_int⟩
theorem o_min2 : Op2' X ct (fun x y H Q => ∃ i j, [x, y] = [V.int i, .int j] ∧ Q (.int (if j < i then j else i)) H) pMin2 := by
  intro g H a b z x y Q live ra rb e q
  cases a <;> cases b <;> first | (simp [pMin2] at e; done) | skip
  cases e
  exact ⟨_, _, by rw [ra.int, rb.int], q _ H (Same.refl H) rep_int⟩
end
end Dn
set_option Elab.async false
set_option linter.all false
set_option maxRecDepth 100000
namespace Dn
open PySem PySem.Spec PyProof.Rows L2
def spM (c0 : Gc) (β : BInv) (n : Nat) (fn : List AV → T AV) : Sp := fun vs H Q E => ∃ (g : G) (ts : List AV), (∀ i, g.own i = none) ∧ (∀ a, g.M a → H a ≠ none ∧ ∀ ws, H a ≠ some (.tup ws)) ∧ (∀ a, g.M a → ¬ g.B a) ∧ β.I g.B g.D H ∧ RepsG c0 g H ts vs ∧ ts.length = n ∧
  okT c0 β E g H (fn ts) fun g' H' t => ∀ v, β.I g'.B g'.D H' → RepG c0 g' H' t v → Q v H'
def G.down (g : G) : G := { g with M := fun a => g.M a ∨ ∃ i, g.own i = some a, own := fun _ => none }
theorem down_av {g : G} {a : Addr} : g.down.Av a ↔ g.Av a := by
  unfold G.Av G.down
  constructor
  · rintro ((h | h) | ⟨i, h⟩ | h)
    · exact .inl h
    · exact .inr (.inl h)
    · cases h
    · exact .inr (.inr h)
  · rintro (h | h | h)
    · exact .inl (.inl h)
    · exact .inl (.inr h)
    · exact .inr (.inr h)
def G.up (g g1 : G) : G := { g with B := g1.B, D := g1.D }
section
variable {c0 : Gc} {β : BInv} {Ex : XK} {g g1 : G} {H H1 : Hp} {ρ : Env'} {σ : L2.St}
theorem down_ext (R : Rel c0 β g ρ σ H) (e : Ext g.down g1 H H1) : Ext g (g.up g1) H H1 where
  keep := fun a o h hn hb => e.keep a o h (fun i z => by cases z) hb
  live := e.live
  m := rfl
  bsub := e.bsub
  bnew := e.bnew
  dsub := e.dsub
  own := fun i a h => .inl ⟨i, h⟩
  s := rfl
theorem down_rep (e : Ext g.down g1 H H1) {t : AV} {v : V} (h : RepG c0 g1 H1 t v) : RepG c0 (g.up g1) H1 t v := h.imp (fun a o q na => ⟨q, fun z => na (by
  rcases z with z | ⟨i, z⟩ | z
  · exact .inl (by rw [e.m]; exact .inl z)
  · exact .inl (by rw [e.m]; exact .inr ⟨i, z⟩)
  · exact .inr (.inr z))⟩) fun _ h => h
theorem down_reps (e : Ext g.down g1 H H1) {t : List AV} {v : List V} (h : RepsG c0 g1 H1 t v) : RepsG c0 (g.up g1) H1 t v := h.imp (fun a o q na => ⟨q, fun z => na (by
  rcases z with z | ⟨i, z⟩ | z
  · exact .inl (by rw [e.m]; exact .inl z)
  · exact .inl (by rw [e.m]; exact .inr ⟨i, z⟩)
  · exact .inr (.inr z))⟩) fun _ h => h
theorem reps_down {t : List AV} {v : List V} (h : RepsG c0 g H t v) : RepsG c0 g.down H t v := h.imp (fun a o q na => ⟨q, fun z => na (down_av.mp z)⟩) fun _ h => h
theorem down_rel (R : Rel c0 β g ρ σ H) (e : Ext g.down g1 H H1) (hb : β.I g1.B g1.D H1) : Rel c0 β (g.up g1) ρ σ H1 :=
  R.step (down_ext R e) rfl (fun i a o h1 h2 => e.keep a o h2 (fun i z => by cases z) (R.sep i a h1).2) hb
theorem sp_call {n : Nat} {fn : List AV → T AV} {ts : List AV} {vs : List V} {Q : VK} (R : Rel c0 β g ρ σ H) (r : RepsG c0 g H ts vs) (hn : ts.length = n)
    (h : okT c0 β Ex g H (fn ts) fun g' H' t => ∀ v, Rel c0 β g' ρ σ H' → RepG c0 g' H' t v → Q v H') : spM c0 β n fn vs H Q Ex := by
  refine ⟨g.down, ts, fun _ => rfl, fun a h => ?_, fun a h => ?_, R.box, reps_down r, hn, ?_⟩
  · have h : g.Av a := h.elim .inl fun h => .inr (.inl h)
    exact ⟨R.avLive h, R.avNt h⟩
  · rcases h with h | ⟨i, h⟩
    · exact R.mb a h
    · exact (R.sep i a h).2
  · refine T.all_mono h (fun t q g1 H1 e v hb rv => q _ _ (down_ext R e) v (down_rel R e hb) (down_rep e rv)) fun c xs q g1 H1 C d ws e hb hm hd hl rv => ?_
    exact q _ _ C d ws (down_ext R e) hb hm hd hl (down_reps e rv)
end
def Deft (c0 : Gc) (ts : List AV) (vs : List V) : Prop := ∀ g H, RepsG c0 g H ts vs
def fCall (fn : List AV → T AV) (dts : List AV) (k : SemL) : Sem := fun ρ => (k ρ).bind fun p => (fn (p.1 ++ dts)).bind fun t => .ret (.val t, p.2)
section
variable {X : Cx} {ct : CT} {β : BInv} {Ex : XK} {a b e : Expr} {es : List Expr} {f k : Sem} {m : SemL} {pos p apos : Pos} {x : Str} {lv n : Nat} {fa C : Addr} {fd : FuncData} {ps : List Str} {fn : List AV → T AV} {ds : List Value} {dvs : List V} {dts : List AV}
theorem fCall_ok {σ : L2.St} {H : Hp} {Q : VK} (hd : Deft (gc X ct) dts dvs) (hn : ∀ ts : List AV, T.all (fun _ => True) (fun _ _ => True) (fn ts) → ts.length = n) (h : rdE (gc X ct) β Ex (fCall fn dts m) σ H Q) :
    rdL (gc X ct) β Ex m σ H fun vs H1 => spM (gc X ct) β n fn (vs ++ dvs) H1 Q Ex := by
  obtain ⟨g, ρ, R, h⟩ := h
  refine ⟨g, ρ, R, okT_mono (okT_bind h) fun g1 H1 q e1 h1 vs R1 rv => ?_⟩
  have h2 := okT_bind h1
  refine sp_call R1 (rv.append (hd g1 H1)) (hn _ (T.all_mono h2 (fun _ _ => trivial) fun _ _ _ => trivial)) (okT_mono h2 fun g' H' t e' q v R' rt => okT_ret q v R' rt)
theorem j_call (F : FnOk X.prog X.w X.K X.mg X.base (L2.CX X.prog X.w) lv fa fd ps (spM (gc X ct) β n fn)) (hn : ∀ ts : List AV, T.all (fun _ => True) (fun _ _ => True) (fn ts) → ts.length = n) (hr : Room lv X.A) (hm : X.mg x = some (.ref fa)) (hk : PySem.W.keepIn X.K (.ref fa) = true)
    (hb : Binds X.K fd ps ds) (hd : Vals dvs ds) (hdt : Deft (gc X ct) dts dvs) (hx : Passes (L2.CX X.prog X.w) X Ex) (ha : JL X ct β Ex (e :: es) m) (hg : Gl X x := by rfl) (hdb : (x == ("__debug__" : Str)) = false := by decide +kernel)
    (he : starEach (e :: es) X.env = (false, eval e X.env) :: starEach es X.env := by rfl) (hpl : (backTo pos (starEach es X.env)).any (·.1) = false := by rfl) : JE X ct β Ex (.Call (.Name x p) (e :: es) [] pos) (fCall fn dts m) :=
  PE.imp (pe_call F hr hg hm hk hb hd hx ha hdb he hpl) fun σ H Q h => fCall_ok hdt hn h
theorem j_call0 (F : FnOk X.prog X.w X.K X.mg X.base (L2.CX X.prog X.w) lv fa fd ps (spM (gc X ct) β n fn)) (hn : ∀ ts : List AV, T.all (fun _ => True) (fun _ _ => True) (fn ts) → ts.length = n) (hr : Room lv X.A) (hm : X.mg x = some (.ref fa)) (hk : PySem.W.keepIn X.K (.ref fa) = true)
    (hb : Binds X.K fd ps ds) (hd : Vals dvs ds) (hdt : Deft (gc X ct) dts dvs) (hx : Passes (L2.CX X.prog X.w) X Ex) (hg : Gl X x := by rfl) (hdb : (x == ("__debug__" : Str)) = false := by decide +kernel) : JE X ct β Ex (.Call (.Name x p) [] [] pos) (fCall fn dts lNil) := by
  refine PE.imp (pe_call0 F hr hg hm hk hb hd hx hdb) fun σ H Q h => ?_
  have h := fCall_ok hdt hn h
  obtain ⟨g, ρ, R, h⟩ := h
  exact okT_ret h [] R .nil
def fMeth (c : Nat) (fn : List AV → T AV) (dts : List AV) (f : Sem) (k : SemL) : Sem := fun ρ => (f ρ).bind fun q => (frz q).bind fun s => match s.1 with
  | .ins c' xs => if c' = c then (k s.2).bind fun p => (fn (.ins c' xs :: (p.1 ++ dts))).bind fun t => .ret (.val t, p.2) else .bad
  | _ => .bad
structure MethOk (X : Cx) (ct : CT) (c : Nat) (m : Str) (fa : Addr) : Prop where
  cls : ∀ C, X.mg (ct c).1 = some (.ref C) → Cls X.K C ∧ Meth X.K C m fa
  no : m ∉ (ct c).2
theorem lookup_zip_none : ∀ {fl : List Str} {vs : List V} {f : Str}, f ∉ fl → (fl.zip vs).lookup f = none
  | [], _, _, _ => rfl
  | _ :: _, [], _, _ => rfl
  | g :: fl, v :: vs, f, h => by
    have hb : (f == g) = false := beq_eq_false_iff_ne.mpr fun e => h (e ▸ List.mem_cons_self)
    simp only [List.zip_cons_cons, List.lookup, hb]
    exact lookup_zip_none fun z => h (List.mem_cons_of_mem _ z)
theorem fMeth_ok {c : Nat} {mt : Str} {σ : L2.St} {H : Hp} {Q : VK} (M : MethOk X ct c mt fa) (hC : X.mg (ct c).1 = some (.ref C)) (hd : Deft (gc X ct) dts dvs) (hn : ∀ ts : List AV, T.all (fun _ => True) (fun _ _ => True) (fn ts) → ts.length = n) (h : rdE (gc X ct) β Ex (fMeth c fn dts f m) σ H Q) :
    rdE (gc X ct) β Ex f σ H fun x H1 => ∃ a dx fs, x = .ref a ∧ H1 a = some (.ins C dx fs) ∧ fs.lookup mt = none ∧ rdL (gc X ct) β Ex m σ H1 fun vs H2 => spM (gc X ct) β n fn (x :: (vs ++ dvs)) H2 Q Ex := by
  obtain ⟨g, ρ, R, h⟩ := h
  refine ⟨g, ρ, R, okT_mono (okT_bind h) fun g1 H1 q e1 h1 v R1 rv => ?_⟩
  obtain ⟨g2, s, e2, R2, rs, h2⟩ := frz_ok R1 rv h1
  obtain ⟨t, ρ2⟩ := s
  cases t with
  | ins c' xs =>
    by_cases hc : c' = c
    · subst hc
      have h3 : okT (gc X ct) β Ex g2 H1 ((m ρ2).bind fun p => (fn (.ins c' xs :: (p.1 ++ dts))).bind fun t => .ret (Hd.val t, p.2)) fun g' H' p => ∀ v, Rel (gc X ct) β g' p.2 σ H' → RepH (gc X ct) g' σ H' p.1 v → Q v H' := by
        have h2' : okT (gc X ct) β Ex g2 H1 (if c' = c' then _ else _) _ := h2
        rw [if_pos rfl] at h2'
        exact h2'
      have rs0 := rs
      rw [RepG, Rep] at rs
      obtain ⟨a, C', dx, vs, rfl, na, hm, ho, hl, r⟩ := rs
      have hC' : C' = C := by
        have e : some (Value.ref C') = some (Value.ref C) := hm.symm.trans hC
        cases e
        rfl
      subst hC'
      refine ⟨a, dx, _, rfl, ho, lookup_zip_none M.no, g2, ρ2, R2, okT_mono (okT_bind h3) fun g3 H3 q e3 h4 ws R3 rw => ?_⟩
      have h5 := okT_bind h4
      exact sp_call R3 (.cons (e3.rep rs0) (rw.append (hd g3 H3))) (hn _ (T.all_mono h5 (fun _ _ => trivial) fun _ _ _ => trivial)) (okT_mono h5 fun g' H' t e' q v R' rt => okT_ret q v R' rt)
    · have h2' : okT (gc X ct) β Ex g2 H1 (if c' = c then _ else _) _ := h2
      rw [if_neg hc] at h2'
      exact (show False from h2').elim
  | _ => exact (show False from h2).elim
theorem j_meth {c : Nat} {mt : Str} {pl : PySem.Sem Bool} (ha0 : JE X ct β Ex a f) (M : MethOk X ct c mt fa) (hC : X.mg (ct c).1 = some (.ref C)) (F : FnOk X.prog X.w X.K X.mg X.base (L2.CX X.prog X.w) lv fa fd ps (spM (gc X ct) β n fn)) (hn : ∀ ts : List AV, T.all (fun _ => True) (fun _ _ => True) (fn ts) → ts.length = n) (hr : Room lv X.A)
    (hb : Binds X.K fd ps ds) (hd : Vals dvs ds) (hdt : Deft (gc X ct) dts dvs) (hx : Passes (L2.CX X.prog X.w) X Ex) (ha : JL X ct β Ex (e :: es) m)
    (hst : starEach (e :: es) X.env = (false, eval e X.env) :: starEach es X.env := by rfl) (hpl : (backTo pos (starEach es X.env)).any (·.1) = false := by rfl)
    (ht : eval (.Call (.Attribute a mt apos) (e :: es) [] pos) X.env = (do
      let ov ← eval a X.env
      standAt apos.atName
      let (f, first) ← holding [ov] (getMethod ov mt pl)
      callWith pos f first (backTo pos (starEach (e :: es) X.env)) (backToKw pos (keywordEach [] X.env))) := by rfl) : JE X ct β Ex (.Call (.Attribute a mt apos) (e :: es) [] pos) (fMeth c fn dts f m) :=
  PE.imp (pe_meth ha0 (M.cls C hC).1 (M.cls C hC).2 F hr hb hd hx ha hst hpl ht) fun σ H Q h => fMeth_ok M hC hdt hn h
theorem j_meth0 {c : Nat} {mt : Str} {pl : PySem.Sem Bool} (ha0 : JE X ct β Ex a f) (M : MethOk X ct c mt fa) (hC : X.mg (ct c).1 = some (.ref C)) (F : FnOk X.prog X.w X.K X.mg X.base (L2.CX X.prog X.w) lv fa fd ps (spM (gc X ct) β n fn)) (hn : ∀ ts : List AV, T.all (fun _ => True) (fun _ _ => True) (fn ts) → ts.length = n) (hr : Room lv X.A)
    (hb : Binds X.K fd ps ds) (hd : Vals dvs ds) (hdt : Deft (gc X ct) dts dvs) (hx : Passes (L2.CX X.prog X.w) X Ex)
    (ht : eval (.Call (.Attribute a mt apos) [] [] pos) X.env = (do
      let ov ← eval a X.env
      standAt apos.atName
      let (f, first) ← holding [ov] (getMethod ov mt pl)
      callWith pos f first (backTo pos (starEach [] X.env)) (backToKw pos (keywordEach [] X.env))) := by rfl) : JE X ct β Ex (.Call (.Attribute a mt apos) [] [] pos) (fMeth c fn dts f lNil) := by
  refine PE.imp (pe_meth0 ha0 (M.cls C hC).1 (M.cls C hC).2 F hr hb hd hx ht) fun σ H Q h => ?_
  have h := fMeth_ok M hC hdt hn h
  obtain ⟨g, ρ, R, h⟩ := h
  refine ⟨g, ρ, R, okT_mono h fun g' H' p e q v R' rv => ?_⟩
  obtain ⟨a, dx, fs, e1, e2, e3, g2, ρ2, R2, h2⟩ := q v R' rv
  exact ⟨a, dx, fs, e1, e2, e3, okT_ret h2 [] R2 .nil⟩
end
inductive Out where
  | nx (ρ : Env') | rt (t : AV) | bk (ρ : Env') | ct (ρ : Env')
abbrev SSem := Env' → T Out
def endOk (c0 : Gc) (β : BInv) (D : Ends) (g : G) (H : Hp) : Out → Prop
  | .nx ρ => ∀ σ, Rel c0 β g ρ σ H → D.nx σ H
  | .rt t => ∀ v, β.I g.B g.D H → RepG c0 g H t v → D.rt v H
  | .bk ρ => ∀ σ, Rel c0 β g ρ σ H → D.bk σ H
  | .ct ρ => ∀ σ, Rel c0 β g ρ σ H → D.ct σ H
def rdS (c0 : Gc) (β : BInv) (Ex : XK) (f : SSem) : TS := fun D σ H => ∃ g ρ, Rel c0 β g ρ σ H ∧ okT c0 β Ex g H (f ρ) (endOk c0 β D)
def JS (X : Cx) (ct : CT) (β : BInv) (Ex : XK) (st : Stmt) (f : SSem) : Prop := PS X st (rdS (gc X ct) β Ex f)
def JSs (X : Cx) (ct : CT) (β : BInv) (Ex : XK) (st : List Stmt) (f : SSem) : Prop := PSs X st (rdS (gc X ct) β Ex f)
theorem PS.imp {X : Cx} {st : Stmt} {t t' : TS} (h : PS X st t) (i : ∀ D σ H, t' D σ H → t D σ H) : PS X st t' := ⟨fun pins s σ H D I q => h.run pins s σ H D I (i D σ H q)⟩
theorem PSs.imp {X : Cx} {st : List Stmt} {t t' : TS} (h : PSs X st t) (i : ∀ D σ H, t' D σ H → t D σ H) : PSs X st t' := ⟨fun pins s σ H D I q => h.run pins s σ H D I (i D σ H q)⟩
def sSeq (f k : SSem) : SSem := fun ρ => (f ρ).bind fun
  | .nx ρ' => k ρ'
  | o => .ret o
def sNil : SSem := fun ρ => .ret (.nx ρ)
def sExpr (f : Sem) : SSem := fun ρ => (f ρ).bind fun p => .ret (.nx p.2)
def sRet (f : Sem) : SSem := fun ρ => (f ρ).bind fun p => (frz p).bind fun q => .ret (.rt q.1)
def sRetN : SSem := fun _ => .ret (.rt .non)
def sBreak : SSem := fun ρ => .ret (.bk ρ)
def sCont : SSem := fun ρ => .ret (.ct ρ)
def sIf (t : SemB) (f k : SSem) : SSem := fun ρ => (t ρ).bind fun p => if p.1 then f p.2 else k p.2
def sSet (i : Nat) (f : Sem) : SSem := fun ρ => (f ρ).bind fun p => (frz p).bind fun q => .ret (.nx (q.2.set i (.fro q.1)))
section
variable {X : Cx} {ct : CT} {β : BInv} {Ex : XK} {a b e : Expr} {st : Stmt} {sts sts' : List Stmt} {f : Sem} {fb : SemB} {s s' : SSem} {pos p : Pos} {x : Str} {i : Nat}
theorem js_nil : JSs X ct β Ex [] sNil := PSs.imp pss_nil fun D σ H h => by
  obtain ⟨g, ρ, R, h⟩ := h
  exact okT_ret h σ R
theorem js_cons (h1 : JS X ct β Ex st s) (h2 : JSs X ct β Ex sts s') : JSs X ct β Ex (st :: sts) (sSeq s s') := by
  refine PSs.imp (pss_cons h1 h2) fun D σ H h => ?_
  obtain ⟨g, ρ, R, h⟩ := h
  refine ⟨g, ρ, R, okT_mono (okT_bind h) fun g' H' o e q => ?_⟩
  cases o with
  | nx ρ' => exact fun σ' R' => ⟨g', ρ', R', q⟩
  | rt t => exact (okT_ret (c0 := gc X ct) (β := β) (Ex := Ex) (Q := endOk (gc X ct) β D) q : endOk (gc X ct) β D g' H' (.rt t))
  | bk ρ' => exact (okT_ret (c0 := gc X ct) (β := β) (Ex := Ex) (Q := endOk (gc X ct) β D) q : endOk (gc X ct) β D g' H' (.bk ρ'))
  | ct ρ' => exact (okT_ret (c0 := gc X ct) (β := β) (Ex := Ex) (Q := endOk (gc X ct) β D) q : endOk (gc X ct) β D g' H' (.ct ρ'))
theorem js_expr (ha : JE X ct β Ex a f) (hs : swapsWith a none pos.line X.env = pure false := by rfl) : JS X ct β Ex (.Expr a pos) (sExpr f) := by
  refine PS.imp (ps_expr ha hs) fun D σ H h => ?_
  obtain ⟨g, ρ, R, h⟩ := h
  exact ⟨g, ρ, R, okT_mono (okT_bind h) fun g' H' p e q v R' rv => okT_ret q σ R'⟩
theorem js_ret (ha : JE X ct β Ex a f) : JS X ct β Ex (.Return (some a) pos) (sRet f) := by
  refine PS.imp (ps_ret ha) fun D σ H h => ?_
  obtain ⟨g, ρ, R, h⟩ := h
  refine ⟨g, ρ, R, okT_mono (okT_bind h) fun g' H' p e q v R' rv => ?_⟩
  obtain ⟨g2, s, e2, R2, rs, h2⟩ := frz_ok R' rv q
  exact okT_ret h2 v R2.box rs
theorem js_if (hc : JT X ct β Ex a fb) (h1 : JSs X ct β Ex sts s) (h2 : JSs X ct β Ex sts' s') : JS X ct β Ex (.If a sts sts' pos) (sIf fb s s') := by
  refine PS.imp (ps_if hc h1 h2) fun D σ H h => ?_
  obtain ⟨g, ρ, R, h⟩ := h
  refine ⟨g, ρ, R, okT_mono (okT_bind h) fun g1 H1 p e1 h1 R1 => ?_⟩
  by_cases hp : p.1 = true
  · rw [if_pos hp] at h1 ⊢
    exact ⟨g1, p.2, R1, h1⟩
  · rw [if_neg hp] at h1 ⊢
    exact ⟨g1, p.2, R1, h1⟩
theorem Rel.setFro {c0 : Gc} {g : G} {ρ : Env'} {σ : L2.St} {H : Hp} {j : Nat} {t : AV} {v : V} (R : Rel c0 β g ρ σ H) (r : RepG c0 g H t v) (hj : j < ρ.length) : Rel c0 β (g.no j) (ρ.set j (.fro t)) (σ.set j (some v)) H := by
  refine R.put (ext_no g j H) (List.length_set ..) (fun i hi => List.getElem?_set_ne (Ne.symm hi)) hj (fun i hi => own_no_ne hi) (fun _ _ _ _ _ h => h) R.box ?_ fun a h => by rw [own_no] at h; cases h
  rw [own_no]
  exact ⟨rfl, v, by rw [List.getElem?_set_self (by rw [R.len]; exact hj)], (ext_no g j H).rep r⟩
theorem set_ge {ρ : Env'} {j : Nat} {s : Slot} (h : ¬ j < ρ.length) : ρ.set j s = ρ := List.set_eq_of_length_le (by omega)
theorem js_set (i : Nat) (ha : JE X ct β Ex a f) (hN : X.N.Nodup) (hi : X.N[i]? = some x := by rfl) (hx : Loc X.env.scope x := by first | exact Or.inl rfl | exact Or.inr rfl) (hs : swapsWith a (some (.Name x p)) pos.line X.env = pure false := by rfl)
    (hf : X.fn x = true ∨ X.env.scope.names.lookup x = some .local := by first | exact .inl rfl | exact .inr rfl) : JS X ct β Ex (.Assign [.Name x p] a pos) (sSet i f) := by
  refine PS.imp (ps_set hN hi hx ha hs hf) fun D σ H h => ?_
  obtain ⟨g, ρ, R, h⟩ := h
  refine ⟨g, ρ, R, okT_mono (okT_bind h) fun g' H' p e q v R' rv => ?_⟩
  obtain ⟨g2, s, e2, R2, rs, h2⟩ := frz_ok R' rv q
  show D.nx (σ.set i (some v)) H'
  by_cases hj : i < s.2.length
  · exact okT_ret' h2 (ext_no g2 i H') _ (R2.setFro rs hj)
  · have e := okT_ret h2
    rw [set_ge hj] at e
    have : σ.set i (some v) = σ := List.set_eq_of_length_le (by rw [R2.len]; omega)
    rw [this]
    exact e σ R2
end
abbrev GSem := AV → Env' → T Env'
def Agree (is : List Nat) (σ σ' : L2.St) : Prop := σ'.length = σ.length ∧ ∀ i, i ∉ is → σ'[i]? = σ[i]?
theorem Agree.refl {is : List Nat} {σ : L2.St} : Agree is σ σ := ⟨rfl, fun _ _ => rfl⟩
theorem Agree.trans {is js : List Nat} {σ σ1 σ2 : L2.St} (a : Agree is σ σ1) (b : Agree js σ1 σ2) : Agree (is ++ js) σ σ2 :=
  ⟨b.1.trans a.1, fun i h => (b.2 i fun z => h (List.mem_append_right _ z)).trans (a.2 i fun z => h (List.mem_append_left _ z))⟩
def rdG (c0 : Gc) (β : BInv) (Ex : XK) (is : List Nat) (f : GSem) : TG := fun v σ H Q => ∃ g ρ t, Rel c0 β g ρ σ H ∧ RepG c0 g H t v ∧ okT c0 β Ex g H (f t ρ) fun g' H' ρ' => ∀ σ', Agree is σ σ' → Rel c0 β g' ρ' σ' H' → Q σ' H'
def rdGs (c0 : Gc) (β : BInv) (Ex : XK) (is : List Nat) (f : List AV → Env' → T Env') : TGs := fun vs σ H Q => ∃ g ρ ts, Rel c0 β g ρ σ H ∧ RepsG c0 g H ts vs ∧ okT c0 β Ex g H (f ts ρ) fun g' H' ρ' => ∀ σ', Agree is σ σ' → Rel c0 β g' ρ' σ' H' → Q σ' H'
def JG (X : Cx) (ct : CT) (β : BInv) (Ex : XK) (e : Expr) (is : List Nat) (f : GSem) : Prop := PG X e (rdG (gc X ct) β Ex is f)
def JGs (X : Cx) (ct : CT) (β : BInv) (Ex : XK) (e : List Expr) (is : List Nat) (f : List AV → Env' → T Env') : Prop := PGs X e (rdGs (gc X ct) β Ex is f)
theorem PG.imp {X : Cx} {e : Expr} {t t' : TG} (h : PG X e t) (i : ∀ v σ H Q, t' v σ H Q → t v σ H Q) : PG X e t' := ⟨fun pins s σ H v u Q I r q => h.run pins s σ H v u Q I r (i v σ H Q q)⟩
theorem PGs.imp {X : Cx} {e : List Expr} {t t' : TGs} (h : PGs X e t) (i : ∀ v σ H Q, t' v σ H Q → t v σ H Q) : PGs X e t' := ⟨fun pins s σ H v u Q I r q => h.run pins s σ H v u Q I r (i v σ H Q q)⟩
def tgName (i : Nat) : GSem := fun t ρ => .ret (ρ.set i (.fro t))
def tgNil : List AV → Env' → T Env' := fun ts ρ => match ts with
  | [] => .ret ρ
  | _ => .bad
def tgCons (f : GSem) (k : List AV → Env' → T Env') : List AV → Env' → T Env' := fun ts ρ => match ts with
  | t :: r => (f t ρ).bind fun ρ' => k r ρ'
  | [] => .bad
def tgTup (n : Nat) (k : List AV → Env' → T Env') : GSem := fun t ρ => match t with
  | .tup xs => if xs.length = n then k xs ρ else .bad
  | _ => .bad
def sAsg (f : Sem) (k : GSem) : SSem := fun ρ => (f ρ).bind fun p => (frz p).bind fun q => (k q.1 q.2).bind fun ρ' => .ret (.nx ρ')
section
variable {X : Cx} {ct : CT} {β : BInv} {Ex : XK} {a tg : Expr} {es : List Expr} {is js : List Nat} {f : Sem} {k : GSem} {ks : List AV → Env' → T Env'} {pos p : Pos} {x : Str} {n kk : Nat}
theorem jg_name (i : Nat) (hN : X.N.Nodup) (hi : X.N[i]? = some x := by rfl) (hx : Loc X.env.scope x := by first | exact Or.inl rfl | exact Or.inr rfl)
    (hf : X.fn x = true ∨ X.env.scope.names.lookup x = some .local := by first | exact .inl rfl | exact .inr rfl) : JG X ct β Ex (.Name x p) [i] (tgName i) := by
  refine PG.imp (pg_name hN hi hx hf) fun v σ H Q h => ?_
  obtain ⟨g, ρ, t, R, r, h⟩ := h
  show Q (σ.set i (some v)) H
  have ag : Agree [i] σ (σ.set i (some v)) := ⟨List.length_set .., fun j hj => List.getElem?_set_ne (fun e => hj (by simp [e]))⟩
  by_cases hj : i < ρ.length
  · exact okT_ret' h (ext_no g i H) _ ag (R.setFro r hj)
  · have e := okT_ret h
    rw [set_ge hj] at e
    have e2 : σ.set i (some v) = σ := List.set_eq_of_length_le (by rw [R.len]; omega)
    rw [e2] at ag ⊢
    exact e σ ag R
theorem jg_nil : JGs X ct β Ex [] [] tgNil := PGs.imp pgs_nil fun vs σ H Q h => by
  obtain ⟨g, ρ, ts, R, r, h⟩ := h
  cases ts with
  | nil => rw [RepsG, RepL] at r; exact ⟨r, okT_ret h σ Agree.refl R⟩
  | cons _ _ => exact (show False from h).elim
theorem jg_cons (h1 : JG X ct β Ex tg is k) (h2 : JGs X ct β Ex es js ks) (hs : (assignEach (tg :: es) X.env).map (·.2) = assign tg X.env :: (assignEach es X.env).map (·.2) := by rfl) : JGs X ct β Ex (tg :: es) (is ++ js) (tgCons k ks) := by
  refine PGs.imp (pgs_cons h1 h2 hs) fun vs σ H Q h => ?_
  obtain ⟨g, ρ, ts, R, r, h⟩ := h
  cases ts with
  | nil => exact (show False from h).elim
  | cons t ts =>
    rw [RepsG, RepL] at r
    obtain ⟨v, r', rfl, h1, h2⟩ := r
    exact ⟨v, r', rfl, g, ρ, t, R, h1, okT_mono (okT_bind h) fun g' H' ρ' e q σ' a1 R' => ⟨g', ρ', ts, R', e.reps h2, okT_mono q fun g2 H2 ρ2 e2 q2 σ2 a2 R2 => q2 σ2 (a1.trans a2) R2⟩⟩
theorem jg_tup (hc : X.calm = true) (h : JGs X ct β Ex es is ks) (hn : (assignEach es X.env).length = n := by rfl) (hst : (assignEach es X.env).findIdx? (·.1) = none := by rfl) : JG X ct β Ex (.Tuple es kk pos) is (tgTup n ks) := by
  refine PG.imp (pg_tup hc h hn hst) fun v σ H Q h => ?_
  obtain ⟨g, ρ, t, R, r, h⟩ := h
  cases t with
  | tup xs =>
    rw [RepG, Rep] at r
    obtain ⟨a, vs, rfl, q, r⟩ := r
    have h' : okT (gc X ct) β Ex g H (if xs.length = n then ks xs ρ else .bad) _ := h
    by_cases hl : xs.length = n
    · rw [if_pos hl] at h'
      exact ⟨a, vs, rfl, q.sq, r.length.trans hl, g, ρ, xs, R, r, h'⟩
    · rw [if_neg hl] at h'
      exact (show False from h').elim
  | _ => exact (show False from h).elim
theorem js_asg (ha : JE X ct β Ex a f) (hg : JG X ct β Ex tg is k) (hs : swapsWithSole [tg] a pos.line X.env = pure false := by rfl) (hw : swappedStores [tg] a X.env = pure none := by rfl)
    (h1 : (assignEach [tg] X.env).map (·.2) = [assign tg X.env] := by rfl) : JS X ct β Ex (.Assign [tg] a pos) (sAsg f k) := by
  refine PS.imp (ps_asg ha hg hs hw h1) fun D σ H h => ?_
  obtain ⟨g, ρ, R, h⟩ := h
  refine ⟨g, ρ, R, okT_mono (okT_bind h) fun g' H' p e q v R' rv => ?_⟩
  obtain ⟨g2, s, e2, R2, rs, h2⟩ := frz_ok R' rv q
  exact ⟨g2, s.2, s.1, R2, rs, okT_mono (okT_bind h2) fun g3 H3 ρ' e3 q3 σ' _ R3 => okT_ret q3 σ' R3⟩
end
def outV : Out → T AV
  | .rt t => .ret t
  | .nx _ => .ret .non
  | _ => .bad
def fnOf (np n : Nat) (body : SSem) : List AV → T AV := fun ts => if ts.length = np then (body (ts.map Slot.fro ++ List.replicate (n - np) .un)).bind outV else .bad
theorem fnOf_len {np n : Nat} {body : SSem} (ts : List AV) (h : T.all (fun _ => True) (fun _ _ => True) (fnOf np n body ts)) : ts.length = np := by
  unfold fnOf at h
  by_cases hl : ts.length = np
  · exact hl
  · rw [if_neg hl] at h; exact h.elim
section
variable {P : Program} {w : World} {K : PySem.W.Frag} {mg : Str → Option Value} {base : Heap} {ct : CT} {β : BInv}
theorem passB {N : List Str} {qual : Str} {scope : Scope} {f : Addr} {cd : Value} {A : Around} {outer : List Env} {s : Shared} {H : Hp} {E : XK} : Passes (L2.CX P w) (cxOf (L2.CX P w) P w K mg base N qual scope f cd A outer s H E) E :=
  passes_call (X := cxOf (L2.CX P w) P w K mg base N qual scope f cd A outer s H E) (takes_of rfl rfl rfl rfl) fun _ _ _ _ h => h
theorem passOwnB {N : List Str} {qual : Str} {scope : Scope} {f : Addr} {cd : Value} {A : Around} {outer : List Env} {s : Shared} {H : Hp} {E : XK} :
    PassesOwn (model P w) (cxOf (L2.CX P w) P w K mg base N qual scope f cd A outer s H E).A (cxOf (L2.CX P w) P w K mg base N qual scope f cd A outer s H E).env (cxOf (L2.CX P w) P w K mg base N qual scope f cd A outer s H E).xe :=
  passes_of (X := cxOf (L2.CX P w) P w K mg base N qual scope f cd A outer s H E) rfl
theorem rel_start {c0 : Gc} {g : G} {H : Hp} {ts : List AV} {vs : List V} {N : List Str} {np : Nat} (ho : ∀ i, g.own i = none) (hm : ∀ a, g.M a → H a ≠ none ∧ ∀ ws, H a ≠ some (.tup ws)) (hmb : ∀ a, g.M a → ¬ g.B a) (hb : β.I g.B g.D H) (r : RepsG c0 g H ts vs) (hl : ts.length = np) (hN : np ≤ N.length) :
    Rel c0 β g (ts.map Slot.fro ++ List.replicate (N.length - np) .un) (L2.start N vs) H where
  len := by
    unfold L2.start
    rw [List.length_append, List.length_append, List.length_map, List.length_map, List.length_replicate, List.length_replicate, r.length, hl]
  sl := fun i s hi => by
    rw [ho i]
    by_cases h : i < ts.length
    · rw [List.getElem?_append_left (by rw [List.length_map]; exact h), List.getElem?_map] at hi
      cases e : ts[i]? with
      | none => rw [e] at hi; cases hi
      | some t =>
        rw [e] at hi
        cases hi
        obtain ⟨v, ev, rv⟩ := r.get' e
        refine ⟨rfl, v, ?_, rv⟩
        unfold L2.start
        rw [List.getElem?_append_left (by rw [List.length_map, r.length]; exact h), List.getElem?_map, ev]
        rfl
    · rw [List.getElem?_append_right (by rw [List.length_map]; omega), List.getElem?_replicate] at hi
      split at hi
      · cases hi; rfl
      · cases hi
  out := fun i _ => ho i
  inj := fun i j a h => by rw [ho i] at h; cases h
  alive := fun a h => (hm a h).1
  nt := fun a h => (hm a h).2
  sep := fun i a h => by rw [ho i] at h; cases h
  mb := hmb
  box := hb
theorem fn_def {x qual : Str} {st : Stmt} {f : Addr} {fd : FuncData} {N ps : List Str} {k : Nat} {body : SSem} (F : Fun K x qual st f fd) (S : FnScope N ps (defScope st)) (hl : ps.length ≤ N.length)
    (hb : ∀ (cdv : Value) (A : Around) (outer : List Env) (s : Shared) (H : Hp) (E : XK), Room k (A.deeper (envOfC qual (defScope st) s.heap.objs.size f cdv)) → JSs (cxOf (L2.CX P w) P w K mg base N qual (defScope st) f cdv A outer s H E) ct β E (defBody st) body) :
    FnOk P w K mg base (L2.CX P w) (k + 1) f fd ps (spM ⟨K, mg, ct⟩ β ps.length (fnOf ps.length N.length body)) := by
  refine F.okX S (fun vs H Q E h => ?_) fun cdv A outer s H vs Q E hr h => ?_
  · obtain ⟨g, ts, _, _, _, _, r, e, _⟩ := h
    rw [r.length, e]
  · obtain ⟨g, ts, ho, hm, hmb, hbx, r, e, h⟩ := h
    refine ⟨_, hb cdv A outer s H E hr, g, _, rel_start ho hm hmb hbx r e hl, ?_⟩
    have h' : okT ⟨K, mg, ct⟩ β E g H ((body (ts.map Slot.fro ++ List.replicate (N.length - ps.length) .un)).bind outV) fun g' H' t => ∀ v, β.I g'.B g'.D H' → RepG ⟨K, mg, ct⟩ g' H' t v → Q v H' := by
      unfold fnOf at h
      rw [if_pos e] at h
      exact h
    refine okT_mono (okT_bind h') fun g' H' o e q => ?_
    cases o with
    | nx ρ => exact fun σ R => okT_ret q .non R.box rep_non
    | rt t => exact okT_ret (c0 := ⟨K, mg, ct⟩) (β := β) (Ex := E) (Q := fun g' H' t => ∀ v, β.I g'.B g'.D H' → RepG ⟨K, mg, ct⟩ g' H' t v → Q v H') q
    | bk ρ => exact (show False from q).elim
    | ct ρ => exact (show False from q).elim
end
end Dn
set_option Elab.async false
set_option linter.all false
set_option maxRecDepth 100000
namespace Dn
open PySem PySem.Spec PyProof.Rows L2
def Keeps (c0 : Gc) (g g' : G) (H H' : Hp) : Prop := ∀ t v, RepG c0 g H t v → RepG c0 g' H' t v
structure Wk (c0 : Gc) (g : G) (H : Hp) (J : It) (xs : List AV) : Prop where
  go : ∀ (g' : G) (H' : Hp) (i : Nat), Keeps c0 g g' H H' → i < xs.length → J.go i H'
  yld : ∀ (g' : G) (H' H2 : Hp) (i : Nat) (x : AV) (v : V), Keeps c0 g g' H H' → (∀ p, g'.Av p → H' p ≠ none) → xs[i]? = some x → J.yld i H' v H2 → Same H' H2 ∧ RepG c0 g' H2 x v
  stop : ∀ (g' : G) (H' : Hp) (i : Nat), Keeps c0 g g' H H' → xs.length ≤ i → J.stop i H'
abbrev SemI := Env' → T (List AV × Env')
def rdI (c0 : Gc) (β : BInv) (Ex : XK) (f : SemI) : TI := fun σ H R => ∃ g ρ, Rel c0 β g ρ σ H ∧ okT c0 β Ex g H (f ρ) fun g' H' p => ∀ J, Rel c0 β g' p.2 σ H' → Wk c0 g' H' J p.1 → R J H'
def JI (X : Cx) (ct : CT) (β : BInv) (Ex : XK) (tg e : Expr) (f : SemI) : Prop := PI X tg e (rdI (gc X ct) β Ex f)
theorem PI.imp {X : Cx} {tg e : Expr} {t t' : TI} (h : PI X tg e t) (i : ∀ σ H Q, t' σ H Q → t σ H Q) : PI X tg e t' := ⟨fun pins s σ H R I q => h.run pins s σ H R I (i σ H R q)⟩
def seqOf : AV → Option (List AV)
  | .tup xs => some xs
  | .lst xs => some xs
  | _ => none
def iSeq (f : Sem) : SemI := fun ρ => (f ρ).bind fun p => (frz p).bind fun q => (lift (seqOf q.1)).bind fun xs => .ret (xs, q.2)
def rangeL (lo : Int) (n : Nat) : List AV := (List.range n).map fun (i : Nat) => AV.int (lo + (i : Int))
def iRange1 (f : Sem) : SemI := fun ρ => (f ρ).bind fun p => (lift (rs p.1 p.2)).bind fun a => (lift (intOf a)).bind fun j => if below j 62 = true then .ret (rangeL 0 j.toNat, p.2) else .bad
def iRange2 (f k : Sem) : SemI := fun ρ => (f ρ).bind fun p => (k p.2).bind fun q => (lift (rs p.1 q.2)).bind fun a => (lift (intOf a)).bind fun i => (lift (rs q.1 q.2)).bind fun b => (lift (intOf b)).bind fun j =>
  if below i 62 = true ∧ below j 62 = true then .ret (rangeL i (j - i).toNat, q.2) else .bad
section
variable {X : Cx} {ct : CT} {β : BInv} {Ex : XK} {a b tg : Expr} {f k : Sem} {pos p : Pos}
def iAny (K : PySem.W.Frag) (t0 : TE) : TI := fun σ H R => t0 σ H fun x H1 => (∃ q, x = .ref q ∧ (∃ xs, SqL K H1 q xs) ∧ R (Itl K q) H1) ∨ ∃ q, x = .ref q ∧ (∃ xs, SqT K H1 q xs) ∧ R (Itt K q) H1
theorem pi_anySeq {e0 : Expr} {t0 : TE} (he : PE X e0 t0) : PI X tg e0 (iAny X.K t0) := by
  constructor
  intro pins s σ H R I h
  refine thn (he.run pins s σ H _ I h) ?_
  rintro v s1 ⟨x, H1, I1, r1, ⟨q, rfl, ⟨xs, hq⟩, k⟩ | ⟨q, rfl, ⟨xs, hq⟩, k⟩⟩
  · cases r1
    obtain ⟨its, _, pl, _⟩ := I1.list hq
    apply wpAny_pyIter_list pl.isList
    have J := I1.kept (t' := s1.toks) (h' := s1.heap.push { cls := .type "list_iterator", data := .fields #[.ref q, .int 0 0] }) fun _ _ w => Heap.get?_push_of_some _ w
    refine ⟨_, [s1.heap.objs.size], _, Itl X.K q, H1, rfl, J, turn_list q _, ⟨_, Heap.get?_push_size _ rfl, rfl, rfl⟩, ?_, k⟩
    intro b hb
    cases List.mem_singleton.mp hb
    exact I1.fpOk (Nat.le_refl _) I1.fresh
  · cases r1
    obtain ⟨its, _, pl, _⟩ := I1.tuple hq
    apply wpAny_pyIter_tuple (show s1.heap.IsTuple q its.toArray from pl)
    have J := I1.kept (t' := s1.toks) (h' := s1.heap.push { cls := .type "tuple_iterator", data := .fields #[.ref q, .int 0 0] }) fun _ _ w => Heap.get?_push_of_some _ w
    refine ⟨_, [s1.heap.objs.size], _, Itt X.K q, H1, rfl, J, turn_tuple q _, ⟨_, Heap.get?_push_size _ rfl, rfl, rfl⟩, ?_, k⟩
    intro b hb
    cases List.mem_singleton.mp hb
    exact I1.fpOk (Nat.le_refl _) I1.fresh
theorem wk_list {c0 : Gc} {g : G} {H : Hp} {a : Addr} {xs : List AV} (h : RepG c0 g H (.lst xs) (.ref a)) : Wk c0 g H (Itl c0.K a) xs := by
  have at_ : ∀ (g' : G) (H' : Hp), Keeps c0 g g' H H' → ∃ vs, H' a = some (.lst vs) ∧ RepsG c0 g' H' xs vs := fun g' H' k => by
    have q := k _ _ h
    rw [RepG, Rep] at q
    obtain ⟨a', vs, e, ⟨na, ho⟩, r⟩ := q
    cases e
    exact ⟨vs, ho, r⟩
  refine ⟨fun g' H' i e hi => ?_, fun g' H' H2 i x v e _ hx hy => ?_, fun g' H' i e hi => ?_⟩
  · obtain ⟨vs, ho, r⟩ := at_ g' H' e
    exact ⟨vs, vs[i]'(by rw [r.length]; exact hi), .of ho, List.getElem?_eq_getElem _⟩
  · obtain ⟨e1, hy⟩ := hy
    subst e1
    obtain ⟨vs, ho, r⟩ := at_ g' _ e
    refine ⟨Same.refl _, ?_⟩
    obtain ⟨y, ey, ry⟩ := r.get (hy vs (.of ho))
    rw [hx] at ey
    cases ey
    exact ry
  · obtain ⟨vs, ho, r⟩ := at_ g' H' e
    exact ⟨vs, .of ho, by rw [r.length]; exact hi⟩
theorem TupAt.ext {K : PySem.W.Frag} {g g' : G} {H H' : Hp} {a : Addr} {vs : List V} (e : Ext g g' H H') (h : TupAt K g.Av H a vs) : TupAt K g'.Av H' a vs := by
  rcases h with ⟨na, q⟩ | q
  · exact .inl ⟨(e.av q na).2, (e.av q na).1⟩
  · exact .inr q
theorem wk_tup {c0 : Gc} {g : G} {H : Hp} {a : Addr} {xs : List AV} (h : RepG c0 g H (.tup xs) (.ref a)) : Wk c0 g H (Itt c0.K a) xs := by
  have at_ : ∀ (g' : G) (H' : Hp), Keeps c0 g g' H H' → ∃ vs, SqT c0.K H' a vs ∧ RepsG c0 g' H' xs vs := fun g' H' k => by
    have q := k _ _ h
    rw [RepG, Rep] at q
    obtain ⟨a', vs, e, ho, r⟩ := q
    cases e
    exact ⟨vs, ho.sq, r⟩
  refine ⟨fun g' H' i e hi => ?_, fun g' H' H2 i x v e _ hx hy => ?_, fun g' H' i e hi => ?_⟩
  · obtain ⟨vs, ho, r⟩ := at_ g' H' e
    exact ⟨vs, vs[i]'(by rw [r.length]; exact hi), ho, List.getElem?_eq_getElem _⟩
  · obtain ⟨e1, hy⟩ := hy
    subst e1
    obtain ⟨vs, ho, r⟩ := at_ g' _ e
    refine ⟨Same.refl _, ?_⟩
    obtain ⟨y, ey, ry⟩ := r.get (hy vs ho)
    rw [hx] at ey
    cases ey
    exact ry
  · obtain ⟨vs, ho, r⟩ := at_ g' H' e
    exact ⟨vs, ho, by rw [r.length]; exact hi⟩
theorem ji_seq (ha : JE X ct β Ex a f) : JI X ct β Ex tg a (iSeq f) := by
  refine PI.imp (pi_anySeq ha) fun σ H R h => ?_
  obtain ⟨g, ρ, Rl, h⟩ := h
  refine ⟨g, ρ, Rl, okT_mono (okT_bind h) fun g1 H1 p e1 h1 x R1 rx => ?_⟩
  obtain ⟨g2, s, e2, R2, rs, h2⟩ := frz_ok R1 rx h1
  obtain ⟨xs, ex, h3⟩ := okT_lift h2
  obtain ⟨t, ρ2⟩ := s
  cases t with
  | tup ys =>
    cases ex
    have rs0 := rs
    rw [RepG, Rep] at rs
    obtain ⟨q, vs, rfl, hq, _⟩ := rs
    exact .inr ⟨q, rfl, ⟨vs, hq.sq⟩, okT_ret h3 _ R2 (wk_tup rs0)⟩
  | lst ys =>
    cases ex
    have rs0 := rs
    rw [RepG, Rep] at rs
    obtain ⟨q, vs, rfl, hq, _⟩ := rs
    exact .inl ⟨q, rfl, ⟨vs, hq.sq⟩, okT_ret h3 _ R2 (wk_list rs0)⟩
  | _ => cases ex
theorem wk_range {c0 : Gc} {g : G} {H : Hp} {lo : Int} {n : Nat} : Wk c0 g H (Itr lo n) (rangeL lo n) := by
  have hl : (rangeL lo n).length = n := by unfold rangeL; rw [List.length_map, List.length_range]
  refine ⟨fun g' H' i e hi => by rw [hl] at hi; exact hi, fun g' H' H2 i x v e _ hx hy => ?_, fun g' H' i e hi => by rw [hl] at hi; exact hi⟩
  obtain ⟨e1, hy⟩ := hy
  subst e1
  refine ⟨Same.refl _, ?_⟩
  unfold rangeL at hx
  rw [List.getElem?_map] at hx
  have hi : i < n := by
    cases q : (List.range n)[i]? with
    | none => rw [q] at hx; cases hx
    | some j =>
      have := (List.getElem?_eq_some_iff.mp q).1
      rwa [List.length_range] at this
  rw [List.getElem?_range hi] at hx
  cases hx
  rw [hy]
  exact rep_int
theorem ji_range1 (hg : Gl X "range") (hm : X.mg "range" = none) (ha : JE X ct β Ex a f) (hs : starEach [a] X.env = [(false, eval a X.env)] := by rfl) (he : starEach [a] X.env = (false, eval a X.env) :: starEach [] X.env := by rfl) :
    JI X ct β Ex tg (.Call (.Name "range" p) [a] [] pos) (iRange1 f) := by
  refine PI.imp (pi_range1 hg hm (pa_cons ha pa_nil he) hs) fun σ H R h => ?_
  obtain ⟨g, ρ, Rl, h⟩ := h
  refine ⟨g, ρ, Rl, okT_mono (okT_bind h) fun g1 H1 p e1 h1 x R1 rx => ?_⟩
  obtain ⟨u, eu, h2⟩ := okT_lift h1
  obtain ⟨j, ej, h3⟩ := okT_lift h2
  have := intOf_eq ej
  subst this
  have ex := (rx.rs R1 eu).int
  subst ex
  by_cases hb : below j 62 = true
  · rw [if_pos hb] at h3
    have hb := below62 hb
    exact ⟨j, rfl, hb.1, hb.2, okT_ret h3 _ R1 wk_range⟩
  · rw [if_neg hb] at h3
    exact (show False from h3).elim
end
def forL (k : GSem) (body : SSem) : List AV → Env' → T Out
  | [], ρ => .ret (.nx ρ)
  | x :: xs, ρ => (k x ρ).bind fun ρ1 => (body ρ1).bind fun
    | .nx ρ' => forL k body xs ρ'
    | .ct ρ' => forL k body xs ρ'
    | .bk ρ' => .ret (.nx ρ')
    | .rt t => .ret (.rt t)
def sFor (it : SemI) (k : GSem) (body : SSem) : SSem := fun ρ => (it ρ).bind fun p => forL k body p.1 p.2
section
variable {X : Cx} {ct : CT} {β : BInv} {Ex : XK} {a tg it : Expr} {is : List Nat} {body : List Stmt} {f : SemI} {k : GSem} {sb : SSem} {pos : Pos} {fb : SemB}
theorem js_for (hp : PassesOwn (model X.prog X.w) X.A X.env X.xe) (hc : X.calm = true) (hi : JI X ct β Ex tg it f) (hg : JG X ct β Ex tg is k) (hb : JSs X ct β Ex body sb) (hs : ∀ x, foldedSetIterable it X.env x = pure x := by intro _; rfl) :
    JS X ct β Ex (.For tg it body [] pos) (sFor f k sb) := by
  refine PS.imp (ps_for hp hc hi hg hb hs) fun D σ H h => ?_
  obtain ⟨g, ρ, R, h⟩ := h
  refine ⟨g, ρ, R, okT_mono (okT_bind h) fun g1 H1 p e1 h1 J R1 wk => ?_⟩
  obtain ⟨xs, ρ1⟩ := p
  refine ⟨fun i m σ H => m = xs.length - i ∧ i ≤ xs.length ∧ ∃ g ρ, Ext g1 g H1 H ∧ Rel (gc X ct) β g ρ σ H ∧ okT (gc X ct) β Ex g H (forL k sb (xs.drop i) ρ) (endOk (gc X ct) β D), ⟨xs.length, by simp, Nat.zero_le _, g1, ρ1, .refl _ _, R1, h1⟩, ?_⟩
  rintro i m σ2 H2 ⟨rfl, hi, g2, ρ2, e2, R2, h2⟩
  by_cases hlt : i < xs.length
  · refine .inr ⟨wk.go _ _ _ (fun _ _ => e2.rep) hlt, _, fun σ' H' n => ⟨xs.length - (i + 1), by omega, n⟩, fun x H3 hy => ?_⟩
    have ex : xs[i]? = some xs[i] := List.getElem?_eq_getElem hlt
    obtain ⟨sm, rx⟩ := wk.yld _ _ _ _ _ _ (fun _ _ => e2.rep) (fun _ h => R2.avLive h) ex hy
    rw [List.drop_eq_getElem_cons hlt] at h2
    have h3 : okT (gc X ct) β Ex g2 H3 ((k xs[i] ρ2).bind fun ρ1 => (sb ρ1).bind fun | .nx ρ' => forL k sb (xs.drop (i + 1)) ρ' | .ct ρ' => forL k sb (xs.drop (i + 1)) ρ' | .bk ρ' => .ret (.nx ρ') | .rt t => .ret (.rt t)) (endOk (gc X ct) β D) :=
      T.all_mono h2 (fun o q g' H' e => q g' H' ((Ext.same sm).trans e)) fun c xs q g' H' C d vs e => q g' H' C d vs ((Ext.same sm).trans e)
    refine ⟨g2, ρ2, xs[i], R2.same sm, rx, okT_mono (okT_bind h3) fun g4 H4 ρ4 e4 h4 σ4 _ R4 => ⟨g4, ρ4, R4, okT_mono (okT_bind h4) fun g5 H5 o e5 h5 => ?_⟩⟩
    have e15 : Ext g1 g5 H1 H5 := (((e2.trans (Ext.same sm)).trans e4).trans e5)
    cases o with
    | nx ρ' => exact fun σ' R' => ⟨rfl, hlt, g5, ρ', e15, R', h5⟩
    | ct ρ' => exact fun σ' R' => ⟨rfl, hlt, g5, ρ', e15, R', h5⟩
    | bk ρ' => exact (okT_ret (c0 := gc X ct) (β := β) (Ex := Ex) (Q := endOk (gc X ct) β D) h5 : endOk (gc X ct) β D g5 H5 (.nx ρ'))
    | rt t => exact (okT_ret (c0 := gc X ct) (β := β) (Ex := Ex) (Q := endOk (gc X ct) β D) h5 : endOk (gc X ct) β D g5 H5 (.rt t))
  · have e : i = xs.length := by omega
    subst e
    rw [List.drop_length] at h2
    exact .inl ⟨wk.stop _ _ _ (fun _ _ => e2.rep) (Nat.le_refl _), okT_ret h2 σ2 R2⟩
def whileL (c : SemB) (body : SSem) : Nat → Env' → T Out
  | 0, _ => .bad
  | n + 1, ρ => (c ρ).bind fun p => if p.1 then (body p.2).bind fun
      | .nx ρ' => whileL c body n ρ'
      | .ct ρ' => whileL c body n ρ'
      | .bk ρ' => .ret (.nx ρ')
      | .rt t => .ret (.rt t)
    else .ret (.nx p.2)
theorem js_while (n : Nat) (hp : PassesOwn (model X.prog X.w) X.A X.env X.xe) (hc : JT X ct β Ex a fb) (hb : JSs X ct β Ex body sb) : JS X ct β Ex (.While a body [] pos) (whileL fb sb n) := by
  refine PS.imp (ps_while hp hc hb) fun D σ H h => ?_
  obtain ⟨g, ρ, R, h⟩ := h
  refine ⟨fun m σ H => ∃ g ρ, Rel (gc X ct) β g ρ σ H ∧ okT (gc X ct) β Ex g H (whileL fb sb m ρ) (endOk (gc X ct) β D), ⟨n, g, ρ, R, h⟩, ?_⟩
  rintro m σ2 H2 ⟨g2, ρ2, R2, h2⟩
  cases m with
  | zero => exact (show False from h2).elim
  | succ m =>
    refine ⟨g2, ρ2, R2, okT_mono (okT_bind h2) fun g3 H3 p e3 h3 R3 => ?_⟩
    by_cases hp : p.1 = true
    · rw [if_pos hp] at h3 ⊢
      refine ⟨_, fun σ' H' n => ⟨m, Nat.lt_succ_self _, n⟩, g3, p.2, R3, okT_mono (okT_bind h3) fun g5 H5 o e5 h5 => ?_⟩
      cases o with
      | nx ρ' => exact fun σ' R' => ⟨g5, ρ', R', h5⟩
      | ct ρ' => exact fun σ' R' => ⟨g5, ρ', R', h5⟩
      | bk ρ' => exact (okT_ret (c0 := gc X ct) (β := β) (Ex := Ex) (Q := endOk (gc X ct) β D) h5 : endOk (gc X ct) β D g5 H5 (.nx ρ'))
      | rt t => exact (okT_ret (c0 := gc X ct) (β := β) (Ex := Ex) (Q := endOk (gc X ct) β D) h5 : endOk (gc X ct) β D g5 H5 (.rt t))
    · rw [if_neg hp] at h3 ⊢
      exact okT_ret h3 σ2 R3
end
end Dn
set_option Elab.async false
set_option linter.all false
set_option maxRecDepth 100000
namespace Dn
open PySem PySem.Spec PyProof.Rows L2
def G.plus (g : G) (a : Addr) : G := { g with M := fun b => g.M b ∨ b = a }
theorem plus_av {g : G} {a b : Addr} : (g.plus a).Av b ↔ g.Av b ∨ b = a := by
  unfold G.Av G.plus
  constructor
  · rintro ((h | h) | h | h)
    · exact .inl (.inl h)
    · exact .inr h
    · exact .inl (.inr (.inl h))
    · exact .inl (.inr (.inr h))
  · rintro ((h | h | h) | h)
    · exact .inl (.inl h)
    · exact .inr (.inl h)
    · exact .inr (.inr h)
    · exact .inl (.inr h)
section
variable {c0 : Gc} {β : BInv} {g : G} {H : Hp} {ρ : Env'} {σ : L2.St} {a : Addr}
theorem plus_reps {t : List AV} {v : List V} (h : RepsG c0 (g.plus a) H t v) : RepsG c0 g H t v := h.imp (fun b o q na => ⟨q, fun z => na (plus_av.mpr (.inl z))⟩) fun _ h => h
theorem rep_plus {t : AV} {v : V} {H' : Hp} (h : RepG c0 g H t v) (s : Same H H') (hn : H a = none) : RepG c0 (g.plus a) H' t v := h.imp (fun b o q na => ⟨s b o q, fun z => (plus_av.mp z).elim na fun e => by rw [e, hn] at q; cases q⟩) fun _ h => h
theorem reps_plus {t : List AV} {v : List V} {H' : Hp} (h : RepsG c0 g H t v) (s : Same H H') (hn : H a = none) : RepsG c0 (g.plus a) H' t v := h.imp (fun b o q na => ⟨s b o q, fun z => (plus_av.mp z).elim na fun e => by rw [e, hn] at q; cases q⟩) fun _ h => h
theorem slot_weak {g g' : G} {o : Option Addr} {sv : Option (Option V)} {s : Slot} (hav : ∀ b, g'.Av b → g.Av b) (hd : g'.D = g.D) (hS : g'.S = g.S) (q : slotOk c0 g H o sv s) : slotOk c0 g' H o sv s := by
  have hi : ∀ (b : Addr) (o : HO), H b = some o → ¬ g.Av b → H b = some o ∧ ¬ g'.Av b := fun b o q na => ⟨q, fun z => na (hav b z)⟩
  have hd' : ∀ b, g.D b → g'.D b := fun b h => by rw [hd]; exact h
  cases s with
  | un => exact q
  | fro t => obtain ⟨a, v, b, c⟩ := q; exact ⟨a, v, b, Rep.imp hi hd' c⟩
  | ml xs => obtain ⟨p, vs, e1, e2, e3, e4⟩ := q; exact ⟨p, vs, e1, e2, e3, RepL.imp hi hd' e4⟩
  | md kd kvs => obtain ⟨p, ws, e1, e2, e3, e4⟩ := q; exact ⟨p, ws, e1, e2, e3.imp hi hd', e4⟩
  | slf c fs => obtain ⟨p, C, dx, vs, e1, e2, e3, e4, e5, e6, e7⟩ := q; exact ⟨p, C, dx, vs, e1, e2, e3, e4, e5, RepL.imp hi hd' e6, hS.trans e7⟩
theorem Rel.minus (R : Rel c0 β (g.plus a) ρ σ H) : Rel c0 β g ρ σ H where
  len := R.len
  sl := fun i s hs => slot_weak (fun b h => plus_av.mpr (.inl h)) rfl rfl (R.sl i s hs)
  out := R.out
  inj := R.inj
  alive := fun b h => R.alive b (.inl h)
  nt := fun b h => R.nt b (.inl h)
  sep := fun i b h => ⟨fun z => (R.sep i b h).1 (.inl z), (R.sep i b h).2⟩
  mb := fun b h => R.mb b (.inl h)
  box := R.box
theorem Rel.plus {H' : Hp} (R : Rel c0 β g ρ σ H) (s : Same H H') (hn : H a = none) (hl : H' a ≠ none) (ht : ∀ ws, H' a ≠ some (.tup ws) := by intro ws; rw [upd_same]; exact fun z => by cases z) : Rel c0 β (g.plus a) ρ σ H' where
  len := R.len
  sl := fun i sl hs => by
    have q := R.sl i sl hs
    have hi : ∀ (b : Addr) (o : HO), H b = some o → ¬ g.Av b → H' b = some o ∧ ¬ (g.plus a).Av b := fun b o q na => ⟨s b o q, fun z => (plus_av.mp z).elim na fun e => by rw [e, hn] at q; cases q⟩
    cases sl with
    | un => exact q
    | fro t => obtain ⟨a, v, b, c⟩ := q; exact ⟨a, v, b, Rep.imp hi (fun _ h => h) c⟩
    | ml xs => obtain ⟨p, vs, e1, e2, e3, e4⟩ := q; exact ⟨p, vs, e1, e2, s _ _ e3, RepL.imp hi (fun _ h => h) e4⟩
    | md kd kvs =>
      obtain ⟨p, ws, e1, e2, e3, e4⟩ := q
      refine ⟨p, ws, e1, e2, e3.imp hi fun _ h => h, ?_⟩
      rcases e4 with ⟨us, e4, e5⟩ | ⟨us, e4, e5⟩
      · exact .inl ⟨us, s _ _ e4, e5⟩
      · exact .inr ⟨us, s _ _ e4, e5⟩
    | slf c fs => obtain ⟨p, C, dx, vs, e1, e2, e3, e4, e5, e6, e7⟩ := q; exact ⟨p, C, dx, vs, e1, e2, e3, s _ _ e4, e5, RepL.imp hi (fun _ h => h) e6, e7⟩
  out := R.out
  inj := R.inj
  alive := fun b h => by
    rcases h with h | h
    · cases q : H b with
      | none => exact absurd q (R.alive b h)
      | some o => rw [s b o q]; exact fun z => by cases z
    · rw [h]; exact hl
  nt := fun b h vs z => by
    rcases h with h | h
    · cases q : H b with
      | none => exact R.alive b h q
      | some o => rw [s b o q] at z; cases z; exact R.nt b h vs q
    · rw [h] at z; exact ht vs z
  sep := fun i b h => ⟨fun z => z.elim (R.sep i b h).1 fun e => R.ownLive h (e ▸ hn), (R.sep i b h).2⟩
  mb := fun b h hb => h.elim (fun z => R.mb b z hb) fun e => β.live R.box hb (e ▸ hn)
  box := β.frame R.box fun b h => by
    cases q : H b with
    | none => exact absurd q (β.live R.box h)
    | some o => exact s b o q
def G.setM (g : G) (M : Addr → Prop) : G := { g with M := M }
def G.own1 (g : G) (j : Nat) (a : Addr) : G := { g with own := fun i => if i = j then some a else g.own i }
theorem own1_same {j : Nat} : (g.own1 j a).own j = some a := by simp [G.own1]
theorem own1_ne {i j : Nat} (h : i ≠ j) : (g.own1 j a).own i = g.own i := by simp [G.own1, h]
theorem own1_av {j : Nat} {b : Addr} (h : (g.own1 j a).Av b) : (g.plus a).Av b := by
  refine plus_av.mpr ?_
  rcases h with h | ⟨i, h⟩ | h
  · exact .inl (.inl h)
  · by_cases hi : i = j
    · subst hi; rw [own1_same] at h; cases h; exact .inr rfl
    · rw [own1_ne hi] at h; exact .inl (.inr (.inl ⟨i, h⟩))
  · exact .inl (.inr (.inr h))
theorem Rel.take {j : Nat} {xs : List AV} {vs : List V} (R : Rel c0 β (g.plus a) ρ σ H) (hj : j < ρ.length) (ho : H a = some (.lst vs)) (na : ¬ g.Av a) (r : RepsG c0 (g.plus a) H xs vs) : Rel c0 β (g.own1 j a) (ρ.set j (.ml xs)) (σ.set j (some (.ref a))) H where
  len := by rw [List.length_set, List.length_set]; exact R.len
  sl := fun i s hs => by
    by_cases hi : i = j
    · subst hi
      rw [List.getElem?_set_self hj] at hs
      cases hs
      rw [own1_same, List.getElem?_set_self (by rw [R.len]; exact hj)]
      exact ⟨a, vs, rfl, rfl, ho, r.imp (fun b o q nb => ⟨q, fun z => nb (own1_av z)⟩) fun _ h => h⟩
    · rw [List.getElem?_set_ne (Ne.symm hi)] at hs
      rw [own1_ne hi, List.getElem?_set_ne (Ne.symm hi)]
      exact slot_weak (fun b h => own1_av h) rfl rfl (R.sl i s hs)
  out := fun i hi => by
    rw [List.length_set] at hi
    rw [own1_ne (by omega)]
    exact R.out i hi
  inj := fun i k b h1 h2 => by
    have nobody : ∀ i, (g.plus a).own i ≠ some a := fun i h => na (.inr (.inl ⟨i, h⟩))
    by_cases hi : i = j
    · by_cases hk : k = j
      · rw [hi, hk]
      · subst hi
        rw [own1_same] at h1
        cases h1
        rw [own1_ne hk] at h2
        exact absurd h2 (nobody k)
    · by_cases hk : k = j
      · subst hk
        rw [own1_same] at h2
        cases h2
        rw [own1_ne hi] at h1
        exact absurd h1 (nobody i)
      · rw [own1_ne hi] at h1
        rw [own1_ne hk] at h2
        exact R.inj i k b h1 h2
  alive := fun b h => R.alive b (.inl h)
  nt := fun b h => R.nt b (.inl h)
  sep := fun i b h => by
    by_cases hi : i = j
    · subst hi
      rw [own1_same] at h
      cases h
      exact ⟨fun z => na (.inl z), fun z => na (.inr (.inr z))⟩
    · rw [own1_ne hi] at h
      exact ⟨fun z => (R.sep i b h).1 (.inl z), (R.sep i b h).2⟩
  mb := fun b h => R.mb b (.inl h)
  box := R.box
theorem ext_own1 {g' : G} {j : Nat} {H' : Hp} (e : Ext g g' H H') (hn : H a = none) : Ext g (g'.own1 j a) H H' where
  keep := e.keep
  live := e.live
  m := e.m
  bsub := e.bsub
  bnew := e.bnew
  dsub := e.dsub
  own := fun i b h => by
    by_cases hi : i = j
    · subst hi; rw [own1_same] at h; cases h; exact .inr hn
    · rw [own1_ne hi] at h; exact e.own i b h
  s := e.s
end
abbrev SemN := Env' → T (List AV × Env')
def newOk (c0 : Gc) (β : BInv) (Ex : XK) (g : G) (σ : L2.St) (H : Hp) (m : T (List AV × Env')) (Q : VK) : Prop :=
  okT c0 β Ex g H m fun g' H' p => ∀ a vs, H a = none → ¬ g'.Av a → H' a = some (.lst vs) → Rel c0 β (g'.plus a) p.2 σ H' → RepsG c0 (g'.plus a) H' p.1 vs → Q (.ref a) H'
def rdN (c0 : Gc) (β : BInv) (Ex : XK) (f : SemN) : TE := fun σ H Q => ∃ g ρ, Rel c0 β g ρ σ H ∧ newOk c0 β Ex g σ H (f ρ) Q
def JN (X : Cx) (ct : CT) (β : BInv) (Ex : XK) (e : Expr) (f : SemN) : Prop := PE X e (rdN (gc X ct) β Ex f)
def fNew (f : SemN) : Sem := fun ρ => (f ρ).bind fun p => .ret (.val (.lst p.1), p.2)
def sSetN (i : Nat) (f : SemN) : SSem := fun ρ => (f ρ).bind fun p => .ret (.nx (p.2.set i (.ml p.1)))
theorem okT_bind0 {c0 : Gc} {β : BInv} {Ex : XK} {α γ : Type} {g : G} {H : Hp} {m : T α} {k : α → T γ} {Q : G → Hp → γ → Prop} (h : okT c0 β Ex g H (m.bind k) Q) {R : G → Hp → α → Prop} (hR : ∀ a, okT c0 β Ex g H (k a) Q → ∀ g' H', Ext g g' H H' → R g' H' a) : okT c0 β Ex g H m R :=
  T.all_mono (T.all_bind.mp h) (fun a q => hR a q) fun _ _ q => q
section
variable {X : Cx} {ct : CT} {β : BInv} {Ex : XK} {e a b : Expr} {es : List Expr} {f : SemN} {fe k : Sem} {m : SemL} {pos p : Pos} {x : Str} {i : Nat}
theorem j_new (h : JN X ct β Ex e f) : JE X ct β Ex e (fNew f) := by
  refine PE.imp h fun σ H Q h => ?_
  obtain ⟨g, ρ, R, h⟩ := h
  refine ⟨g, ρ, R, okT_mono (okT_bind h) fun g' H' p e q a vs hn na ho R' r => ?_⟩
  exact okT_ret q _ R'.minus (show RepG (gc X ct) g' H' (.lst p.1) (.ref a) from rep_lst_new na ho (plus_reps r))
theorem js_setN (i : Nat) (ha : JN X ct β Ex a f) (hN : X.N.Nodup) (hi : X.N[i]? = some x := by rfl) (hx : Loc X.env.scope x := by first | exact Or.inl rfl | exact Or.inr rfl) (hs : swapsWith a (some (.Name x p)) pos.line X.env = pure false := by rfl)
    (hf : X.fn x = true ∨ X.env.scope.names.lookup x = some .local := by first | exact .inl rfl | exact .inr rfl) : JS X ct β Ex (.Assign [.Name x p] a pos) (sSetN i f) := by
  refine PS.imp (ps_set hN hi hx ha hs hf) fun D σ H h => ?_
  obtain ⟨g, ρ, R, h⟩ := h
  refine ⟨g, ρ, R, okT_bind0 h fun p q g' H' e a vs hn na ho R' r => ?_⟩
  show D.nx (σ.set i (some (.ref a))) H'
  by_cases hj : i < p.2.length
  · exact okT_ret' q (ext_own1 e hn) _ (R'.take hj ho na r)
  · have q2 := okT_ret' q e
    rw [set_ge hj] at q2
    have : σ.set i (some (V.ref a)) = σ := List.set_eq_of_length_le (by rw [R'.len]; omega)
    rw [this]
    exact q2 σ R'.minus
def nLst (k : SemL) : SemN := fun ρ => (k ρ).bind fun p => if p.1.length ≤ big then .ret (p.1, p.2) else .bad
theorem jn_lst (h : JL X ct β Ex es m) : JN X ct β Ex (.List es pos) (nLst m) := by
  refine PE.imp (pe_lst h) fun σ H Q h => ?_
  obtain ⟨g, ρ, R, h⟩ := h
  refine ⟨g, ρ, R, okT_bind0 h fun p q g1 H1 e vs R1 rx => ?_⟩
  by_cases hl : p.1.length ≤ big
  · rw [if_pos hl] at q
    refine ⟨by rw [rx.length]; exact Nat.le_trans hl big_line, fun l hl => ?_⟩
    have s := same_upd (o := .lst vs) hl
    have hn : H l = none := none_back e hl
    exact okT_ret' q (e.trans (Ext.same s)) l vs hn (R1.freshAv hl) upd_same (R1.plus s hl (by rw [upd_same]; exact fun z => by cases z)) (reps_plus rx s hl)
  · rw [if_neg hl] at q
    exact (show False from q).elim
def nList (f : Sem) : SemN := fun ρ => (f ρ).bind fun p => (lift (rs p.1 p.2)).bind fun a => (lift (seqOf a)).bind fun xs => .ret (xs, p.2)
theorem seq_sq {c0 : Gc} {g : G} {H : Hp} {t : AV} {v : V} {xs : List AV} (h : RepR c0 g H t v) (e : seqOf t = some xs) : ∃ a vs, v = .ref a ∧ (SqL c0.K H a vs ∨ SqT c0.K H a vs) ∧ RepsG c0 g H xs vs := by
  cases t with
  | tup ys =>
    cases e
    obtain ⟨a, vs, rfl, q, r⟩ := h.tup
    exact ⟨a, vs, rfl, .inr q, r⟩
  | lst ys =>
    cases e
    obtain ⟨a, vs, rfl, q, r⟩ := h.lst
    exact ⟨a, vs, rfl, .inl q, r⟩
  | _ => cases e
theorem jn_list (hg : Gl X "list") (hm : X.mg "list" = none) (ha : JE X ct β Ex a fe) (he : starEach [a] X.env = (false, eval a X.env) :: starEach [] X.env := by rfl) : JN X ct β Ex (.Call (.Name "list" p) [a] [] pos) (nList fe) := by
  refine PE.imp (pe_callTy call_list_of hg hm (by decide +kernel) (pa_cons ha pa_nil he) (by decide +kernel) (by decide +kernel) he) fun σ H Q h => ?_
  obtain ⟨g, ρ, R, h⟩ := h
  refine ⟨g, ρ, R, okT_bind0 h fun p q g1 H1 e v R1 rv => ?_⟩
  obtain ⟨u, eu, h2⟩ := okT_lift q
  obtain ⟨xs, ex, h3⟩ := okT_lift h2
  obtain ⟨b, vs, rfl, hs, r⟩ := seq_sq (rv.rs R1 eu) ex
  refine ⟨b, vs, rfl, hs, fun l hl => ?_⟩
  have s := same_upd (o := .lst vs) hl
  exact okT_ret' h3 (e.trans (Ext.same s)) l vs (none_back e hl) (R1.freshAv hl) upd_same (R1.plus s hl (by rw [upd_same]; exact fun z => by cases z)) (reps_plus r s hl)
end
section
variable {c0 : Gc} {β : BInv} {g : G} {H : Hp} {ρ : Env'} {σ : L2.St}
theorem Rel.ml {j : Nat} {xs : List AV} (R : Rel c0 β g ρ σ H) (h : ρ[j]? = some (.ml xs)) : ∃ p vs, g.own j = some p ∧ σ[j]? = some (some (.ref p)) ∧ H p = some (.lst vs) ∧ RepsG c0 g H xs vs := R.sl j _ h
theorem ext_upd {j : Nat} {p : Addr} {o : HO} (ho : g.own j = some p) : Ext g g H (upd H p o) := ⟨fun a ob h hn _ => by rw [upd_ne (fun e => hn j (by rw [e]; exact ho))]; exact h, fun a h => by
  by_cases e : a = p
  · rw [e, upd_same]; exact fun z => by cases z
  · rw [upd_ne e]; exact h, rfl, fun _ h => h, fun _ h => .inl h, fun _ h => h, fun i a h => .inl ⟨i, h⟩, rfl⟩
theorem Rel.upd {j : Nat} {p : Addr} {ys : List AV} {ws : List V} (R : Rel c0 β g ρ σ H) (hj : j < ρ.length) (ho : g.own j = some p) (hσ : σ[j]? = some (some (.ref p))) (r : RepsG c0 g H ys ws) : Rel c0 β g (ρ.set j (.ml ys)) σ (L2.upd H p (.lst ws)) := by
  have e : Ext g g H (L2.upd H p (.lst ws)) := ext_upd ho
  refine R.put e rfl (fun _ _ => rfl) hj (fun _ _ => rfl) (fun i a o hi h1 h2 => ?_) ?_ ?_ fun a h => ?_
  · rw [upd_ne (fun z => hi (R.inj i j a h1 (by rw [z]; exact ho)))]
    exact h2
  · refine β.frame R.box fun a h => ?_
    rw [upd_ne (fun z => (R.sep j p ho).2 (by rw [← z]; exact h))]
  · exact ⟨p, ws, ho, hσ, upd_same, e.reps r⟩
  · rw [ho] at h
    cases h
    exact ⟨(R.sep j p ho).1, (R.sep j p ho).2, fun i hi h => hi (R.inj i j p h ho)⟩
end
def isMl (ρ : Env') (j : Nat) : Option (List AV) := match ρ[j]? with
  | some (.ml xs) => some xs
  | _ => none
theorem isMl_eq {ρ : Env'} {j : Nat} {xs : List AV} (h : isMl ρ j = some xs) : ρ[j]? = some (.ml xs) := by
  unfold isMl at h
  cases e : ρ[j]? with
  | none => rw [e] at h; cases h
  | some s =>
    rw [e] at h
    cases s with
    | ml ys => cases h; rfl
    | _ => cases h
def fAppend (j : Nat) (f : Sem) : Sem := fun ρ => (lift (isMl ρ j)).bind fun _ => (f ρ).bind fun p => (frz p).bind fun q => (lift (isMl q.2 j)).bind fun xs => if xs.length < big then .ret (.val .non, q.2.set j (.ml (xs ++ [q.1]))) else .bad
def lstOf : AV → Option (List AV)
  | .lst xs => some xs
  | _ => none
def fExtend (j : Nat) (f : Sem) : Sem := fun ρ => (lift (isMl ρ j)).bind fun _ => (f ρ).bind fun p => (lift (rs p.1 p.2)).bind fun a => (lift (lstOf a)).bind fun ys => (lift (isMl p.2 j)).bind fun xs => if xs.length + ys.length ≤ big then .ret (.val .non, p.2.set j (.ml (xs ++ ys))) else .bad
def fPopAt (j : Nat) (f : Sem) : Sem := fun ρ => (lift (isMl ρ j)).bind fun _ => (f ρ).bind fun p => (lift (rs p.1 p.2)).bind fun a => (lift (intOf a)).bind fun i => (lift (isMl p.2 j)).bind fun xs => if 0 ≤ i ∧ below i 62 = true then (lift xs[i.toNat]?).bind fun t => .ret (.val t, p.2.set j (.ml (xs.eraseIdx i.toNat))) else .bad
def fPop (j : Nat) : Sem := fun ρ => (lift (isMl ρ j)).bind fun xs => (lift xs[xs.length - 1]?).bind fun t => .ret (.val t, ρ.set j (.ml xs.dropLast))
section
variable {X : Cx} {ct : CT} {β : BInv} {Ex : XK} {a : Expr} {f : Sem} {pos p apos : Pos} {x : Str}
theorem rh_non {c0 : Gc} {g : G} {σ : L2.St} {H : Hp} : RepH c0 g σ H (.val .non) .non := (rep_non : RepG c0 g H .non .non)
theorem rh_val {c0 : Gc} {g : G} {σ : L2.St} {H : Hp} {t : AV} {v : V} (h : RepG c0 g H t v) : RepH c0 g σ H (.val t) v := h
theorem tyV_ml {c0 : Gc} {H : Hp} {p : Addr} {vs : List V} (h : H p = some (.lst vs)) : tyV c0.K "list" (.ref p) H := .inl ⟨rfl, _, .of h⟩
theorem lt_of_ml {ρ : Env'} {j : Nat} {s : Slot} (h : ρ[j]? = some s) : j < ρ.length := (List.getElem?_eq_some_iff.mp h).1
theorem j_append (j : Nat) (ha : JE X ct β Ex a f) (hpe : ∀ te : TE, PE X a te → PE X (.Call (.Attribute (.Name x p) "append" apos) [a] [] pos) (tBM X.K "list" rAppend (tVar j) (tCons te tNil)) := by intro te he; exact pe_bm PySem.F.plainAttrs_list PySem.F.slot_list_append PySem.F.type_list_append mt_append (pv j) (pa_cons he pa_nil)) : JE X ct β Ex (.Call (.Attribute (.Name x p) "append" apos) [a] [] pos) (fAppend j f) := by
  refine PE.imp (hpe _ ha) fun σ H Q h => ?_
  obtain ⟨g, ρ, R, h⟩ := h
  obtain ⟨xs0, e0, h⟩ := okT_lift h
  obtain ⟨q0, vs0, _, hσ, ho0, _⟩ := R.ml (isMl_eq e0)
  refine ⟨.ref q0, hσ, tyV_ml (c0 := gc X ct) ho0, g, ρ, R, okT_mono (okT_bind h) fun g1 H1 q e1 h1 v R1 rv => ?_⟩
  obtain ⟨g2, s, e2, R2, rs, h2⟩ := frz_ok R1 rv h1
  obtain ⟨xs, ex, h3⟩ := okT_lift h2
  have hm := isMl_eq ex
  obtain ⟨q1, vs, hq, hσ1, ho, r⟩ := R2.ml hm
  rw [hσ] at hσ1
  cases hσ1
  by_cases hl : xs.length < big
  · rw [if_pos hl] at h3
    refine ⟨q0, vs, v, rfl, rfl, ho, by rw [r.length]; exact Nat.lt_of_lt_of_le hl big_line, ?_⟩
    exact okT_ret' h3 (ext_upd hq) _ (R2.upd (lt_of_ml hm) hq hσ (r.append (.one rs))) rh_non
  · rw [if_neg hl] at h3
    exact (show False from h3).elim
theorem eraseIdx_reps {c0 : Gc} {A D : Addr → Prop} {H : Hp} : ∀ {xs : List AV} {vs : List V} (i : Nat), RepL c0 A D H xs vs → RepL c0 A D H (xs.eraseIdx i) (vs.eraseIdx i)
  | [], vs, i, r => by rw [RepL] at r; subst r; exact .nil
  | x :: xs, vs, 0, r => by
    rw [RepL] at r
    obtain ⟨v, r', rfl, _, h⟩ := r
    exact h
  | x :: xs, vs, i + 1, r => by
    rw [RepL] at r
    obtain ⟨v, r', rfl, h1, h⟩ := r
    exact .cons h1 (eraseIdx_reps i h)
theorem j_popAt (j : Nat) (ha : JE X ct β Ex a f) (hpe : ∀ te : TE, PE X a te → PE X (.Call (.Attribute (.Name x p) "pop" apos) [a] [] pos) (tBM X.K "list" rPopAt (tVar j) (tCons te tNil)) := by intro te he; exact pe_bm PySem.F.plainAttrs_list PySem.F.slot_list_pop PySem.F.type_list_pop mt_popAt (pv j) (pa_cons he pa_nil)) : JE X ct β Ex (.Call (.Attribute (.Name x p) "pop" apos) [a] [] pos) (fPopAt j f) := by
  refine PE.imp (hpe _ ha) fun σ H Q h => ?_
  obtain ⟨g, ρ, R, h⟩ := h
  obtain ⟨xs0, e0, h⟩ := okT_lift h
  obtain ⟨q0, vs0, _, hσ, ho0, _⟩ := R.ml (isMl_eq e0)
  refine ⟨.ref q0, hσ, tyV_ml (c0 := gc X ct) ho0, g, ρ, R, okT_mono (okT_bind h) fun g1 H1 q e1 h1 v R1 rv => ?_⟩
  obtain ⟨u, eu, h2⟩ := okT_lift h1
  obtain ⟨i, ei, h2⟩ := okT_lift h2
  obtain ⟨xs, ex, h3⟩ := okT_lift h2
  have hm := isMl_eq ex
  obtain ⟨q1, vs, hq, hσ1, ho, r⟩ := R1.ml hm
  rw [hσ] at hσ1
  cases hσ1
  have := intOf_eq ei
  subst this
  have ev := (rv.rs R1 eu).int
  subst ev
  by_cases hb : 0 ≤ i ∧ below i 62 = true
  · have hb2 : 0 ≤ i ∧ i < 2 ^ 62 := ⟨hb.1, (below62 hb.2).2⟩
    rw [if_pos hb] at h3
    obtain ⟨t, et, h4⟩ := okT_lift h3
    obtain ⟨w, ew, rw'⟩ := r.get' et
    have hlt : i.toNat < vs.length := (List.getElem?_eq_some_iff.mp ew).1
    refine ⟨q0, vs, i, i.toNat, w, rfl, rfl, ho, by omega, by omega, seqIndex_of hb.1 (by omega), ew, ?_⟩
    exact okT_ret' h4 (ext_upd hq) _ (R1.upd (lt_of_ml hm) hq hσ (eraseIdx_reps i.toNat r)) (rh_val ((ext_upd hq).rep rw'))
  · rw [if_neg hb] at h3
    exact (show False from h3).elim
end
end Dn
set_option Elab.async false
set_option linter.all false
set_option maxRecDepth 100000
namespace Dn
open PySem PySem.Spec PyProof.Rows L2
def noExc {α : Type} : T α → T α
  | .ret a => .ret a
  | .bad => .bad
  | .exc _ _ => .bad
  | .draw n k => .draw n fun r => noExc (k r)
def wipeE (ρ : Env') : List Nat → Env'
  | [] => ρ
  | v :: vs => (wipeE ρ vs).set v .un
def froOf : Option Slot → Slot
  | some (.fro t) => .fro t
  | _ => .un
def backE (ρ0 ρ : Env') : List Nat → Env'
  | [] => ρ
  | v :: vs => (backE ρ0 ρ vs).set v (froOf ρ0[v]?)
def lcL (vs : List Nat) (k : GSem) (tt : SemB) (el : Sem) : List AV → List AV → Env' → T (List AV × Env')
  | [], acc, ρ => .ret (acc, ρ)
  | x :: xs, acc, ρ => (noExc ((k x (wipeE ρ vs)).bind fun ρ1 => (tt ρ1).bind fun p => if p.1 then (el p.2).bind fun q => (frz q).bind fun s => .ret (acc ++ [s.1], s.2) else .ret (acc, p.2))).bind fun r => lcL vs k tt el xs r.1 r.2
def nLc (vs : List Nat) (it : SemI) (k : GSem) (tt : SemB) (el : Sem) : SemN := fun ρ => (it ρ).bind fun p => if p.1.length < big then (lcL vs k tt el p.1 [] p.2).bind fun r => .ret (r.1, backE p.2 r.2 vs) else .bad
theorem wipeE_length (ρ : Env') : ∀ vs : List Nat, (wipeE ρ vs).length = ρ.length
  | [] => rfl
  | v :: vs => by unfold wipeE; rw [List.length_set, wipeE_length ρ vs]
theorem wipe_get {σ : L2.St} : ∀ {vs : List Nat} {i : Nat}, i ∉ vs → (wipe σ vs)[i]? = σ[i]?
  | [], _, _ => rfl
  | v :: vs, i, h => by
    unfold wipe
    rw [List.getElem?_set_ne (fun e => h (by simp [e]))]
    exact wipe_get fun z => h (List.mem_cons_of_mem _ z)
theorem wipe_none {σ : L2.St} : ∀ {vs : List Nat} {i : Nat}, i ∈ vs → i < σ.length → (wipe σ vs)[i]? = some none
  | [], _, h, _ => by simp at h
  | v :: vs, i, h, hl => by
    unfold wipe
    by_cases e : v = i
    · subst e
      rw [List.getElem?_set_self (by rw [wipe_length]; exact hl)]
    · rw [List.getElem?_set_ne e]
      exact wipe_none ((List.mem_cons.mp h).resolve_left fun z => e z.symm) hl
theorem wipe_agree {σ σ' : L2.St} {is vs : List Nat} (h : Agree is σ σ') (hs : ∀ i ∈ is, i ∈ vs) : wipe σ' vs = wipe σ vs := by
  refine List.ext_getElem? fun i => ?_
  by_cases hi : i ∈ vs
  · by_cases hl : i < σ.length
    · rw [wipe_none hi hl, wipe_none hi (by rw [h.1]; exact hl)]
    · rw [List.getElem?_eq_none (by rw [wipe_length, h.1]; omega), List.getElem?_eq_none (by rw [wipe_length]; omega)]
  · rw [wipe_get hi, wipe_get hi, h.2 i fun z => hi (hs i z)]
theorem wipe_wipe {σ : L2.St} {vs : List Nat} : wipe (wipe σ vs) vs = wipe σ vs :=
  wipe_agree (is := vs) ⟨wipe_length σ vs, fun i h => wipe_get h⟩ fun _ h => h
section
variable {c0 : Gc} {β : BInv} {g : G} {H : Hp} {ρ : Env'} {σ : L2.St}
theorem Rel.drop1 {j : Nat} {σ' : L2.St} (R : Rel c0 β g ρ σ H) (hl : σ'.length = σ.length) (hs : ∀ i, i ≠ j → σ'[i]? = σ[i]?) : Rel c0 β (g.no j) (ρ.set j .un) σ' H := by
  by_cases hj : j < ρ.length
  · refine R.put (ext_no g j H) hl hs hj (fun i hi => own_no_ne hi) (fun _ _ _ _ _ h => h) R.box ?_ fun a h => by rw [own_no] at h; cases h
    rw [own_no]
    rfl
  · have e1 : ρ.set j .un = ρ := set_ge hj
    have e2 : g.no j = g := by
      unfold G.no
      cases g
      congr 1
      funext i
      by_cases h : i = j
      · subst h
        rw [if_pos rfl]
        exact (R.out i (by omega)).symm
      · rw [if_neg h]
    have e3 : σ' = σ := by
      refine List.ext_getElem? fun i => ?_
      by_cases h : i = j
      · subst h
        rw [List.getElem?_eq_none (by rw [hl, R.len]; omega), List.getElem?_eq_none (by rw [R.len]; omega)]
      · exact hs i h
    rw [e1, e2, e3]
    exact R
def G.nos (g : G) : List Nat → G
  | [] => g
  | v :: vs => (g.nos vs).no v
theorem ext_nos (g : G) (H : Hp) : ∀ vs : List Nat, Ext g (g.nos vs) H H
  | [] => .refl g H
  | v :: vs => (ext_nos g H vs).trans (ext_no _ v H)
theorem Rel.wipe (R : Rel c0 β g ρ σ H) : ∀ vs : List Nat, Rel c0 β (g.nos vs) (wipeE ρ vs) (L2.wipe σ vs) H
  | [] => R
  | v :: vs => by
    unfold wipeE L2.wipe
    exact (R.wipe vs).drop1 (List.length_set ..) fun i hi => List.getElem?_set_ne (Ne.symm hi)
theorem Rel.slotFro {j : Nat} (R : Rel c0 β g ρ σ H) : slotOk c0 g H none σ[j]? (froOf ρ[j]?) := by
  cases h : ρ[j]? with
  | none => rfl
  | some s =>
    have q := R.sl j s h
    cases s with
    | fro t => exact ⟨rfl, q.2⟩
    | un => rfl
    | ml xs => rfl
    | md kd kvs => rfl
    | slf c fs => rfl
theorem Rel.back {g' : G} {H' : Hp} {ρ' : Env'} (R : Rel c0 β g ρ σ H) (e : Ext g g' H H') : ∀ (vs : List Nat) (σ' : L2.St), Rel c0 β g' ρ' σ' H' → σ'.length = σ.length → Rel c0 β (g'.nos vs) (backE ρ ρ' vs) (vs.foldr (fun v s => s.set v ((σ[v]?).getD none)) σ') H'
  | [], σ', R', _ => R'
  | v :: vs, σ', R', hl => by
    have ih := R.back e vs σ' R' hl
    have hl2 : (vs.foldr (fun v s => s.set v ((σ[v]?).getD none)) σ').length = σ.length := by
      clear ih
      induction vs with
      | nil => exact hl
      | cons w ws ih2 => rw [List.foldr_cons, List.length_set]; exact ih2
    show Rel c0 β ((g'.nos vs).no v) ((backE ρ ρ' vs).set v (froOf ρ[v]?)) ((vs.foldr (fun v s => s.set v ((σ[v]?).getD none)) σ').set v ((σ[v]?).getD none)) H'
    by_cases hv : v < (backE ρ ρ' vs).length
    · refine ih.put (ext_no _ v H') (List.length_set ..) (fun i hi => List.getElem?_set_ne (Ne.symm hi)) hv (fun i hi => own_no_ne hi) (fun _ _ _ _ _ h => h) ih.box ?_ fun a h => by rw [own_no] at h; cases h
      rw [own_no]
      have hvσ : v < σ.length := by rw [← hl2, ih.len]; exact hv
      rw [List.getElem?_set_self (by rw [hl2]; exact hvσ)]
      have q := R.slotFro (j := v)
      rw [List.getElem?_eq_getElem hvσ] at q ⊢
      exact slotOk_ext ((e.trans (ext_nos g' H' vs)).trans (ext_no _ v H')) (fun a o h _ => by cases h) q
    · have e1 : (backE ρ ρ' vs).set v (froOf ρ[v]?) = backE ρ ρ' vs := set_ge hv
      have e2 : (vs.foldr (fun v s => s.set v ((σ[v]?).getD none)) σ').set v ((σ[v]?).getD none) = vs.foldr (fun v s => s.set v ((σ[v]?).getD none)) σ' := List.set_eq_of_length_le (by rw [ih.len]; omega)
      have e3 : (g'.nos vs).no v = g'.nos vs := by
        unfold G.no
        generalize hg : g'.nos vs = gg
        rw [hg] at ih
        cases gg
        congr 1
        funext i
        by_cases h : i = v
        · subst h
          rw [if_pos rfl]
          exact (ih.out i (by omega)).symm
        · rw [if_neg h]
      rw [e1, e2, e3]
      exact ih
theorem restore_eq {σ : L2.St} : ∀ vs : List Nat, vs.foldr (fun v s => s.set v ((σ[v]?).getD none)) (L2.wipe σ vs) = σ := by
  intro vs
  refine List.ext_getElem? fun i => ?_
  have key : ∀ (ws : List Nat) (τ : L2.St), τ.length = σ.length → (∀ (i : Nat), i ∉ ws → τ[i]? = σ[i]?) → ∀ (i : Nat), (ws.foldr (fun v s => s.set v ((σ[v]?).getD none)) τ)[i]? = σ[i]? ∧ (ws.foldr (fun v s => s.set v ((σ[v]?).getD none)) τ).length = σ.length := by
    intro ws
    induction ws with
    | nil => intro τ hl h i; exact ⟨h i (by simp), hl⟩
    | cons w ws ih =>
      intro τ hl h i
      have lenA : ∀ (us : List Nat), (us.foldr (fun v s => s.set v ((σ[v]?).getD none)) τ).length = σ.length := by
        intro us
        induction us with
        | nil => exact hl
        | cons u us ih2 => rw [List.foldr_cons, List.length_set]; exact ih2
      have gen : ∀ (us : List Nat) (i : Nat), i ∈ us ∨ i ∉ us → (us.foldr (fun v s => s.set v ((σ[v]?).getD none)) τ)[i]? = if i ∈ us then σ[i]? else τ[i]? := by
        intro us
        induction us with
        | nil => intro i _; simp
        | cons u us ih2 =>
          intro i _
          rw [List.foldr_cons]
          by_cases hu : u = i
          · subst hu
            rw [if_pos (by simp)]
            by_cases hlt : u < σ.length
            · rw [List.getElem?_set_self (by rw [lenA]; exact hlt), List.getElem?_eq_getElem hlt]
              rfl
            · rw [List.getElem?_eq_none (by rw [List.length_set, lenA]; omega), List.getElem?_eq_none (by omega)]
          · rw [List.getElem?_set_ne hu, ih2 i (Classical.em _)]
            by_cases hm : i ∈ us
            · rw [if_pos hm, if_pos (List.mem_cons_of_mem _ hm)]
            · rw [if_neg hm, if_neg (fun z => (List.mem_cons.mp z).elim (fun e => hu e.symm) hm)]
      refine ⟨?_, lenA _⟩
      rw [gen _ i (Classical.em _)]
      by_cases hm : i ∈ w :: ws
      · rw [if_pos hm]
      · rw [if_neg hm]
        exact h i hm
  exact (key vs (L2.wipe σ vs) (wipe_length σ vs) (fun i h => wipe_get h) i).1
theorem nos_av {g : G} {a : Addr} : ∀ {vs : List Nat}, (g.nos vs).Av a → g.Av a
  | [], h => h
  | v :: vs, h => by
    refine nos_av (vs := vs) ?_
    rcases h with h | ⟨i, h⟩ | h
    · exact .inl h
    · unfold G.nos G.no at h
      simp only at h
      split at h
      · cases h
      · exact .inr (.inl ⟨i, h⟩)
    · exact .inr (.inr h)
theorem nos_M {g : G} : ∀ vs : List Nat, (g.nos vs).M = g.M
  | [] => rfl
  | v :: vs => by unfold G.nos G.no; exact nos_M vs
end
section
variable {c0 : Gc} {β : BInv} {g g' : G} {H H' : Hp} {ρ : Env'} {σ : L2.St} {D : Addr}
theorem rep_updD {o : HO} {t : AV} {v : V} (hM : g.M D) (h : RepG c0 g (upd H D o) t v) : RepG c0 g H t v := h.imp (fun a ob q na => ⟨by
  by_cases e : a = D
  · subst e; exact absurd (.inl hM) na
  · rw [upd_ne e] at q; exact q, na⟩) fun _ h => h
theorem upd_av {o : HO} (hM : g.M D) : ∀ (a : Addr) (ob : HO), H a = some ob → ¬ g.Av a → upd H D o a = some ob ∧ ¬ g.Av a := fun a ob q na => ⟨by
  by_cases e : a = D
  · subst e; exact absurd (.inl hM) na
  · rw [upd_ne e]; exact q, na⟩
theorem rep_updL {o : HO} {t : List AV} {v : List V} (hM : g.M D) (h : RepsG c0 g H t v) : RepsG c0 g (upd H D o) t v := h.imp (upd_av hM) fun _ h => h
theorem Rel.updM {o : HO} (R : Rel c0 β g ρ σ H) (hM : g.M D) (ht : ∀ ws, o ≠ .tup ws := by exact fun _ z => by cases z) : Rel c0 β g ρ σ (L2.upd H D o) where
  len := R.len
  sl := fun i s hs => by
    have q := R.sl i s hs
    have hi := upd_av (H := H) (o := o) hM
    have hp : ∀ (p : Addr) (ob : HO), g.own i = some p → H p = some ob → L2.upd H D o p = some ob := fun p ob h1 h2 => by
      rw [upd_ne (fun e => (R.sep i p h1).1 (by rw [e]; exact hM))]; exact h2
    cases s with
    | un => exact q
    | fro t => obtain ⟨a, v, b, c⟩ := q; exact ⟨a, v, b, Rep.imp hi (fun _ h => h) c⟩
    | ml xs => obtain ⟨p, vs, e1, e2, e3, e4⟩ := q; exact ⟨p, vs, e1, e2, hp p _ e1 e3, RepL.imp hi (fun _ h => h) e4⟩
    | md kd kvs =>
      obtain ⟨p, ws, e1, e2, e3, e4⟩ := q
      refine ⟨p, ws, e1, e2, e3.imp hi fun _ h => h, ?_⟩
      rcases e4 with ⟨us, e4, e5⟩ | ⟨us, e4, e5⟩
      · exact .inl ⟨us, hp p _ e1 e4, e5⟩
      · exact .inr ⟨us, hp p _ e1 e4, e5⟩
    | slf c fs => obtain ⟨p, C, dx, vs, e1, e2, e3, e4, e5, e6, e7⟩ := q; exact ⟨p, C, dx, vs, e1, e2, e3, hp p _ e1 e4, e5, RepL.imp hi (fun _ h => h) e6, e7⟩
  out := R.out
  inj := R.inj
  alive := fun b h => by
    by_cases e : b = D
    · rw [e, upd_same]; exact fun z => by cases z
    · rw [upd_ne e]; exact R.alive b h
  nt := fun b h vs z => by
    by_cases e : b = D
    · rw [e, upd_same] at z; cases z; exact ht vs rfl
    · rw [upd_ne e] at z; exact R.nt b h vs z
  sep := R.sep
  mb := R.mb
  box := β.frame R.box fun b h => by rw [upd_ne (fun e => R.mb D hM (by rw [← e]; exact h))]
theorem ext_updB {o : HO} (e : Ext g g' H H') (hD : H D ≠ none) : Ext g g' (upd H D o) (upd H' D o) where
  keep := fun a ob h h1 h2 => by
    by_cases ea : a = D
    · rw [ea, upd_same] at h ⊢; exact h
    · rw [upd_ne ea] at h ⊢; exact e.keep a ob h h1 h2
  live := fun a h => by
    by_cases ea : a = D
    · rw [ea, upd_same]; exact fun z => by cases z
    · rw [upd_ne ea] at h ⊢; exact e.live a h
  m := e.m
  bsub := e.bsub
  bnew := fun a h => (e.bnew a h).imp id fun z => by rw [upd_ne (fun ea => hD (by rw [← ea]; exact z))]; exact z
  dsub := e.dsub
  own := fun i a h => (e.own i a h).imp id fun z => by rw [upd_ne (fun ea => hD (by rw [← ea]; exact z))]; exact z
  s := e.s
theorem ext_of_plusD {H1 : Hp} (e : Ext (g.plus D) g' (upd H1 D (.lst [])) (upd H' D (.lst []))) (hl : H' D ≠ none) (nD : H1 D = none) : Ext g (g'.setM g.M) H1 H' where
  keep := fun a o h h1 h2 => by
    have ne : a ≠ D := fun ea => by rw [ea, nD] at h; cases h
    have q := e.keep a o (by rw [upd_ne ne]; exact h) h1 h2
    rw [upd_ne ne] at q
    exact q
  live := fun a h => by
    by_cases ea : a = D
    · rw [ea]; exact hl
    · have q := e.live a (by rw [upd_ne ea]; exact h)
      rw [upd_ne ea] at q
      exact q
  m := rfl
  bsub := e.bsub
  bnew := fun a h => (e.bnew a h).imp id fun z => by
    by_cases ea : a = D
    · rw [ea]; exact nD
    · rw [upd_ne ea] at z; exact z
  dsub := e.dsub
  own := fun i a h => (e.own i a h).imp id fun z => by
    by_cases ea : a = D
    · rw [ea]; exact nD
    · rw [upd_ne ea] at z; exact z
  s := e.s
theorem nos_plus {H1 : Hp} (e : g'.M = (g.plus D).M) (vs : List Nat) : ((g'.setM g.M).nos vs).plus D = g'.nos vs := by
  have h1 : ∀ vs : List Nat, ((g'.setM g.M).nos vs).own = (g'.nos vs).own ∧ ((g'.setM g.M).nos vs).B = (g'.nos vs).B ∧ ((g'.setM g.M).nos vs).D = (g'.nos vs).D ∧ ((g'.setM g.M).nos vs).S = (g'.nos vs).S := by
    intro vs
    induction vs with
    | nil => exact ⟨rfl, rfl, rfl, rfl⟩
    | cons v vs ih =>
      unfold G.nos G.no
      exact ⟨by simp only [ih.1], ih.2.1, ih.2.2.1, ih.2.2.2⟩
  obtain ⟨h1, h2, h3, h6⟩ := h1 vs
  have h4 : ((g'.setM g.M).nos vs).M = g.M := nos_M vs
  have h5 : (g'.nos vs).M = (g.plus D).M := (nos_M vs).trans e
  generalize (g'.setM g.M).nos vs = x at *
  generalize g'.nos vs = y at *
  cases x
  cases y
  simp only at h1 h2 h3 h4 h5 h6
  subst h1 h2 h3 h4 h5 h6
  rfl
theorem backE_set {ρ0 : Env'} : ∀ (vs : List Nat) (ρ : Env') (w : Nat) (s : Slot), w ∈ vs → backE ρ0 (ρ.set w s) vs = backE ρ0 ρ vs
  | [], _, _, _, h => by simp at h
  | v :: vs, ρ, w, s, h => by
    unfold backE
    by_cases hw : w ∈ vs
    · rw [backE_set vs ρ w s hw]
    · have e : w = v := (List.mem_cons.mp h).resolve_right hw
      subst e
      have out : ∀ (us : List Nat) (ρ : Env'), w ∉ us → backE ρ0 (ρ.set w s) us = (backE ρ0 ρ us).set w s := by
        intro us
        induction us with
        | nil => intro ρ _; rfl
        | cons u us ih =>
          intro ρ hu
          unfold backE
          rw [ih ρ fun z => hu (List.mem_cons_of_mem _ z), List.set_comm _ _ (fun e => hu (by simp [e]))]
      rw [out vs ρ hw, List.set_set]
theorem backE_wipe {ρ0 : Env'} (vs : List Nat) (ρ : Env') : backE ρ0 (wipeE ρ vs) vs = backE ρ0 ρ vs := by
  have gen : ∀ us : List Nat, (∀ u ∈ us, u ∈ vs) → backE ρ0 (wipeE ρ us) vs = backE ρ0 ρ vs := by
    intro us
    induction us with
    | nil => intro _; rfl
    | cons u us ih =>
      intro h
      unfold wipeE
      rw [backE_set vs _ u _ (h u (by simp)), ih fun w hw => h w (List.mem_cons_of_mem _ hw)]
  exact gen vs fun _ h => h
theorem Rel.backD {g0 : G} {H0 : Hp} {σ' : L2.St} {ρ' : Env'} {o : HO} (R : Rel c0 β g0 ρ σ (L2.upd H0 D o)) (e : Ext g0 g' (L2.upd H0 D o) (L2.upd H' D o)) (R' : Rel c0 β g' ρ' σ' H') (hl : σ'.length = σ.length) (vs : List Nat) (hM : g'.M D) (ho : H' D ≠ none) (ht : ∀ ws, o ≠ .tup ws := by exact fun _ z => by cases z) :
    Rel c0 β (g'.nos vs) (backE ρ ρ' vs) (vs.foldr (fun v s => s.set v ((σ[v]?).getD none)) σ') H' := by
  have h1 := R.back e vs σ' (R'.updM hM ht) hl
  cases q : H' D with
  | none => exact absurd q ho
  | some ob =>
    have h2 := h1.updM (D := D) (o := ob) (by rw [nos_M]; exact hM) (fun ws z => R'.nt D hM ws (by rw [q, z]))
    rw [upd_upd] at h2
    have e : L2.upd H' D ob = H' := by
      funext b
      by_cases hb : b = D
      · subst hb; rw [upd_same, q]
      · rw [upd_ne hb]
    rw [e] at h2
    exact h2
def okD {α : Type} (D : Addr) (g : G) (H : Hp) (m : T α) (Q : G → Hp → α → Prop) : Prop := m.all (fun a => ∀ g' H', Ext g g' (upd H D (.lst [])) (upd H' D (.lst [])) → Q g' H' a) fun _ _ => False
def NoE {α : Type} (m : T α) : Prop := ∀ (Q : α → Prop) (E : Nat → List AV → Prop), m.all Q E → m.all Q fun _ _ => False
theorem noE_noExc {α : Type} (m : T α) : NoE (noExc m) := by
  intro Q E h
  induction m with
  | ret a => exact h
  | bad => exact h
  | exc c xs => exact h
  | draw n k ih => exact fun r hr => ih r (h r hr)
theorem NoE.bind {α γ : Type} {m : T α} {k : α → T γ} (h : NoE m) (hk : ∀ a, NoE (k a)) : NoE (m.bind k) := fun Q E q =>
  T.all_bind.mpr (T.all_mono (h _ _ (T.all_bind.mp q)) (fun a q => hk a Q E q) fun _ _ z => z)
theorem noE_ret {α : Type} (a : α) : NoE (T.ret a) := fun _ _ h => h
theorem lcL_noExc (vs : List Nat) (k : GSem) (tt : SemB) (el : Sem) : ∀ (xs acc : List AV) (ρ : Env'), NoE (lcL vs k tt el xs acc ρ)
  | [], _, _ => noE_ret _
  | _ :: xs, _, _ => (noE_noExc _).bind fun r => lcL_noExc vs k tt el xs r.1 r.2
theorem okD_of {Ex : XK} {α γ : Type} {g1 : G} {H1 : Hp} {m : T α} {k : α → T γ} {Q : G → Hp → γ → Prop} {R : G → Hp → α → Prop} (hn : NoE m) (h : okT c0 β Ex g H (m.bind k) Q)
    (hR : ∀ a, okT c0 β Ex g H (k a) Q → ∀ g' H', Ext g1 g' (upd H1 D (.lst [])) (upd H' D (.lst [])) → R g' H' a) : okD D g1 H1 m R :=
  T.all_mono (hn _ _ (T.all_bind.mp h)) (fun a q => hR a q) fun _ _ z => z
theorem okD_ext {α : Type} {g2 : G} {H2 : Hp} {m : T α} {Q : G → Hp → α → Prop} (h : okD D g H m Q) (e : Ext g g2 (upd H D (.lst [])) (upd H2 D (.lst []))) : okD D g2 H2 m Q :=
  T.all_mono h (fun a q g' H' e' => q g' H' (e.trans e')) fun _ _ z => z
theorem okD_ret {α : Type} {a : α} {Q : G → Hp → α → Prop} (h : okD D g H (.ret a) Q) : Q g H a := h g H (Ext.refl _ _)
theorem okT_of_noExc {Ex : XK} {α : Type} {m : T α} {Q : α → Prop} (h : (noExc m).all Q fun _ _ => False) {R : G → Hp → α → Prop} (hR : ∀ a, Q a → ∀ g' H', Ext g g' H H' → R g' H' a) : okT c0 β Ex g H m R := by
  induction m with
  | ret a => exact hR a h
  | bad => exact h
  | exc c xs => exact (show False from h).elim
  | draw n k ih => exact fun r hr => ih r (h r hr)
theorem okD_turn {Ex : XK} {α γ : Type} {m : T α} {k : α → T γ} {Q : G → Hp → γ → Prop} (h : okD D g H ((noExc m).bind k) Q) (hD : H D ≠ none) : okT c0 β Ex g H m fun g' H' a => okD D g' H' (k a) Q :=
  okT_of_noExc (T.all_bind.mp h) fun a q g' H' e => T.all_mono q (fun b q g2 H2 e2 => q g2 H2 ((ext_updB e hD).trans e2)) fun _ _ z => z
end
def JTs (X : Cx) (ct : CT) (β : BInv) (Ex : XK) (e : List Expr) (f : SemB) : Prop := PTs X e (rdB (gc X ct) β Ex f)
def fYes : SemB := fun ρ => .ret (true, ρ)
section
variable {X : Cx} {ct : CT} {β : BInv} {Ex : XK} {a c elt tg iter : Expr} {ifs : List Expr} {f : SemI} {k : GSem} {tt : SemB} {el : Sem} {pos : Pos} {scope : Scope} {own : List (Str × Nat)} {is : List Nat}
theorem jts_nil : JTs X ct β Ex [] fYes := ⟨fun pins s σ H Q I h => pts_nil.run pins s σ H Q I (by
  obtain ⟨g, ρ, R, h⟩ := h
  exact okT_ret h R)⟩
theorem jts_one (h : JT X ct β Ex c tt) : JTs X ct β Ex [c] tt := ⟨fun pins s σ H Q I q => (pts_one h).run pins s σ H Q I q⟩
theorem lc_ok {σ : L2.St} {H : Hp} {Q : VK} {vs : List Nat} (hown : ∀ i ∈ is, i ∈ vs) (h : rdN (gc X ct) β Ex (nLc vs f k tt el) σ H Q) : tLc (rdI (gc X ct) β Ex f) (rdG (gc X ct) β E0 is k) (rdB (gc X ct) β E0 tt) (rdE (gc X ct) β E0 el) vs σ H Q := by
  obtain ⟨g, ρ, R, h⟩ := h
  refine ⟨g, ρ, R, okT_bind0 h fun p q g1 H1 e1 J R1 wk D nD => ?_⟩
  obtain ⟨xs, ρ1⟩ := p
  have sD := same_upd (o := .lst []) nD
  have lD : (upd H1 D (.lst [])) D ≠ none := by rw [upd_same]; exact fun z => by cases z
  by_cases hbig : xs.length < big
  · have q : okT (gc X ct) β Ex g H ((lcL vs k tt el xs [] ρ1).bind fun r => .ret (r.1, backE ρ1 r.2 vs)) fun g' H' p => ∀ a vs, H a = none → ¬ g'.Av a → H' a = some (.lst vs) → Rel (gc X ct) β (g'.plus a) p.2 σ H' → RepsG (gc X ct) (g'.plus a) H' p.1 vs → Q (.ref a) H' := by
      have q' : okT (gc X ct) β Ex g H (if xs.length < big then _ else _) _ := q
      rw [if_pos hbig] at q'
      exact q'
    have RD : Rel (gc X ct) β (g1.plus D) ρ1 σ (upd H1 D (.lst [])) := R1.plus sD nD lD
    -- what the end asks, from the block's own point of view
    have start : okD D (g1.plus D) (upd H1 D (.lst [])) (lcL vs k tt el xs [] ρ1) (fun g' H' r => ∀ ws', H' D = some (.lst ws') → Rel (gc X ct) β g' (wipeE r.2 vs) (wipe σ vs) H' → RepsG (gc X ct) g' H' r.1 ws' → Q (.ref D) H') := by
      refine okD_of (lcL_noExc vs k tt el xs [] ρ1) q fun r hr g' H' e ws' hw R' r' => ?_
      have e := (show Ext (g1.plus D) g' (upd H1 D (.lst [])) (upd H' D (.lst [])) by rw [upd_upd] at e; exact e)
      have hl' : H' D ≠ none := by rw [hw]; exact fun z => by cases z
      have M' : g'.M D := by rw [e.m]; exact .inr rfl
      have e' : Ext g1 (g'.setM g1.M) H1 H' := ext_of_plusD e hl' nD
      have e2 : Ext g ((g'.setM g1.M).nos vs) H H' := (e1.trans e').trans (ext_nos _ _ vs)
      have gp : ((g'.setM g1.M).nos vs).plus D = g'.nos vs := nos_plus (H1 := H1) e.m vs
      refine okT_ret' hr e2 D ws' (none_back e1 nD) (fun z => ?_) hw ?_ ?_
      · rcases nos_av z with z | ⟨i, z⟩ | z
        · exact R1.alive D z nD
        · rcases e.own i D z with ⟨j, hj⟩ | hj
          · exact R1.ownLive (i := j) hj nD
          · exact lD hj
        · rcases e.bnew D z with z | z
          · exact β.live R1.box z nD
          · exact lD z
      · rw [gp]
        have hb := RD.backD e R' (wipe_length σ vs) vs M' hl'
        rw [restore_eq, backE_wipe] at hb
        exact hb
      · rw [gp]
        exact (ext_nos g' H' vs).reps r'
    refine ⟨fun i m H2 => m = xs.length - i ∧ i ≤ xs.length ∧ ∃ g2 ρ2 acc ws, Ext (g1.plus D) g2 (upd H1 D (.lst [])) (upd H2 D (.lst [])) ∧ Rel (gc X ct) β g2 (wipeE ρ2 vs) (wipe σ vs) H2 ∧ H2 D = some (.lst ws) ∧ RepsG (gc X ct) g2 H2 acc ws ∧ acc.length ≤ i ∧
      okD D g2 H2 (lcL vs k tt el (xs.drop i) acc ρ2) (fun g' H' r => ∀ ws', H' D = some (.lst ws') → Rel (gc X ct) β g' (wipeE r.2 vs) (wipe σ vs) H' → RepsG (gc X ct) g' H' r.1 ws' → Q (.ref D) H'),
      ⟨xs.length, by simp, Nat.zero_le _, (g1.plus D).nos vs, ρ1, [], [], by rw [upd_upd]; exact ext_nos _ _ vs, RD.wipe vs, upd_same, .nil, Nat.le_refl _, okD_ext start (by rw [upd_upd]; exact ext_nos _ _ vs)⟩, ?_⟩
    rintro i m H2 ⟨rfl, hi, g2, ρ2, acc, ws, e2, R2, hw, ra, hlen, h2⟩
    have M2 : g2.M D := by rw [e2.m]; exact .inr rfl
    have kp : Keeps (gc X ct) g1 g2 H1 H2 := fun t v r => rep_updD M2 (e2.rep (rep_plus r sD nD))
    by_cases hlt : i < xs.length
    · refine .inr ⟨wk.go _ _ _ kp hlt, _, fun H' n => ⟨xs.length - (i + 1), by omega, n⟩, fun x H3 hy => ?_⟩
      have ex : xs[i]? = some xs[i] := List.getElem?_eq_getElem hlt
      obtain ⟨sm, rx⟩ := wk.yld _ _ _ _ _ _ kp (fun _ h => R2.avLive h) ex hy
      rw [List.drop_eq_getElem_cons hlt] at h2
      have hD2 : H2 D ≠ none := by rw [hw]; exact fun z => by cases z
      have hD3 : H3 D = some (.lst ws) := sm D _ hw
      have hD3' : H3 D ≠ none := by rw [hD3]; exact fun z => by cases z
      have h3 := okD_turn (c0 := gc X ct) (β := β) (Ex := E0) (okD_ext h2 (ext_updB (Ext.same sm) hD2)) hD3'
      refine ⟨g2, wipeE ρ2 vs, xs[i], R2.same sm, rx, okT_mono (okT_bind h3) fun g4 H4 ρ4 e4 h4 σ4 ag R4 => ⟨(wipe_agree ag hown).trans wipe_wipe, g4, ρ4, R4, okT_mono (okT_bind h4) fun g5 H5 p e5 h5 R5 => ?_⟩⟩
      have e35 : Ext g2 g5 H3 H5 := e4.trans e5
      have eD : ∀ {g6 : G} {H6 : Hp}, Ext g2 g6 H3 H6 → H6 D = some (.lst ws) := fun e => e.keep D _ hD3 (fun i z => (R2.sep i D z).1 M2) (R2.mb D M2)
      have eT : ∀ {g6 : G} {H6 : Hp} (o : HO), Ext g2 g6 H3 H6 → Ext (g1.plus D) g6 (upd H1 D (.lst [])) (upd (upd H6 D o) D (.lst [])) := fun {g6 H6} o e => by
        rw [upd_upd]
        exact e2.trans ((ext_updB (Ext.same sm) hD2).trans (ext_updB e hD3'))
      by_cases hp : p.1 = true
      · dsimp only
        rw [if_pos hp] at h5 ⊢
        refine ⟨g5, p.2, R5, okT_mono (okT_bind h5) fun g6 H6 s e6 h6 y R6 ry => ?_⟩
        obtain ⟨g7, z, e7, R7, rz, h7⟩ := frz_ok R6 ry h6
        have e37 : Ext g2 g7 H3 H6 := (e35.trans e6).trans e7
        have M7 : g7.M D := by rw [e37.m]; exact M2
        refine ⟨ws, eD e37, ?_, rfl, hlt, g7.nos vs, z.2, acc ++ [z.1], ws ++ [y], (eT _ e37).trans (ext_nos _ _ vs), ?_, upd_same, ?_, by rw [List.length_append]; simp; omega, ?_⟩
        · have := ra.length
          have := big_line
          omega
        · have R8 := (R7.updM (o := .lst (ws ++ [y])) M7).wipe vs
          rw [wipe_agree ag hown, wipe_wipe] at R8
          exact R8
        · exact (ext_nos g7 _ vs).reps (rep_updL M7 ((((Ext.same sm).trans e37).reps ra).append (.one rz)))
        · exact okD_ext (okT_ret h7) (by rw [upd_upd]; exact ext_nos _ _ vs)
      · dsimp only
        rw [if_neg hp] at h5 ⊢
        refine ⟨rfl, hlt, g5.nos vs, p.2, acc, ws, ?_, ?_, eD e35, ?_, by omega, ?_⟩
        · have := eT (.lst ws) e35
          rw [upd_upd] at this
          exact this.trans (ext_nos _ _ vs)
        · have R8 := R5.wipe vs
          rw [wipe_agree ag hown, wipe_wipe] at R8
          exact R8
        · exact (ext_nos g5 _ vs).reps (((Ext.same sm).trans e35).reps ra)
        · exact okD_ext (okT_ret h5) (ext_nos _ _ vs)
    · have e : i = xs.length := by omega
      subst e
      rw [List.drop_length] at h2
      exact .inl ⟨wk.stop _ _ _ kp (Nat.le_refl _), okD_ret h2 ws hw R2 ra⟩
  · have q' : okT (gc X ct) β Ex g H (if xs.length < big then _ else _) _ := q
    rw [if_neg hbig] at q'
    exact (show False from q').elim
theorem jn_lc (hc : X.calm = true) (hN : X.N.Nodup) (ok : BlkOk X.N X.env.scope scope own) (hown : ∀ i ∈ is, i ∈ own.map (·.2)) (hi : JI X ct β Ex tg iter f)
    (hg : ∀ (s : Shared) (H : Hp) (C : Addr) (cl : List (Str × Addr)) (fp : List Addr), JG (X.blk s H scope (compEnvC scope cl C X.env) fp) ct β E0 tg is k) (ht : ∀ (s : Shared) (H : Hp) (C : Addr) (cl : List (Str × Addr)) (fp : List Addr), JTs (X.blk s H scope (compEnvC scope cl C X.env) fp) ct β E0 ifs tt)
    (he : ∀ (s : Shared) (H : Hp) (C : Addr) (cl : List (Str × Addr)) (fp : List Addr), JE (X.blk s H scope (compEnvC scope cl C X.env) fp) ct β E0 elt el) (hs : ∀ x, foldedSetIterable iter X.env x = pure x := by intro _; rfl) :
    JN X ct β Ex (.ListComp elt [⟨tg, iter, ifs, 0⟩] scope pos) (nLc (own.map (·.2)) f k tt el) := by
  exact PE.imp (pe_lc (g := rdG (gc X ct) β E0 is k) (tt := rdB (gc X ct) β E0 tt) (te := rdE (gc X ct) β E0 el) hc hN hi ok hg ht he hs) fun σ H Q h => lc_ok hown h
end
end Dn
set_option Elab.async false
set_option linter.all false
set_option maxRecDepth 100000
namespace PySem
namespace TrS
open PySem PySem.Spec PyProof.Rows SrtO
section
variable {prog : Program} {w : World} {A : Around} {E : Value → Shared → Prop} {s : Shared}
theorem collect_tup {t : Addr} {us : List Value} {Q : List Value → Shared → Prop} (ht : s.heap.IsTuple t us.toArray) (hz : us.length ≤ sizeLine)
    (hQ : Q us { s with heap := (s.heap.push (seqObj "list" #[] 0)).update s.heap.objs.size (Obj.mapSeq (· ++ us.toArray)) }) : wpAny (model prog w) A (collect (.ref t)) Q E s := by
  obtain ⟨o, ho, hc, n, hd⟩ := ht
  have ho2 : (s.heap.push (seqObj "list" #[] 0)).get? t = some o := Heap.get?_push_of_some _ ho
  have hn : (s.heap.push (seqObj "list" #[] 0)).get? s.heap.objs.size = some (seqObj "list" #[] 0) := Heap.get?_push_size _ rfl
  have two : (Value.type "tuple" == Value.type "list") = false := by decide +kernel
  have one : (Value.type "tuple" == Value.type "tuple") = true := by rfl
  have room : (#[] ++ us.toArray).size ≤ sizeLine + 1 := by
    simp only [Array.size_append, List.size_toArray, List.length_nil]
    omega
  unfold collect
  apply wpAny_bind
  apply wpAny_runValue
  apply codeAny_builtin entry_proto_collect'
  show wpAny _ _ (do again (.builtin "list.__iadd__" ⟨[← newList [], .ref t], []⟩)) _ _ s
  apply wpAny_bind
  refine wpAny_newList ?_ (Nat.zero_le _)
  refine wpAny_pure ⟨Code.quiet_builtin _ (by decide +kernel), codeAny_builtin entry_list_iadd' ?_⟩
  show wpAny _ _ (Builtin.List.listExtendWith (.ref s.heap.objs.size) (.ref t) (.ref s.heap.objs.size)) _ _ { s with heap := s.heap.push (seqObj "list" #[] 0) }
  unfold Builtin.List.listExtendWith
  apply wpAny_bind
  refine wpAny_typeOf (T := "tuple") ⟨o, ho2, hc⟩ ?_
  rw [if_pos (by rw [two, one]; simp)]
  apply wpAny_bind
  apply listItems_at ho2 hd
  apply wpAny_bind
  apply listItems_at (xs := #[]) (n := 0) hn rfl
  rw [if_neg (by simp)]
  apply wpAny_bind
  refine listUpdate_at (xs := #[]) (n := 0) hn rfl ?_ (Nat.zero_le _) room
  apply wpAny_pure
  show wpAny (model prog w) A (do
      match (← load s.heap.objs.size).data with
      | .seq xs _ => pure xs.toList
      | _ => unsupported "internal:collect") Q E { s with heap := (s.heap.push (seqObj "list" #[] 0)).update s.heap.objs.size (Obj.mapSeq (· ++ us.toArray)) }
  apply wpAny_bind
  apply wpAny_load (get?_update_seq hn _)
  show wpAny _ _ (pure ((#[] : Array Value) ++ us.toArray).toList) Q E _
  rw [show ((#[] : Array Value) ++ us.toArray).toList = us by simp]
  exact wpAny_pure hQ
theorem sorted_tup {t : Addr} {us : List Value} {lt : Value → Value → Bool} {Q : Value → Shared → Prop} (O : Swo lt) (ht : s.heap.IsTuple t us.toArray) (hz : us.length ≤ sizeLine)
    (hS : 2 ≤ us.length → ∀ (h₁ : Heap) (a : Addr), SortableO prog w A.in1.in1 { s with heap := h₁ } a us lt)
    (hQ : ∀ out : List Value, Srtd lt out → Stb lt out us → Q (.ref (s.heap.objs.size + 1)) { s with heap := sortedAll s.heap us out.toArray }) : wpAny (model prog w) A (call (.builtin "sorted") [.ref t]) Q E s := by
  apply Calls.call_function_entry kind_sorted plain_sorted entry_sorted (args_sorted1 _)
  unfold Builtin.«sorted»
  apply wpAny_bind (m := checkCount "sorted" 1 1 _)
  apply wpAny_pure
  apply wpAny_bind
  apply collect_tup ht hz
  apply wpAny_bind
  refine wpAny_newList ?_ hz
  have n1 : ((s.heap.push (seqObj "list" #[] 0)).update s.heap.objs.size (Obj.mapSeq (· ++ us.toArray))).objs.size = s.heap.objs.size + 1 := by rw [Heap.size_update, size_push']
  have at1 : (((s.heap.push (seqObj "list" #[] 0)).update s.heap.objs.size (Obj.mapSeq (· ++ us.toArray))).push (seqObj "list" us.toArray 0)).get? (s.heap.objs.size + 1) = some (seqObj "list" us.toArray 0) := by
    rw [← n1]
    exact Heap.get?_push_size _ rfl
  show wpAny _ _ _ _ _ { s with heap := ((s.heap.push (seqObj "list" #[] 0)).update s.heap.objs.size (Obj.mapSeq (· ++ us.toArray))).push (seqObj "list" us.toArray 0) }
  rw [n1]
  apply wpAny_bind
  apply wpAny_holding
  refine wpAny_call_entry slot_list_sort ⟨_, at1, rfl⟩ entry_list_sort (list_sort_ord O at1 hz (fun h2 => hS h2 _ _) fun out hs hb => ⟨_, rfl, ?_⟩) (args_list_sort _)
  exact wpAny_pure ⟨_, rfl, hQ out hs hb⟩
end
end TrS
end PySem
namespace Dn
open PySem PySem.Spec PyProof.Rows L2
def ins (x : Int) : List Int → List Int
  | [] => [x]
  | y :: r => if x ≤ y then x :: y :: r else y :: ins x r
def isort : List Int → List Int
  | [] => []
  | x :: r => ins x (isort r)
theorem ins_perm (x : Int) : ∀ l : List Int, (ins x l).Perm (x :: l)
  | [] => List.Perm.refl _
  | y :: r => by
    unfold ins
    split
    · exact List.Perm.refl _
    · exact (List.Perm.cons y (ins_perm x r)).trans (List.Perm.swap x y r)
theorem isort_perm : ∀ l : List Int, (isort l).Perm l
  | [] => List.Perm.refl _
  | x :: r => (ins_perm x (isort r)).trans (List.Perm.cons x (isort_perm r))
theorem ins_sorted (x : Int) : ∀ {l : List Int}, l.Pairwise (· ≤ ·) → (ins x l).Pairwise (· ≤ ·)
  | [], _ => List.pairwise_singleton _ _
  | y :: r, h => by
    have h1 := List.pairwise_cons.mp h
    unfold ins
    split
    · rename_i hx
      refine List.pairwise_cons.mpr ⟨fun z hz => ?_, h⟩
      rcases List.mem_cons.mp hz with e | e
      · rw [e]
        exact hx
      · exact Int.le_trans hx (h1.1 z e)
    · rename_i hx
      refine List.pairwise_cons.mpr ⟨fun z hz => ?_, ins_sorted x h1.2⟩
      rcases List.mem_cons.mp ((ins_perm x r).mem_iff.mp hz) with e | e
      · rw [e]
        omega
      · exact h1.1 z e
theorem isort_sorted : ∀ l : List Int, (isort l).Pairwise (· ≤ ·)
  | [] => List.Pairwise.nil
  | x :: r => ins_sorted x (isort_sorted r)
theorem isort_uniq : ∀ {l m : List Int}, l.Perm m → l.Pairwise (· ≤ ·) → m.Pairwise (· ≤ ·) → l = m
  | [], m, p, _, _ => by rw [List.nil_perm] at p; exact p.symm
  | x :: l, [], p, _, _ => by rw [List.perm_nil] at p; exact p
  | x :: l, y :: m, p, h1, h2 => by
    have a := List.pairwise_cons.mp h1
    have b := List.pairwise_cons.mp h2
    have e : x = y := by
      have hx := p.mem_iff.mp (List.mem_cons_self (a := x) (l := l))
      have hy := p.mem_iff.mpr (List.mem_cons_self (a := y) (l := m))
      rcases List.mem_cons.mp hx with e | e
      · exact e
      · rcases List.mem_cons.mp hy with e' | e'
        · exact e'.symm
        · have := a.1 y e'
          have := b.1 x e
          omega
    subst e
    rw [isort_uniq p.cons_inv a.2 b.2]
theorem cr_sortedT {X : Cx} : CallR X (.builtin "sorted") (fun vs H Q => ∃ (a : Addr) (ns : List Int), vs = [V.ref a] ∧ SqT X.K H a (ns.map V.int) ∧ ∀ (ns' : List Int) (p : Addr), ns'.Perm ns → ns'.Pairwise (· ≤ ·) → H p = none → Q (.ref p) (upd H p (.lst (ns'.map V.int)))) := by
  intro pins s σ H vs us Q I r h
  obtain ⟨a, ns, rfl, hs, q⟩ := h
  obtain ⟨its, rv, ht, hz⟩ := I.tuple hs
  rw [Vals.ref1 r]
  have hi := rv.ints
  have hlz : its.length ≤ sizeLine := by
    rw [← rv.length]
    exact hz
  refine PySem.TrS.sorted_tup SrtO.swo_int (show s.heap.IsTuple a its.toArray from ht) hlz (fun h2 h₁ a' => SrtO.ints_sortable hi h2) fun out h1 h2 => ?_
  obtain ⟨k1, k2, k3⟩ := SrtO.ints_out hi h1 h2
  obtain ⟨ep, at1⟩ := PyProof.Rows.sortedAll_at s.heap its out.toArray
  have hl : ((out.map SrtO.iv).map V.int).length ≤ sizeLine := by
    have z := hz
    rw [List.length_map] at z ⊢
    rw [k2.length_eq]
    exact z
  have J : L2.Inv X pins σ (upd H (s.heap.objs.size + 1) (.lst ((out.map SrtO.iv).map V.int))) { s with heap := sortedAll s.heap its out.toArray } := I.laid (t' := s.toks) (fun _ _ => PyProof.Rows.sortedAll_old (vs := its) (out := out.toArray)) (Nat.le_succ _) ⟨hl, out, ep, vals_of_ints k1, at1⟩
  exact ⟨.ref _, upd H (s.heap.objs.size + 1) (.lst ((out.map SrtO.iv).map V.int)), J, rfl, q _ _ k2 k3 (I.hok.fresh (Nat.le_succ _))⟩
def tLenSetT (K : PySem.W.Frag) (ta : TE) : TE := fun σ H Q => ta σ H fun x H1 => ∃ (l : Addr) (ns : List Int), x = .ref l ∧ SqT K H1 l (ns.map V.int) ∧ ns.Nodup ∧ ns.length ≤ 1000 ∧ Q (.int (ns.length : Nat)) H1
def rLenOwn (C : Addr) (sp : Sp) (E : XK) : List V → Hp → VK → Prop := fun xs H Q => ∃ a dx fs, xs = [V.ref a] ∧ H a = some (.ins C dx fs) ∧ sp [.ref a] H (fun z H' => ∃ i, z = .int i ∧ (0 ≤ i ∧ i < 2 ^ 63) ∧ Q (.int i) H') E
def tyName : AV → Option String
  | .non => some "NoneType"
  | .bl _ => some "bool"
  | .int _ => some "int"
  | .str _ => some "str"
  | .tup _ => some "tuple"
  | .lst _ => some "list"
  | _ => none
def subTy (t u : String) : Bool := t == u || (t == "bool" && u == "int")
def pIsi (u : String) (a : AV) : Option AV := (tyName a).map fun t => .bl (subTy t u)
def pIsi2 (u v : String) (a : AV) : Option AV := (tyName a).map fun t => .bl (subTy t u || subTy t v)
section
variable {X : Cx} {ct : CT} {β : BInv} {Ex : XK} {a b c e : Expr} {f k : Sem} {pos p p2 p3 p4 : Pos} {x : Str} {u v : String}
theorem tyX_of {c0 : Gc} {g : G} {H : Hp} {t : AV} {w : V} {n : String} (h : RepR c0 g H t w) (e : tyName t = some n) : TyX c0.K H w (.type n) := by
  cases t with
  | non => cases e; rw [h.non]; exact .base .non
  | bl b => cases e; rw [h.bl]; exact .base (.bl b)
  | int i => cases e; rw [h.int]; exact .base (.int i)
  | str s => cases e; rw [h.str]; exact .base (.str s)
  | tup xs =>
    cases e
    obtain ⟨q, vs, rfl, hs, _⟩ := h.tup
    rcases hs with (hs | ⟨o, hs⟩) | ⟨o, its, n, hs, hc, _⟩
    · exact .base (.tup hs)
    · exact .fTuple hs
    · exact .kTuple hs hc
  | lst xs =>
    cases e
    obtain ⟨q, vs, rfl, hs, _⟩ := h.lst'
    exact .base (.lst hs)
  | _ => cases e
def Kinds (u : String) : Prop := ∀ t ∈ ["NoneType", "bool", "int", "str", "tuple", "list"], kitB t u = some (subTy t u)
instance : Decidable (Kinds u) := by unfold Kinds; infer_instance
theorem kinds_int : Kinds "int" := by decide +kernel
theorem kinds_bool : Kinds "bool" := by decide +kernel
theorem kinds_list : Kinds "list" := by decide +kernel
theorem kinds_tuple : Kinds "tuple" := by decide +kernel
theorem tyName_in {t : AV} {n : String} (e : tyName t = some n) : n ∈ ["NoneType", "bool", "int", "str", "tuple", "list"] := by
  cases t <;> cases e <;> simp
theorem j_isi (K : Kinds u) (hg : Gl X "isinstance") (hm : X.mg "isinstance" = none) (hg2 : Gl X u) (hm2 : X.mg u = none) (hv : bootBuiltins (u : Str) = some (.type u)) (ha : JE X ct β Ex a f) (hn : (u : Str) ≠ "__name__" := by decide +kernel) (hdb : ((u : Str) == ("__debug__" : Str)) = false := by decide +kernel)
    (he : starEach [a, .Name u p2] X.env = (false, eval a X.env) :: starEach [.Name u p2] X.env := by rfl) (hpl : (backTo pos (starEach [.Name u p2] X.env)).any (·.1) = false := by rfl) : JE X ct β Ex (.Call (.Name "isinstance" p) [a, .Name u p2] [] pos) (fUn (pIsi u) f) := by
  refine PE.imp (pe_callB call_isi hg hm (by decide +kernel) (pa_cons ha (pa_cons (pe_bltn (v := .ty u) hg2 hm2 hv rfl hn hdb) pa_nil) he) (by decide +kernel) (by decide +kernel) he hpl) fun σ H Q h => ?_
  refine fUn_ok' (r := fun x H Q => rIsi X.K [x, .ty u] H Q) (fun g H a z x Q _ ra e q => ?_) h
  obtain ⟨n, en, rfl⟩ := map_some (o := tyName a) e
  exact ⟨x, .ty u, _, _, _, rfl, .ty u, tyX_of ra en, kit_ty (K n (tyName_in en)), q _ H (Same.refl H) rep_bl⟩
theorem j_isi2 (Ku : Kinds u) (Kv : Kinds v) (hg : Gl X "isinstance") (hm : X.mg "isinstance" = none) (hg2 : Gl X u) (hm2 : X.mg u = none) (hv2 : bootBuiltins (u : Str) = some (.type u)) (hg3 : Gl X v) (hm3 : X.mg v = none) (hv3 : bootBuiltins (v : Str) = some (.type v)) (ha : JE X ct β Ex a f) {kk : Nat}
    (hn : (u : Str) ≠ "__name__" := by decide +kernel) (hdb : ((u : Str) == ("__debug__" : Str)) = false := by decide +kernel) (hn3 : (v : Str) ≠ "__name__" := by decide +kernel) (hdb3 : ((v : Str) == ("__debug__" : Str)) = false := by decide +kernel)
    (he : starEach [a, .Tuple [.Name u p2, .Name v p3] kk p4] X.env = (false, eval a X.env) :: starEach [.Tuple [.Name u p2, .Name v p3] kk p4] X.env := by rfl) (hpl : (backTo pos (starEach [.Tuple [.Name u p2, .Name v p3] kk p4] X.env)).any (·.1) = false := by rfl) :
    JE X ct β Ex (.Call (.Name "isinstance" p) [a, .Tuple [.Name u p2, .Name v p3] kk p4] [] pos) (fUn (pIsi2 u v) f) := by
  refine PE.imp (pe_callB call_isiT hg hm (by decide +kernel) (pa_cons ha (pa_cons (pe_tup (pa_cons (pe_bltn (v := .ty u) hg2 hm2 hv2 rfl hn hdb) (pa_cons (pe_bltn (v := .ty v) hg3 hm3 hv3 rfl hn3 hdb3) pa_nil))) pa_nil) he) (by decide +kernel) (by decide +kernel) he hpl) fun σ H Q h => ?_
  obtain ⟨g, ρ, R, h⟩ := h
  refine ⟨g, ρ, R, okT_mono (okT_bind h) fun g1 H1 q e1 h1 x R1 rx => ?_⟩
  obtain ⟨t, et, h3⟩ := okT_lift h1
  obtain ⟨z, ez, h5⟩ := okT_lift h3
  obtain ⟨n, en, rfl⟩ := map_some (o := tyName t) ez
  refine ⟨by show 2 ≤ sizeLine; decide, fun l hl => ?_⟩
  have s := same_upd (o := .tup [V.ty u, V.ty v]) hl
  have rt : RepR (gc X ct) g1 (upd H1 l (.tup [V.ty u, V.ty v])) t x := by
    rcases rx.rs R1 et with r | ⟨xs, p, vs, e1, e2, e3, e4, e5⟩
    · exact .inl ((Ext.same s).rep r)
    · exact .inr ⟨xs, p, vs, e1, e2, e3, s _ _ e4, (Ext.same s).reps e5⟩
  refine ⟨x, l, [.ty u, .ty v], .type n, [.type u, .type v], _, rfl, upd_same, .cons (.ty u) (.cons (.ty v) .nil), tyX_of rt en, ?_, okT_ret' h5 (Ext.same s) _ (R1.same s) (rh_val (rep_bl (b := subTy n u || subTy n v)))⟩
  have k1 := kit_ty (K := X.K) (Ku n (tyName_in en))
  have k2 := kit_ty (K := X.K) (Kv n (tyName_in en))
  cases hu : subTy n u with
  | true => rw [hu] at k1; exact kitAny_cons (b := true) k1 (fun z => nomatch z) fun _ => rfl
  | false =>
    rw [hu] at k1
    refine kitAny_cons (b := false) k1 (fun _ => ?_) fun z => nomatch z
    cases hv : subTy n v with
    | true => rw [hv] at k2; exact kitAny_cons (b := true) k2 (fun z => nomatch z) fun _ => rfl
    | false => rw [hv] at k2; exact kitAny_cons (b := false) k2 (fun _ => rfl) fun z => nomatch z
def pLenSet (a : AV) : Option AV := (seqOf a).bind fun xs => (intsOf xs).bind fun ns => if ns.Nodup ∧ ns.length ≤ 1000 then some (.int ns.length) else none
def pSorted (a : AV) : Option AV := (seqOf a).bind fun xs => (intsOf xs).bind fun ns => if ns.length ≤ big then some (.lst ((isort ns).map AV.int)) else none
def tLenSetA (K : PySem.W.Frag) (ta : TE) : TE := fun σ H Q => ta σ H fun x H1 => ∃ (l : Addr) (ns : List Int), x = .ref l ∧ (SqL K H1 l (ns.map V.int) ∨ SqT K H1 l (ns.map V.int)) ∧ ns.Nodup ∧ ns.length ≤ 1000 ∧ Q (.int (ns.length : Nat)) H1
theorem pe_lenSetA {q : Pos} {ta : TE} (hg : Gl X "len") (hm : X.mg "len" = none) (hg2 : Gl X "set") (hm2 : X.mg "set" = none) (ha : PE X a ta) (hc : X.calm = true := by rfl) (na : starEach [a] X.env = (false, eval a X.env) :: starEach [] X.env := by rfl) :
    PE X (.Call (.Name "len" p) [.Call (.Name "set" p2) [a] [] q] [] pos) (tLenSetA X.K ta) := by
  constructor
  intro pins s σ H Q I h
  apply Call_ (ld_blt I hg hm boot_len ?_)
  apply PyProof.Rows.callWith_builtin1 (PyProof.Rows.args_cons ?_ rfl) rfl rfl
  apply Call_ (ld_blt I hg2 hm2 boot_set ?_)
  apply PyProof.Rows.callWith_type1 (PyProof.Rows.args_cons (thn (ha.run pins s σ H _ I h) ?_) na) na rfl
  rintro v s1 ⟨x, H1, I1, r1, l, ns, rfl, hq, hnd, hl, q1⟩
  apply PyProof.Rows.args_nil
  cases r1
  have hb : ns.length + 1 < scanBound := by
    unfold scanBound
    omega
  rcases hq with hq | hq
  · obtain ⟨its, rv, pl, hz⟩ := I1.list hq
    have hlen : its.toArray.size = ns.length := by rw [List.size_toArray, ← rv.length, List.length_map]
    refine call_set_list (I1.ok.hd hc) pl.isList (ints_of_vals rv) (by rw [hlen]; exact hb) fun h' tk hS hk => ?_
    apply PyProof.Rows.args_nil
    rw [hlen, RZ.firstMet_nodup hnd ns.length (Nat.le_refl _), List.take_length] at hS
    obtain ⟨ob, es, ep, tz, g1, g2, g3, _, _, _, g7, g8⟩ := hS
    have J2 : L2.Inv X pins σ H1 { s1 with heap := h', toks := tk } := I1.kept fun b u w => hk b u (Heap.lt_size w) w
    exact call_len_set g1 g2 g3 g7 (by omega) ⟨V.int ns.length, H1, J2.tok _, ⟨_, by rw [g8]⟩, q1⟩
  · obtain ⟨its, rv, pt, hz⟩ := I1.tuple hq
    apply call_set_tupI ns (I1.ok.hd hc) (show s1.heap.IsTuple l its.toArray from pt) (ints_of_vals rv) hb
    intro h' tk c R1 hcn k
    apply PyProof.Rows.args_nil
    obtain ⟨o, es, ep, t, ho, hex, hdt, g, nd, hm3, hb3, hf, hn, hr, hl2⟩ := R1
    have hp : (es.toList.map keyOf).Perm ns := (List.perm_ext_iff_of_nodup nd hnd).mpr fun k => by
      rw [← hm3 k, decide_eq_true_eq]
    have hsz : es.size = ns.length := by
      have z := hp.length_eq
      rw [List.length_map, Array.length_toList] at z
      exact z
    have I2 : L2.Inv X pins σ H1 { s1 with heap := h', toks := tk } := I1.kept fun b o e => k b o e
    exact call_len_set ho hex hdt hf (by omega) ⟨.int ns.length, H1, I2.tok _, ⟨_, by rw [hsz]⟩, q1⟩
theorem j_lenSet {q : Pos} (hg : Gl X "len") (hm : X.mg "len" = none) (hg2 : Gl X "set") (hm2 : X.mg "set" = none) (ha : JE X ct β Ex a f) (hc : X.calm = true := by rfl) (na : starEach [a] X.env = (false, eval a X.env) :: starEach [] X.env := by rfl) :
    JE X ct β Ex (.Call (.Name "len" p) [.Call (.Name "set" p2) [a] [] q] [] pos) (fUn pLenSet f) := by
  refine PE.imp (pe_lenSetA hg hm hg2 hm2 ha hc na) fun σ H Q h => ?_
  refine fUn_ok' (r := fun x H Q => ∃ (l : Addr) (ns : List Int), x = .ref l ∧ (SqL X.K H l (ns.map V.int) ∨ SqT X.K H l (ns.map V.int)) ∧ ns.Nodup ∧ ns.length ≤ 1000 ∧ Q (.int (ns.length : Nat)) H) (fun g H a z x Q _ ra e q => ?_) h
  unfold pLenSet at e
  cases e1 : seqOf a with
  | none => rw [e1] at e; cases e
  | some xs =>
    rw [e1] at e
    cases e2 : intsOf xs with
    | none => simp [e2] at e
    | some ns =>
      have e3 : (if ns.Nodup ∧ ns.length ≤ 1000 then some (AV.int ns.length) else none) = some z := by simpa [e2] using e
      obtain ⟨h, rfl⟩ := ifp_some e3
      obtain ⟨l, vs, rfl, hs, r⟩ := seq_sq ra e1
      rw [intsOf_eq e2] at r
      have ev := reps_ints r
      subst ev
      exact ⟨l, ns, rfl, hs, h.1, h.2, q _ H (Same.refl H) rep_int⟩
theorem cr_sortedA {X : Cx} : CallR X (.builtin "sorted") (fun vs H Q => ∃ (a : Addr) (ns : List Int), vs = [V.ref a] ∧ (SqL X.K H a (ns.map V.int) ∨ SqT X.K H a (ns.map V.int)) ∧ ∀ (ns' : List Int) (p : Addr), ns'.Perm ns → ns'.Pairwise (· ≤ ·) → H p = none → Q (.ref p) (upd H p (.lst (ns'.map V.int)))) := by
  intro pins s σ H vs us Q I r h
  obtain ⟨a, ns, e, hs | hs, q⟩ := h
  · exact cr_sortedI pins s σ H vs us Q I r ⟨a, ns, e, hs, q⟩
  · exact cr_sortedT pins s σ H vs us Q I r ⟨a, ns, e, hs, q⟩
theorem o_sorted : Op1' X ct (fun x H Q => ∃ (a : Addr) (ns : List Int), [x] = [V.ref a] ∧ (SqL X.K H a (ns.map V.int) ∨ SqT X.K H a (ns.map V.int)) ∧ ∀ (ns' : List Int) (p : Addr), ns'.Perm ns → ns'.Pairwise (· ≤ ·) → H p = none → Q (.ref p) (upd H p (.lst (ns'.map V.int)))) pSorted := by
  intro g H a z x Q live ra e q
  unfold pSorted at e
  cases e1 : seqOf a with
  | none => rw [e1] at e; cases e
  | some xs =>
    rw [e1] at e
    cases e2 : intsOf xs with
    | none => simp [e2] at e
    | some ns =>
      have e3 : (if ns.length ≤ big then some (AV.lst ((isort ns).map AV.int)) else none) = some z := by simpa [e2] using e
      obtain ⟨h, rfl⟩ := ifp_some e3
      obtain ⟨l, vs, rfl, hs, r⟩ := seq_sq ra e1
      rw [intsOf_eq e2] at r
      have ev := reps_ints r
      subst ev
      refine ⟨l, ns, rfl, hs, fun ns' p hp hq hn => ?_⟩
      have e4 : ns' = isort ns := isort_uniq (hp.trans (isort_perm ns).symm) hq (isort_sorted ns)
      subst e4
      have s := same_upd (o := .lst ((isort ns).map V.int)) hn
      exact q _ _ s (rep_lst_new (fun z => live p z hn) upd_same (.ints' _))
def nListRange (f : Sem) : SemN := fun ρ => (f ρ).bind fun p => (lift (rs p.1 p.2)).bind fun a => (lift (intOf a)).bind fun j => if 0 ≤ j ∧ below j 24 = true then .ret (rangeL 0 j.toNat, p.2) else .bad
def idxOf (i : Int) : List Int → Option Nat
  | [] => none
  | x :: xs => if x = i then some 0 else (idxOf i xs).map (· + 1)
def fIndex (f k : Sem) : Sem := fun ρ => (f ρ).bind fun p => (lift (rs p.1 p.2)).bind fun a0 => (lift (lstOf a0)).bind fun _ => (k p.2).bind fun q => (lift (rs p.1 q.2)).bind fun a => (lift (lstOf a)).bind fun xs => (lift (rs q.1 q.2)).bind fun b => (lift (intOf b)).bind fun i =>
  (lift (intsOf xs)).bind fun ns => (lift (idxOf i ns)).bind fun j => .ret (.val (.int j), q.2)
def sBad : SSem := fun _ => .bad
theorem js_bad {st : Stmt} : JS X ct β Ex st sBad := PS.imp ps_never fun D σ H h => by
  obtain ⟨g, ρ, _, h⟩ := h
  exact (show False from h).elim
end
end Dn
set_option Elab.async false
set_option linter.all false
set_option maxRecDepth 100000
namespace Dn
open PySem PySem.Spec PyProof.Rows L2
section
variable {c0 : Gc} {β : BInv} {g : G} {H : Hp} {ρ : Env'} {σ : L2.St}
theorem plus_swap (g : G) (a b : Addr) : (g.plus a).plus b = (g.plus b).plus a := by
  unfold G.plus
  congr 1
  funext x
  exact propext ⟨fun h => h.elim (fun h => h.elim (fun h => .inl (.inl h)) .inr) fun h => .inl (.inr h), fun h => h.elim (fun h => h.elim (fun h => .inl (.inl h)) .inr) fun h => .inl (.inr h)⟩
theorem set_over {j : Nat} {v : Option V} (h : ¬ j < ρ.length) (R : Rel c0 β g ρ σ H) : σ.set j v = σ := List.set_eq_of_length_le (by rw [R.len]; omega)
theorem Rel.nil {j : Nat} {p : Addr} (R : Rel c0 β (g.plus p) ρ σ H) (hp : H p = some (.lst [])) (na : ¬ g.Av p) (hj : j < ρ.length) : Rel c0 β (g.own1 j p) (ρ.set j (.ml [])) (σ.set j (some (.ref p))) H := R.take hj hp na .nil
end
def sPar (i j : Nat) (m : SemL) : SSem := fun ρ => (m ρ).bind fun p => match p.1 with
  | [t, u] => .ret (.nx ((p.2.set i (.fro t)).set j (.fro u)))
  | _ => .bad
def sPar3 (i j l : Nat) (m : SemL) : SSem := fun ρ => (m ρ).bind fun p => match p.1 with
  | [t, u, w] => .ret (.nx (((p.2.set i (.fro t)).set j (.fro u)).set l (.fro w)))
  | _ => .bad
def sParE (i j : Nat) (f : Sem) : SSem := fun ρ => (f ρ).bind fun p => (frz p).bind fun q => if i < q.2.length ∧ j < q.2.length then .ret (.nx ((q.2.set i (.fro q.1)).set j (.ml []))) else .bad
def sParN (i j : Nat) (f : SemN) : SSem := fun ρ => (f ρ).bind fun q => if i < q.2.length ∧ j < q.2.length then .ret (.nx ((q.2.set i (.ml q.1)).set j (.ml []))) else .bad
def sParNN (i j l : Nat) (f : SemN) : SSem := fun ρ => (f ρ).bind fun q => if i < q.2.length ∧ j < q.2.length ∧ l < q.2.length then .ret (.nx (((q.2.set i (.ml q.1)).set j (.ml [])).set l (.ml []))) else .bad
section
variable {X : Cx} {ct : CT} {β : BInv} {Ex : XK} {a b c : Expr} {f k : Sem} {fn : SemN} {m : SemL} {pos px py pz pt pt2 pl pl2 : Pos} {kt k2 : Nat} {x y z : Str} {i j l : Nat}
theorem Rel.setFro' {c0 : Gc} {g : G} {ρ : Env'} {σ : L2.St} {H : Hp} {j : Nat} {t : AV} {v : V} (R : Rel c0 β g ρ σ H) (r : RepG c0 g H t v) : ∃ g', Ext g g' H H ∧ Rel c0 β g' (ρ.set j (.fro t)) (σ.set j (some v)) H := by
  by_cases hj : j < ρ.length
  · exact ⟨_, ext_no g j H, R.setFro r hj⟩
  · rw [set_ge hj, set_over hj R]
    exact ⟨g, .refl g H, R⟩
theorem js_par (i j : Nat) (hc : X.calm = true) (hN : X.N.Nodup) (ha : JL X ct β Ex [a, b] m) (hi : X.N[i]? = some x := by rfl) (hj : X.N[j]? = some y := by rfl) (hij : i ≠ j := by decide) (hx : X.env.scope.names.lookup x = some .local := by rfl) (hy : X.env.scope.names.lookup y = some .local := by rfl)
    (hw : swappedStores [.Tuple [.Name x px, .Name y py] kt pt] (.Tuple [a, b] k2 pt2) X.env = pure (some [x, y]) := by rfl) (hs : swapsWithSole [.Tuple [.Name x px, .Name y py] kt pt] (.Tuple [a, b] k2 pt2) pos.line X.env = pure false := by rfl) :
    JS X ct β Ex (.Assign [.Tuple [.Name x px, .Name y py] kt pt] (.Tuple [a, b] k2 pt2) pos) (sPar i j m) := by
  refine PS.imp (ps_par hc hN hi hj hij hx hy ha hw hs) fun D σ H h => ?_
  obtain ⟨g, ρ, R, h⟩ := h
  refine ⟨g, ρ, R, okT_mono (okT_bind h) fun g1 H1 p e1 h1 vs R1 rv => ?_⟩
  obtain ⟨ts, ρ1⟩ := p
  match ts, rv, h1 with
  | [t, u], rv, h1 =>
    rw [RepsG, RepL] at rv
    obtain ⟨v, r1, rfl, rt, rv⟩ := rv
    rw [RepL] at rv
    obtain ⟨w, r2, rfl, ru, rv⟩ := rv
    rw [RepL] at rv
    subst rv
    refine ⟨v, w, rfl, ?_⟩
    obtain ⟨g2, e2, R2⟩ := R1.setFro' (j := i) rt
    obtain ⟨g3, e3, R3⟩ := R2.setFro' (j := j) (e2.rep ru)
    exact okT_ret' h1 (e2.trans e3) _ R3
  | [], _, h1 => exact (show False from h1).elim
  | [_], _, h1 => exact (show False from h1).elim
  | _ :: _ :: _ :: _, _, h1 => exact (show False from h1).elim
def Wants2 (X : Cx) (ct : CT) (β : BInv) (Ex : XK) (i j : Nat) (t : TA) (s : SSem) : Prop := ∀ (D : Ends) (σ : L2.St) (H : Hp), rdS (gc X ct) β Ex s D σ H → t σ H fun vs H1 => ∃ v w, vs = [v, w] ∧ ∀ H2, Same H1 H2 → D.nx ((σ.set i (some v)).set j (some w)) H2
theorem js_par2 {ta : TA} {s : SSem} (hc : X.calm = true) (hN : X.N.Nodup) (ha : PA X [a, b] ta) (hW : Wants2 X ct β Ex i j ta s) (hi : X.N[i]? = some x) (hj : X.N[j]? = some y) (hij : i ≠ j) (hx : X.env.scope.names.lookup x = some .local) (hy : X.env.scope.names.lookup y = some .local)
    (mono : ∀ σ H (Q Q' : List V → Hp → Prop), (∀ vs H, Q vs H → Q' vs H) → ta σ H Q → ta σ H Q')
    (hw : swappedStores [.Tuple [.Name x px, .Name y py] kt pt] (.Tuple [a, b] k2 pt2) X.env = pure (some [x, y])) (hs : swapsWithSole [.Tuple [.Name x px, .Name y py] kt pt] (.Tuple [a, b] k2 pt2) pos.line X.env = pure false) :
    JS X ct β Ex (.Assign [.Tuple [.Name x px, .Name y py] kt pt] (.Tuple [a, b] k2 pt2) pos) s := by
  refine PS.imp (ps_par hc hN hi hj hij hx hy ha hw hs) fun D σ H h => ?_
  exact mono σ H _ _ (fun vs H1 ⟨v, w, e, q⟩ => ⟨v, w, e, q H1 (Same.refl H1)⟩) (hW D σ H h)
theorem mono_E {t : TE} {es : List Expr} (ht : ∀ σ H (Q Q' : VK), (∀ v H, Q v H → Q' v H) → t σ H Q → t σ H Q') : ∀ σ H (Q Q' : List V → Hp → Prop), (∀ vs H, Q vs H → Q' vs H) → tCons t (tCons (tLst tNil) tNil) σ H Q → tCons t (tCons (tLst tNil) tNil) σ H Q' :=
  fun σ H Q Q' h q => ht σ H _ _ (fun v H1 ⟨z, q⟩ => ⟨z, fun p hp => h _ _ (q p hp)⟩) q
theorem okT_wk {c0 : Gc} {α : Type} {g : G} {H : Hp} {mm : T α} {Q Q' : G → Hp → α → Prop} (h : okT c0 β Ex g H mm Q) (hQ : ∀ g' H' a, Q g' H' a → Q' g' H' a) : okT c0 β Ex g H mm Q' := okT_mono h fun g' H' a _ => hQ g' H' a
theorem mono_rdN : ∀ σ H (Q Q' : VK), (∀ v H, Q v H → Q' v H) → rdN (gc X ct) β Ex fn σ H Q → rdN (gc X ct) β Ex fn σ H Q' := fun σ H Q Q' h q => by
  obtain ⟨g, ρ, R, q⟩ := q
  exact ⟨g, ρ, R, okT_wk q fun g' H' p q a vs h1 h2 h3 R' r => h _ _ (q a vs h1 h2 h3 R' r)⟩
theorem wants_N : Wants2 X ct β Ex i j (tCons (rdN (gc X ct) β Ex fn) (tCons (tLst tNil) tNil)) (sParN i j fn) := by
  intro D σ H h
  obtain ⟨g, ρ, R, h⟩ := h
  refine ⟨g, ρ, R, okT_bind0 h fun p q g1 H1 e a ws hn na ho R1 r => ⟨Nat.zero_le _, fun l hl => ⟨.ref a, .ref l, rfl, fun H2 s2 => ?_⟩⟩⟩
  obtain ⟨xs, ρ2⟩ := p
  by_cases hb : i < ρ2.length ∧ j < ρ2.length
  · have q' : okT (gc X ct) β Ex g H (if i < ρ2.length ∧ j < ρ2.length then .ret (.nx ((ρ2.set i (.ml xs)).set j (.ml []))) else .bad) (endOk (gc X ct) β D) := q
    rw [if_pos hb] at q'
    have s3 := same_upd (o := .lst []) hl
    have hln : H l = none := none_back e hl
    have hal : a ≠ l := fun z => by rw [z, hl] at ho; cases ho
    have Ra := (R1.plus s3 hl (by rw [upd_same]; exact fun z => by cases z)).same s2
    rw [plus_swap] at Ra
    have na2 : ¬ (g1.plus l).Av a := fun z => (plus_av.mp z).elim na hal
    have rr := (Ext.same s2).reps (reps_plus r s3 hl)
    rw [plus_swap] at rr
    have Rb := Ra.take (j := i) hb.1 (s2 _ _ (s3 _ _ ho)) na2 rr
    have Rc := Rel.nil (g := g1.own1 i a) (j := j) Rb (s2 _ _ upd_same) (fun z => R1.freshAv hl (own1_av z)) (by rw [List.length_set]; exact hb.2)
    exact okT_ret' q' (ext_own1 (ext_own1 (e.trans (Ext.same (s3.trans s2))) hn) hln) _ Rc
  · have q' : okT (gc X ct) β Ex g H (if i < ρ2.length ∧ j < ρ2.length then .ret (.nx ((ρ2.set i (.ml xs)).set j (.ml []))) else .bad) (endOk (gc X ct) β D) := q
    rw [if_neg hb] at q'
    exact (show False from q').elim
end
end Dn
set_option Elab.async false
set_option linter.all false
set_option maxRecDepth 100000
namespace Dn
open PySem PySem.Spec PyProof.Rows L2
def sFldSet (j c i : Nat) (f : Sem) : SSem := fun ρ => (f ρ).bind fun p => (frz p).bind fun q => match q.2[j]? with
  | some (.slf c' fs) => if c' = c ∧ fs.length = i then .ret (.nx (q.2.set j (.slf c (fs ++ [q.1])))) else .bad
  | _ => .bad
theorem putF_zip : ∀ {fl : List Str} {vs : List V} {f : Str} {y : V}, fl.Nodup → fl[vs.length]? = some f → putF f y (fl.zip vs) = fl.zip (vs ++ [y])
  | [], vs, _, _, _, h => by simp at h
  | g :: fl, [], f, y, _, h => by
    simp at h
    subst h
    simp [putF]
  | g :: fl, v :: vs, f, y, nd, h => by
    have h1 : fl[vs.length]? = some f := by simpa using h
    have ne : g ≠ f := fun e => (List.nodup_cons.mp nd).1 (e ▸ List.mem_of_getElem? h1)
    show putF f y ((g, v) :: fl.zip vs) = (g, v) :: fl.zip (vs ++ [y])
    unfold putF
    rw [if_neg ne, putF_zip (List.nodup_cons.mp nd).2 h1]
section
variable {c0 : Gc} {β : BInv} {g : G} {H : Hp} {ρ : Env'} {σ : L2.St}
theorem Rel.updS {j c : Nat} {p C dx : Addr} {fs : List AV} {ws : List V} (R : Rel c0 β g ρ σ H) (hj : j < ρ.length) (ho : g.own j = some p) (hσ : σ[j]? = some (some (.ref p))) (hm : c0.mg (c0.ct c).1 = some (.ref C)) (hl : ws.length ≤ (c0.ct c).2.length) (r : RepsG c0 g H fs ws) (hS : g.S = some p) :
    Rel c0 β g (ρ.set j (.slf c fs)) σ (L2.upd H p (.ins C dx ((c0.ct c).2.zip ws))) := by
  have e : Ext g g H (L2.upd H p (.ins C dx ((c0.ct c).2.zip ws))) := ext_upd ho
  refine R.put e rfl (fun _ _ => rfl) hj (fun _ _ => rfl) (fun i a o hi h1 h2 => ?_) ?_ ?_ fun a h => ?_
  · rw [upd_ne (fun z => hi (R.inj i j a h1 (by rw [z]; exact ho)))]
    exact h2
  · refine β.frame R.box fun a h => ?_
    rw [upd_ne (fun z => (R.sep j p ho).2 (by rw [← z]; exact h))]
  · exact ⟨p, C, dx, ws, ho, hσ, hm, upd_same, hl, e.reps r, hS⟩
  · rw [ho] at h
    cases h
    exact ⟨(R.sep j p ho).1, (R.sep j p ho).2, fun i hi h => hi (R.inj i j p h ho)⟩
end
section
variable {X : Cx} {ct : CT} {β : BInv} {Ex : XK} {a b e : Expr} {es : List Expr} {f k : Sem} {m : SemL} {pos p p2 : Pos} {x n : Str} {j c i : Nat}
theorem js_fld (j : Nat) (F : FldOk X ct c i n) (ha : JE X ct β Ex a f) (hfew : (ct c).2.length < 1000) (hN : X.N[j]? = some x := by rfl) (hv : Vis X.env.scope x := by first | exact Or.inl rfl | exact Or.inr (Or.inl rfl) | exact Or.inr (Or.inr rfl)) (hd : (x == ("__debug__" : Str)) = false := by decide +kernel) (hcd : (x == ("__classdict__" : Str)) = false := by decide +kernel)
    (hs : swapsWith a (some (.Attribute (.Name x p) n p2)) pos.line X.env = pure false := by rfl) : JS X ct β Ex (.Assign [.Attribute (.Name x p) n p2] a pos) (sFldSet j c i f) := by
  refine PS.imp (ps_fld (pe_var (i := j) hN hv hd hcd) ha hs) fun D σ H h => ?_
  obtain ⟨g, ρ, R, h⟩ := h
  refine ⟨g, ρ, R, okT_mono (okT_bind h) fun g1 H1 p e1 h1 y R1 ry => ?_⟩
  obtain ⟨g2, s, e2, R2, rs, h2⟩ := frz_ok R1 ry h1
  obtain ⟨t, ρ2⟩ := s
  have R2 : Rel (gc X ct) β g2 ρ2 σ H1 := R2
  cases hs : ρ2[j]? with
  | none => simp only [hs] at h2; exact (show False from h2).elim
  | some sl =>
    simp only [hs] at h2
    cases sl with
    | slf c' fs =>
      by_cases hc : c' = c ∧ fs.length = i
      · have h3 : okT (gc X ct) β Ex g2 H1 (if c' = c ∧ fs.length = i then .ret (.nx (ρ2.set j (.slf c (fs ++ [t])))) else .bad) (endOk (gc X ct) β D) := h2
        rw [if_pos hc] at h3
        obtain ⟨rfl, rfl⟩ := hc
        obtain ⟨q, C, dx, vs, ho, hσ, hm, hq, hl, r, hS⟩ := R2.sl j _ hs
        obtain ⟨k1, k2⟩ := F.cls C hm
        have hlen := r.length
        have hlt : fs.length < (ct c').2.length := (List.getElem?_eq_some_iff.mp F.at_).1
        refine ⟨.ref q, hσ, q, C, dx, _, rfl, hq, k1, k2, ?_, ?_⟩
        · rw [List.length_zip, hlen]
          have : min (ct c').2.length fs.length ≤ (ct c').2.length := Nat.min_le_left _ _
          show min (ct c').2.length fs.length < 1000
          omega
        · rw [show putF n y ((ct c').2.zip vs) = (ct c').2.zip (vs ++ [y]) from putF_zip F.nd (by rw [hlen]; exact F.at_)]
          exact okT_ret' h3 (ext_upd ho) _ (R2.updS (List.getElem?_eq_some_iff.mp hs).1 ho hσ hm (by rw [List.length_append, hlen]; simp; show fs.length + 1 ≤ (ct c').2.length; omega) (r.append (.one rs)) hS)
      · have h3 : okT (gc X ct) β Ex g2 H1 (if c' = c ∧ fs.length = i then .ret (.nx (ρ2.set j (.slf c (fs ++ [t])))) else .bad) (endOk (gc X ct) β D) := h2
        rw [if_neg hc] at h3
        exact (show False from h3).elim
    | _ => exact (show False from h2).elim
end
def outI (c nf : Nat) : Out → T AV
  | .nx ρ => match (ρ[0]? : Option Slot) with
    | some (Slot.slf c' fs) => if c' = c ∧ fs.length = nf then .ret (.ins c fs) else .bad
    | _ => .bad
  | _ => .bad
def fnInit (np n c nf : Nat) (body : SSem) : List AV → T AV := fun ts => if ts.length = np then (body (.slf c [] :: (ts.map Slot.fro ++ List.replicate (n - (np + 1)) .un))).bind (outI c nf) else .bad
theorem fnInit_len {np n c nf : Nat} {body : SSem} (ts : List AV) (h : T.all (fun _ => True) (fun _ _ => True) (fnInit np n c nf body ts)) : ts.length = np := by
  unfold fnInit at h
  by_cases hl : ts.length = np
  · exact hl
  · rw [if_neg hl] at h; exact h.elim
def G.self (g : G) (a : Addr) : G := { g with own := fun i => if i = 0 then some a else none, S := some a }
def spI (c0 : Gc) (β : BInv) (n c : Nat) (fn : List AV → T AV) : Sp := fun vs H Q E => ∃ (g : G) (ts : List AV) (a C dx : Addr) (ws : List V), vs = .ref a :: ws ∧ H a = some (.ins C dx []) ∧ c0.mg (c0.ct c).1 = some (.ref C) ∧ (∀ i, g.own i = none) ∧ (∀ b, g.M b → H b ≠ none ∧ ∀ ws, H b ≠ some (.tup ws)) ∧ (∀ b, g.M b → ¬ g.B b) ∧ β.I g.B g.D H ∧ ¬ g.Av a ∧ RepsG c0 (g.plus a) H ts ws ∧ ts.length = n ∧
  okT c0 β E (g.self a) H (fn ts) fun g' H' t => ∀ g2 : G, g2 = { g' with own := fun i => if i = 0 then none else g'.own i } → β.I g'.B g'.D H' → RepG c0 g2 H' t (.ref a) → Q .non H'
section
variable {P : Program} {w : World} {K : PySem.W.Frag} {mg : Str → Option Value} {base : Heap} {ct : CT} {β : BInv}
theorem rel_startI {c0 : Gc} {g : G} {H : Hp} {ts : List AV} {vs : List V} {N : List Str} {np c : Nat} {a C dx : Addr} (hcl : H a = some (.ins C dx [])) (hcm : c0.mg (c0.ct c).1 = some (.ref C)) (ho : ∀ i, g.own i = none) (hm : ∀ b, g.M b → H b ≠ none ∧ ∀ ws, H b ≠ some (.tup ws)) (hmb : ∀ b, g.M b → ¬ g.B b) (hb : β.I g.B g.D H) (na : ¬ g.Av a)
    (r : RepsG c0 (g.plus a) H ts vs) (hl : ts.length = np) (hN : np + 1 ≤ N.length) : Rel c0 β (g.self a) (.slf c [] :: (ts.map Slot.fro ++ List.replicate (N.length - (np + 1)) .un)) (L2.start N (.ref a :: vs)) H := by
  have hav : ∀ b, (g.self a).Av b → (g.plus a).Av b := fun b h => plus_av.mpr (by
    rcases h with h | ⟨i, h⟩ | h
    · exact .inl (.inl h)
    · unfold G.self at h
      simp only at h
      split at h
      · cases h; exact .inr rfl
      · cases h
    · exact .inl (.inr (.inr h)))
  have st : L2.start N (.ref a :: vs) = some (V.ref a) :: (vs.map some ++ List.replicate (N.length - (np + 1)) none) := by
    unfold L2.start
    rw [List.map_cons, List.length_cons, r.length, hl]
    rfl
  rw [st]
  refine ⟨?_, fun i s hi => ?_, fun i hi => ?_, fun i j b h1 h2 => ?_, fun b h => (hm b h).1, fun b h => (hm b h).2, fun i b h => ?_, hmb, hb⟩
  · simp [r.length]
  · cases i with
    | zero =>
      cases hi
      exact ⟨a, C, dx, [], rfl, rfl, hcm, by rw [List.zip_nil_right]; exact hcl, Nat.zero_le _, .nil, rfl⟩
    | succ i =>
      have hi : (ts.map Slot.fro ++ List.replicate (N.length - (np + 1)) .un)[i]? = some s := by simpa using hi
      have ow : (g.self a).own (i + 1) = none := rfl
      rw [ow]
      by_cases h : i < ts.length
      · rw [List.getElem?_append_left (by rw [List.length_map]; exact h), List.getElem?_map] at hi
        cases e : ts[i]? with
        | none => rw [e] at hi; cases hi
        | some t =>
          rw [e] at hi
          cases hi
          obtain ⟨v, ev, rv⟩ := r.get' e
          refine ⟨rfl, v, ?_, rv.imp (fun b o q nb => ⟨q, fun z => nb (hav b z)⟩) fun _ h => h⟩
          rw [List.getElem?_cons_succ, List.getElem?_append_left (by rw [List.length_map, r.length]; exact h), List.getElem?_map, ev]
          rfl
      · rw [List.getElem?_append_right (by rw [List.length_map]; omega), List.getElem?_replicate] at hi
        split at hi
        · cases hi; rfl
        · cases hi
  · cases i with
    | zero => simp at hi
    | succ i => rfl
  · have own1 : ∀ k, (g.self a).own k = some b → k = 0 := fun k h => by
      unfold G.self at h
      simp only at h
      split at h
      · assumption
      · cases h
    rw [own1 i h1, own1 j h2]
  · unfold G.self at h
    simp only at h
    split at h
    · cases h
      exact ⟨fun z => na (.inl z), fun z => na (.inr (.inr z))⟩
    · cases h
theorem init_def {x qual : Str} {st : Stmt} {f : Addr} {fd : FuncData} {N ps : List Str} {k c : Nat} {body : SSem} (F : Fun K x qual st f fd) (S : FnScope N ps (defScope st)) (hl : ps.length ≤ N.length) (hp : 0 < ps.length)
    (hb : ∀ (cdv : Value) (A : Around) (outer : List Env) (s : Shared) (H : Hp) (E : XK), Room k (A.deeper (envOfC qual (defScope st) s.heap.objs.size f cdv)) → JSs (cxOf (L2.CX P w) P w K mg base N qual (defScope st) f cdv A outer s H E) ct β E (defBody st) body) :
    FnOk P w K mg base (L2.CX P w) (k + 1) f fd ps (spI ⟨K, mg, ct⟩ β (ps.length - 1) c (fnInit (ps.length - 1) N.length c (ct c).2.length body)) := by
  refine F.okX S (fun vs H Q E h => ?_) fun cdv A outer s H vs Q E hr h => ?_
  · obtain ⟨g, ts, a, C, dx, ws, rfl, _, _, _, _, _, _, _, r, e, _⟩ := h
    rw [List.length_cons, r.length, e]
    omega
  · obtain ⟨g, ts, a, C, dx, ws, rfl, hcl, hcm, ho, hm, hmb, hbx, na, r, e, h⟩ := h
    refine ⟨_, hb cdv A outer s H E hr, g.self a, _, rel_startI hcl hcm ho hm hmb hbx na r e (by omega), ?_⟩
    unfold fnInit at h
    rw [if_pos e] at h
    refine okT_mono (okT_bind h) fun g' H' o e q => ?_
    cases o with
    | nx ρ =>
      intro σ R
      cases h0 : ρ[0]? with
      | none => simp only [outI, h0] at q; exact (show False from q).elim
      | some sl =>
        cases sl with
        | slf c' fs =>
          by_cases hc : c' = c ∧ fs.length = (ct c).2.length
          · simp only [outI, h0] at q
            rw [if_pos hc] at q
            obtain ⟨rfl, hn⟩ := hc
            obtain ⟨p, C', dx', vs, h1, h2, h3, h4, h5, h6, h7⟩ := R.sl 0 _ h0
            have hpa : p = a := by
              have z : g'.S = some a := e.s
              rw [h7] at z
              cases z
              rfl
            subst hpa
            have nx := okT_ret q
            refine nx _ rfl R.box ?_
            rw [RepG, Rep]
            refine ⟨p, C', dx', vs, rfl, fun z => ?_, h3, h4, by rw [h6.length]; exact hn, h6.imp (fun b o q nb => ⟨q, fun z => nb ?_⟩) fun _ h => h⟩
            · rcases z with z | ⟨i, z⟩ | z
              · exact (R.sep 0 p h1).1 z
              · simp only at z
                split at z
                · cases z
                · rename_i hi
                  exact hi (R.inj i 0 p z h1)
              · exact (R.sep 0 p h1).2 z
            · rcases z with z | ⟨i, z⟩ | z
              · exact .inl z
              · simp only at z
                split at z
                · cases z
                · exact .inr (.inl ⟨i, z⟩)
              · exact .inr (.inr z)
          · simp only [outI, h0] at q
            rw [if_neg hc] at q
            exact (show False from q).elim
        | _ => simp only [outI, h0] at q; exact (show False from q).elim
    | rt t => exact (show False from q).elim
    | bk ρ => exact (show False from q).elim
    | ct ρ => exact (show False from q).elim
end
end Dn
set_option Elab.async false
set_option linter.all false
set_option maxRecDepth 100000
namespace Dn
open PySem PySem.Spec PyProof.Rows L2
theorem passE0 {P : Program} {w : World} {X : Cx} : Passes (L2.CX P w) X E0 := fun _ _ _ _ _ _ _ h => by
  obtain ⟨_, _, _, _, _, _, _, _, _, _, _, _, z⟩ := h
  exact z.elim
structure Df (P : Program) (w : World) (K : PySem.W.Frag) (mg : Str → Option Value) (base : Heap) (ct : CT) (β : BInv) (lv : Nat) (x : Str) (n : Nat) (ps : List Str) (fn : List AV → T AV) : Prop where
  ex : ∃ fa fd, FnOk P w K mg base (L2.CX P w) lv fa fd ps (spM ⟨K, mg, ct⟩ β n fn) ∧ mg x = some (.ref fa) ∧ PySem.W.keepIn K (.ref fa) = true ∧ Binds K fd ps []
  len : ∀ ts : List AV, T.all (fun _ => True) (fun _ _ => True) (fn ts) → ts.length = n
section
variable {P : Program} {w : World} {K : PySem.W.Frag} {mg : Str → Option Value} {base : Heap} {ct : CT} {β : BInv} {lv n : Nat} {x : Str} {ps : List Str} {fn : List AV → T AV}
theorem imp0 {fa : Addr} {fd : FuncData} {sp sp' : Sp} (F : FnOk P w K mg base CX0 lv fa fd ps sp) (h : ∀ vs H Q E, sp' vs H Q E → sp vs H Q E0) : FnOk P w K mg base (L2.CX P w) lv fa fd ps sp' :=
  ⟨fun vs H Q E q => F.len vs H Q E0 (h _ _ _ _ q), fun A outer s H args us vs Q E hr e b v q => codeAny_mono (F.run A outer s H args us vs Q E0 hr e b v (h _ _ _ _ q)) fun r s' z => by
    cases r with
    | error e => exact (show False from z).elim
    | ok f => cases f <;> exact z⟩
theorem deft0 {c0 : Gc} : Deft c0 [] [] := fun _ _ => .nil
end
section
variable {X : Cx} {ct : CT} {β : BInv} {Ex : XK} {e : Expr} {es : List Expr} {m : SemL} {pos p : Pos} {x : Str} {lv n c : Nat} {ps : List Str} {fn : List AV → T AV}
theorem j_callD (D : Df X.prog X.w X.K X.mg X.base ct β lv x n ps fn) (hr : Room lv X.A) (hx : Passes (L2.CX X.prog X.w) X Ex) (ha : JL X ct β Ex (e :: es) m) (hg : Gl X x := by rfl) (hdb : (x == ("__debug__" : Str)) = false := by decide +kernel)
    (he : starEach (e :: es) X.env = (false, eval e X.env) :: starEach es X.env := by rfl) (hpl : (backTo pos (starEach es X.env)).any (·.1) = false := by rfl) : JE X ct β Ex (.Call (.Name x p) (e :: es) [] pos) (fCall fn [] m) := by
  obtain ⟨fa, fd, F, h1, h2, h3⟩ := D.ex
  exact j_call F D.len hr h1 h2 h3 .nil deft0 hx ha hg hdb he hpl
def fMake (fn : List AV → T AV) (k : SemL) : Sem := fun ρ => (k ρ).bind fun p => (fn p.1).bind fun t => .ret (.val t, p.2)
structure Cf (P : Program) (w : World) (K : PySem.W.Frag) (mg : Str → Option Value) (base : Heap) (ct : CT) (β : BInv) (lv : Nat) (x : Str) (c n : Nat) (ps : List Str) (fn : List AV → T AV) : Prop where
  ex : ∃ C fa fd, Mk K C fa ∧ FnOk P w K mg base (L2.CX P w) lv fa fd ps (spI ⟨K, mg, ct⟩ β n c fn) ∧ mg x = some (.ref C) ∧ Binds K fd ps []
  nm : (ct c).1 = x
  len : ∀ ts : List AV, T.all (fun _ => True) (fun _ _ => True) (fn ts) → ts.length = n
theorem j_make (D : Cf X.prog X.w X.K X.mg X.base ct β lv x c n ps fn) (hr : Room (lv + 1) X.A) (hx : Passes (L2.CX X.prog X.w) X Ex) (ha : JL X ct β Ex (e :: es) m) (hg : Gl X x := by rfl) (hdb : (x == ("__debug__" : Str)) = false := by decide +kernel)
    (he : starEach (e :: es) X.env = (false, eval e X.env) :: starEach es X.env := by rfl) (hpl : (backTo pos (starEach es X.env)).any (·.1) = false := by rfl) : JE X ct β Ex (.Call (.Name x p) (e :: es) [] pos) (fMake fn m) := by
  obtain ⟨C, fa, fd, M, F, hm, hb⟩ := D.ex
  refine PE.imp (pe_make M F hr hg hm hb .nil hx ha hdb he hpl) fun σ H Q h => ?_
  obtain ⟨g, ρ, R, h⟩ := h
  refine ⟨g, ρ, R, okT_mono (okT_bind h) fun g1 H1 q e1 h1 vs R1 rv a dx na nd hne => ?_⟩
  have h2 := okT_bind h1
  have s1 : Same H1 (upd H1 dx (.own a)) := same_upd nd
  have s2 : Same (upd H1 dx (.own a)) (upd (upd H1 dx (.own a)) a (.ins C dx [])) := same_upd (by rw [upd_ne (Ne.symm hne)]; exact na)
  have s := s1.trans s2
  have hcl : (upd (upd H1 dx (.own a)) a (.ins C dx [])) a = some (.ins C dx []) := upd_same
  generalize upd (upd H1 dx (.own a)) a (.ins C dx []) = H2 at s hcl ⊢
  have back : ∀ {b : Addr}, H2 b = none → H1 b = none := fun {b} z => none_back (Ext.same (g := g1) s) z
  have lv2 : ∀ {b : Addr}, H1 b ≠ none → H2 b ≠ none := fun {b} z y => z (back y)
  have ex : ∀ {g' : G} {H' : Hp}, Ext (g1.down.self a) g' H2 H' → Ext g1.down { g' with own := fun _ => none, S := g1.down.S } H1 H' := fun {g' H'} e => {
    keep := fun b o h hn hb => e.keep b o (s b o h) (fun i z => by
      unfold G.self at z
      simp only at z
      split at z
      · cases z; rw [na] at h; cases h
      · cases z) hb
    live := fun b h => e.live b (lv2 h)
    m := e.m
    bsub := e.bsub
    bnew := fun b h => (e.bnew b h).elim .inl fun z => .inr (back z)
    dsub := e.dsub
    own := fun i b h => by cases h
    s := rfl }
  refine ⟨g1.down, q.1, a, C, dx, vs ++ [], rfl, hcl, ?_, fun _ => rfl, fun b h => ?_, fun b h => ?_, β.frame R1.box fun b h => ?_, fun z => R1.freshAv na (down_av.mp z), ?_, D.len _ (T.all_mono h2 (fun _ _ => trivial) fun _ _ _ => trivial), ?_⟩
  · show X.mg (ct c).1 = _
    rw [D.nm]
    exact hm
  · have h : g1.Av b := h.elim .inl fun h => .inr (.inl h)
    refine ⟨lv2 (R1.avLive h), fun ws z => ?_⟩
    cases y : H1 b with
    | none => exact R1.avLive h y
    | some o => rw [s b o y] at z; cases z; exact R1.avNt h ws y
  · rcases h with h | ⟨i, h⟩
    · exact R1.mb b h
    · exact (R1.sep i b h).2
  · cases y : H1 b with
    | none => exact absurd y (β.live R1.box h)
    | some o => exact s b o y
  · rw [List.append_nil]
    exact reps_plus (reps_down rv) s na
  · refine T.all_mono h2 (fun t z g' H' e g2 hg2 hb2 rt => ⟨rfl, ?_⟩) fun cc xs z g' H' C' d ws e hb2 hm2 hd2 hl2 rw2 => ?_
    · refine okT_ret (z _ _ (down_ext R1 (ex e))) (.ref a) (down_rel R1 (ex e) hb2) ?_
      subst hg2
      refine rt.imp (fun b o y nb => ⟨y, fun v => nb ?_⟩) fun _ h => h
      rcases v with v | ⟨i, v⟩ | v
      · exact .inl (by show g'.M b; rw [e.m]; exact .inl v)
      · exact .inl (by show g'.M b; rw [e.m]; exact .inr ⟨i, v⟩)
      · exact .inr (.inr v)
    · refine z _ _ C' d ws (down_ext R1 (ex e)) hb2 hm2 hd2 hl2 (rw2.imp (fun b o y nb => ⟨y, fun v => nb ?_⟩) fun _ h => h)
      rcases v with v | ⟨i, v⟩ | v
      · exact .inl (by rw [e.m]; exact .inl v)
      · exact .inl (by rw [e.m]; exact .inr ⟨i, v⟩)
      · exact .inr (.inr v)
end
def sParE3 (i j l : Nat) (f : Sem) : SSem := fun ρ => (f ρ).bind fun p => (frz p).bind fun q => if i < q.2.length ∧ j < q.2.length ∧ l < q.2.length ∧ j ≠ l then .ret (.nx (((q.2.set i (.fro q.1)).set j (.ml [])).set l (.ml []))) else .bad
def Wants3 (X : Cx) (ct : CT) (β : BInv) (Ex : XK) (i j l : Nat) (t : TA) (s : SSem) : Prop := ∀ (D : Ends) (σ : L2.St) (H : Hp), rdS (gc X ct) β Ex s D σ H → t σ H fun vs H1 => ∃ u v w, vs = [u, v, w] ∧ ∀ H2, Same H1 H2 → D.nx (((σ.set i (some u)).set j (some v)).set l (some w)) H2
section
variable {X : Cx} {ct : CT} {β : BInv} {Ex : XK} {a b c : Expr} {f : Sem} {pos px py pz pt pt2 pl pl2 : Pos} {kt k2 : Nat} {x y z : Str} {i j l : Nat}
end
section
variable {X : Cx} {ct : CT} {β : BInv} {Ex : XK} {elt tg iter : Expr} {ifs : List Expr} {f : SemI} {k : GSem} {tt : SemB} {el : Sem} {pos spos py : Pos} {scope : Scope} {own : List (Str × Nat)} {is : List Nat} {i : Nat} {y : Str}
theorem js_setLc (i : Nat) (hc : X.calm = true) (hN : X.N.Nodup) (ok : BlkOk X.N X.env.scope scope own) (hown : ∀ i ∈ is, i ∈ own.map (·.2)) (hi : JI X ct β Ex tg iter f)
    (hg : ∀ (s : Shared) (H : Hp) (C : Addr) (cl : List (Str × Addr)) (fp : List Addr), JG (X.blk s H scope (compEnvC scope cl C X.env) fp) ct β E0 tg is k) (ht : ∀ (s : Shared) (H : Hp) (C : Addr) (cl : List (Str × Addr)) (fp : List Addr), JTs (X.blk s H scope (compEnvC scope cl C X.env) fp) ct β E0 ifs tt)
    (he : ∀ (s : Shared) (H : Hp) (C : Addr) (cl : List (Str × Addr)) (fp : List Addr), JE (X.blk s H scope (compEnvC scope cl C X.env) fp) ct β E0 elt el)
    (hy : X.N[i]? = some y := by rfl) (hyl : X.env.scope.names.lookup y = some .local := by rfl) (hsw : swapsWith (.ListComp elt [⟨tg, iter, ifs, 0⟩] scope pos) (some (.Name y py)) spos.line X.env = pure true := by rfl) (hs : ∀ x, foldedSetIterable iter X.env x = pure x := by intro _; rfl) :
    JS X ct β Ex (.Assign [.Name y py] (.ListComp elt [⟨tg, iter, ifs, 0⟩] scope pos) spos) (sSet i (fNew (nLc (own.map (·.2)) f k tt el))) := by
  refine PS.imp (ps_setLc (g := rdG (gc X ct) β E0 is k) (tt := rdB (gc X ct) β E0 tt) (te := rdE (gc X ct) β E0 el) hc hN hy hyl hsw hi ok hg ht he hs) fun D σ H h => lc_ok (Ex := Ex) (Q := fun x H1 => gName i x σ H1 D.nx) hown ?_
  obtain ⟨g, ρ, R, h⟩ := h
  refine ⟨g, ρ, R, okT_bind0 (show okT (gc X ct) β Ex g H ((nLc (own.map (·.2)) f k tt el ρ).bind fun p => .ret (.nx (p.2.set i (.fro (.lst p.1))))) (endOk (gc X ct) β D) from ?_) fun p q g' H' e a vs hn na ho R' r => ?_⟩
  · have e : sSet i (fNew (nLc (own.map (·.2)) f k tt el)) ρ = (nLc (own.map (·.2)) f k tt el ρ).bind fun p => .ret (.nx (p.2.set i (.fro (.lst p.1)))) := by
      show ((nLc (own.map (·.2)) f k tt el ρ).bind _).bind _ = _
      rw [T.bind_assoc]
      rfl
    rw [← e]
    exact h
  · show D.nx (σ.set i (some (.ref a))) H'
    have R0 := R'.minus
    have rp : RepG (gc X ct) g' H' (.lst p.1) (.ref a) := rep_lst_new na ho (plus_reps r)
    by_cases hj : i < p.2.length
    · exact okT_ret' q (e.trans (ext_no g' i H')) _ (R0.setFro rp hj)
    · have q2 := okT_ret' q e
      rw [set_ge hj] at q2
      have : σ.set i (some (V.ref a)) = σ := List.set_eq_of_length_le (by rw [R0.len]; omega)
      rw [this]
      exact q2 σ R0
end
end Dn
set_option Elab.async false
set_option linter.all false
set_option maxRecDepth 100000
namespace Dn
open PySem PySem.Spec PyProof.Rows L2
abbrev NoX : Nat → List AV → Prop := fun _ _ => False
theorem bind_ret' {α γ : Type} {a : α} {f : α → T γ} : (T.ret a).bind f = f a := rfl
theorem lift_some {α : Type} {a : α} : lift (some a) = T.ret a := rfl
theorem forL_all {k : GSem} {body : SSem} {Q : Out → Prop} {E : Nat → List AV → Prop} (I : Nat → Env' → Prop) {xs : List AV} {ρ : Env'} (h0 : I 0 ρ)
    (step : ∀ (i : Nat) (x : AV) (ρ : Env'), xs[i]? = some x → I i ρ → (k x ρ).all (fun ρ1 => (body ρ1).all (fun o => match o with | .nx ρ' => I (i + 1) ρ' | .ct ρ' => I (i + 1) ρ' | .bk ρ' => Q (.nx ρ') | .rt t => Q (.rt t)) E) E)
    (hend : ∀ ρ, I xs.length ρ → Q (.nx ρ)) : (forL k body xs ρ).all Q E := by
  have key : ∀ (n i : Nat) (ρ : Env'), xs.length - i = n → i ≤ xs.length → I i ρ → (forL k body (xs.drop i) ρ).all Q E := by
    intro n
    induction n with
    | zero =>
      intro i ρ hn hi h
      have e : i = xs.length := by omega
      subst e
      rw [List.drop_length]
      exact hend ρ h
    | succ n ih =>
      intro i ρ hn hi h
      have hlt : i < xs.length := by omega
      rw [List.drop_eq_getElem_cons hlt]
      show ((k xs[i] ρ).bind _).all Q E
      refine T.all_bind.mpr (T.all_mono (step i xs[i] ρ (List.getElem?_eq_getElem hlt) h) (fun ρ1 h1 => ?_) fun _ _ z => z)
      refine T.all_bind.mpr (T.all_mono h1 (fun o h2 => ?_) fun _ _ z => z)
      cases o with
      | nx ρ' => exact ih (i + 1) ρ' (by omega) (by omega) h2
      | ct ρ' => exact ih (i + 1) ρ' (by omega) (by omega) h2
      | bk ρ' => exact h2
      | rt t => exact h2
  have := key xs.length 0 ρ rfl (Nat.zero_le _) h0
  rwa [List.drop_zero] at this
theorem backE_eq {ρ0 r : Env'} (vs : List Nat) (h : wipeE r vs = wipeE ρ0 vs) : backE ρ0 r vs = backE ρ0 ρ0 vs := by
  rw [← backE_wipe vs r, h, backE_wipe]
end Dn
set_option Elab.async false
set_option linter.all false
set_option maxRecDepth 100000
namespace Dn
open PySem PySem.Spec PyProof.Rows L2
def maxL (x : Int) (r : List Int) : Int := r.foldl max x
def minL (x : Int) (r : List Int) : Int := r.foldl min x
def pMax1 (a : AV) : Option AV := match a with
  | .lst xs => match intsOf xs with
    | some (x :: r) => some (.int (maxL x r))
    | _ => none
  | _ => none
def pMin1 (a : AV) : Option AV := match a with
  | .lst xs => match intsOf xs with
    | some (x :: r) => some (.int (minL x r))
    | _ => none
  | _ => none
def pLcm (a b : AV) : Option AV := match a, b with
  | .int i, .int j => if 0 ≤ i ∧ below i 63 = true ∧ 0 ≤ j ∧ below j 63 = true then some (.int ((Nat.lcm i.natAbs j.natAbs : Nat) : Int)) else none
  | _, _ => none
section
variable {X : Cx} {ct : CT} {β : BInv} {Ex : XK} {a b e tg : Expr} {f k : Sem} {pos p p2 apos tpos : Pos} {x : Str} {id : String}
end
theorem reps_flat {c0 : Gc} {A D : Addr → Prop} {H : Hp} {xs : List AV} {vs : List V} (r : RepL c0 A D H xs vs) : ∀ k : Nat, RepL c0 A D H (List.replicate k xs).flatten (List.replicate k vs).flatten
  | 0 => .nil
  | k + 1 => by
    rw [List.replicate_succ, List.replicate_succ, List.flatten_cons, List.flatten_cons]
    exact r.append (reps_flat r k)
abbrev rMulA (K : PySem.W.Frag) : R2 := fun x y H Q => ((rI CMulX fun i j => .int (i * j)) x y H Q ∨ rRep x y H Q) ∨ rRepT K x y H Q
section
variable {X : Cx} {ct : CT} {β : BInv} {Ex : XK}
theorem op_mulA : OpR X (binaryOp .Mult) (rMulA X.K) := (op_mulX.or op_rep).or op_repT
theorem o_mul : Op2' X ct (rMulA X.K) pMul := by
  intro g H a b z x y Q live ra rb e q
  cases a <;> cases b <;> first | (simp [pMul] at e; done) | skip
  · obtain ⟨h, rfl⟩ := ifp_some e
    refine .inl (.inl ⟨_, _, ra.int, rb.int, mulx_ok Nat.lt_log2_self Nat.lt_log2_self (by omega), q _ H (Same.refl H) rep_int⟩)
  · rename_i xs i
    obtain ⟨h, rfl⟩ := ifp_some e
    obtain ⟨a', vs, rfl, h1, r1⟩ := ra.tup
    refine .inr ⟨a', _, vs, rfl, rb.int, h1, fun z => ?_, h.2.1, h.2.2.1, by rw [r1.length]; exact h.2.2.2, fun p hp => ?_⟩
    · have := reps_nil r1 z
      rw [this] at h
      exact absurd h.1 (by simp)
    · have s := same_upd (o := .tup (List.replicate i.toNat vs).flatten) hp
      exact q _ _ s (rep_tup_new (fun z => live p z hp) upd_same ((Ext.same s).reps (reps_flat r1 _)))
  · rename_i xs i
    obtain ⟨h, rfl⟩ := ifp_some e
    obtain ⟨a', vs, rfl, h1, r1⟩ := ra.lst'
    refine .inl (.inr ⟨a', _, vs, rfl, rb.int, h1, by omega, by omega, by rw [r1.length]; exact Nat.le_trans h.2.1 big_line, fun p hp => ?_⟩)
    have s := same_upd (o := .lst (List.replicate i.toNat vs).flatten) hp
    exact q _ _ s (rep_lst_new (fun z => live p z hp) upd_same ((Ext.same s).reps (reps_flat r1 _)))
end
def DR (c0 : Gc) (A D : Addr → Prop) (H : Hp) : List (AV × AV) → List (Key × V) → Prop := Paired fun a u => keyOf1 a.1 = some u.1 ∧ Rep c0 A D H a.2 u.2
def dFind (kvs : List (AV × AV)) (k : Key) : Option AV := (kvs.find? fun q => decide (keyOf1 q.1 = some k)).map (·.2)
def dPut (kvs : List (AV × AV)) (ka : AV) (k : Key) (v : AV) : List (AV × AV) :=
  if (kvs.any fun q => decide (keyOf1 q.1 = some k)) = true then kvs.map (fun q => if keyOf1 q.1 = some k then (q.1, v) else q) else kvs ++ [(ka, v)]
def dDrop (kvs : List (AV × AV)) (k : Key) : List (AV × AV) := kvs.filter fun q => decide (keyOf1 q.1 ≠ some k)
section
variable {c0 : Gc} {A D A' D' : Addr → Prop} {H H' : Hp}
theorem dr_of : ∀ {kvs : List (AV × AV)} {ws : List (AV × V)} {us : List (Key × V)}, KVs c0 A D H kvs ws → DicK ws us → DR c0 A D H kvs us
  | [], ws, us, h, h' => by
    have e : ws = [] := h
    subst e
    cases h'
    exact .nil
  | (ka, xa) :: r, ws, us, h, h' => by
    obtain ⟨v, ws', e, h1, h2⟩ := h
    subst e
    cases h' with
    | cons q t =>
      refine .cons ⟨q.1, ?_⟩ (dr_of h2 t)
      have e2 := q.2
      rw [← e2]
      exact h1
theorem DR.length {kvs : List (AV × AV)} {us : List (Key × V)} (h : DR c0 A D H kvs us) : kvs.length = us.length := Paired.length h
theorem DR.val {kvs : List (AV × AV)} {us : List (Key × V)} (r : DR c0 A D H kvs us) (k : Key) : (dFind kvs k = none ∧ valV us k = none) ∨ ∃ t v, dFind kvs k = some t ∧ valV us k = some v ∧ Rep c0 A D H t v := by
  unfold DR at r
  induction r with
  | nil => exact .inl ⟨rfl, rfl⟩
  | @cons q u ps us h t ih =>
    by_cases e : u.1 = k
    · refine .inr ⟨q.2, u.2, ?_, valV_pos e, h.2⟩
      unfold dFind
      rw [List.find?_cons, show decide (keyOf1 q.1 = some k) = true from decide_eq_true (by rw [h.1, e])]
      rfl
    · have e2 : dFind (q :: ps) k = dFind ps k := by
        unfold dFind
        rw [List.find?_cons, show decide (keyOf1 q.1 = some k) = false from decide_eq_false (by rw [h.1]; exact fun z => e (Option.some.inj z))]
      rw [e2, valV_neg e]
      exact ih
theorem dAny (k : Key) : ∀ kvs : List (AV × AV), (kvs.any fun q => decide (keyOf1 q.1 = some k)) = (dFind kvs k).isSome
  | [] => rfl
  | q :: r => by
    unfold dFind
    rw [List.any_cons, List.find?_cons]
    by_cases e : keyOf1 q.1 = some k
    · rw [show decide (keyOf1 q.1 = some k) = true from decide_eq_true e]; rfl
    · rw [show decide (keyOf1 q.1 = some k) = false from decide_eq_false e, Bool.false_or]; exact dAny k r
theorem DR.put {kvs : List (AV × AV)} {us : List (Key × V)} {ka va : AV} {k : Key} {v : V} (r : DR c0 A D H kvs us) (hk : keyOf1 ka = some k) (rv : Rep c0 A D H va v) : DR c0 A D H (dPut kvs ka k va) (putK us k v) := by
  have e : (kvs.any fun q => decide (keyOf1 q.1 = some k)) = (us.any fun u => decide (u.1 = k)) := by
    rw [dAny, valV_any]
    rcases r.val k with ⟨h1, h2⟩ | ⟨t, w, h1, h2, _⟩
    · rw [h1, h2]; rfl
    · rw [h1, h2]; rfl
  unfold dPut putK
  rw [e]
  by_cases q : (us.any fun u => decide (u.1 = k)) = true
  · rw [if_pos q, if_pos q]
    clear q e
    unfold DR at r ⊢
    induction r with
    | nil => exact .nil
    | @cons q u ps us h t ih =>
      rw [List.map_cons, List.map_cons]
      refine .cons ?_ ih
      by_cases e : u.1 = k
      · rw [if_pos e, if_pos (by rw [h.1, e])]; exact ⟨h.1, rv⟩
      · rw [if_neg e, if_neg (by rw [h.1]; exact fun z => e (Option.some.inj z))]; exact h
  · rw [if_neg q, if_neg q]
    exact Paired.snoc r ⟨hk, rv⟩
theorem DR.drop {kvs : List (AV × AV)} {us : List (Key × V)} (k : Key) (r : DR c0 A D H kvs us) : DR c0 A D H (dDrop kvs k) (dropK us k) := by
  unfold DR at r ⊢
  unfold dDrop dropK
  induction r with
  | nil => exact .nil
  | @cons q u ps us h t ih =>
    rw [List.filter_cons, List.filter_cons]
    by_cases e : u.1 = k
    · rw [if_neg (show ¬ decide (keyOf1 q.1 ≠ some k) = true by simp [h.1, e]), if_neg (show ¬ decide (u.1 ≠ k) = true by simp [e])]
      exact ih
    · rw [if_pos (show decide (keyOf1 q.1 ≠ some k) = true by simp [h.1, e]), if_pos (show decide (u.1 ≠ k) = true by simp [e])]
      exact .cons h ih
theorem rep_key {g : G} {t : AV} {k : Key} (h : keyOf1 t = some k) : RepG c0 g H t (kV k) := by
  cases t with
  | int i => cases h; exact rep_int
  | str s => cases h; exact rep_str
  | _ => cases h
theorem key_rep {g : G} {t : AV} {k : Key} {v : V} (h : keyOf1 t = some k) (r : RepR c0 g H t v) : v = kV k := by
  cases t with
  | int i => cases h; exact r.int
  | str s => cases h; exact r.str
  | _ => cases h
theorem DR.keys {g : G} {kvs : List (AV × AV)} {us : List (Key × V)} (r : DR c0 A D H kvs us) : RepsG c0 g H' (kvs.map (·.1)) (us.map fun u => kV u.1) := by
  unfold DR at r
  induction r with
  | nil => exact .nil
  | cons h t ih => exact .cons (rep_key h.1) ih
end
def isMd (ρ : Env') (j : Nat) : Option (List (AV × AV)) := match ρ[j]? with
  | some (.md true kvs) => some kvs
  | _ => none
section
variable {c0 : Gc} {β : BInv} {g : G} {H : Hp} {ρ : Env'} {σ : L2.St} {a : Addr}
theorem Rel.md {j : Nat} {kvs : List (AV × AV)} (R : Rel c0 β g ρ σ H) (h : ρ[j]? = some (.md true kvs)) : ∃ p us, g.own j = some p ∧ σ[j]? = some (some (.ref p)) ∧ H p = some (.dK us) ∧ DR c0 g.Av g.D H kvs us := by
  obtain ⟨p, ws, e1, e2, e3, e4⟩ := R.sl j _ h
  rcases e4 with ⟨us, e4, e5, _⟩ | ⟨_, _, _, e⟩
  · exact ⟨p, us, e1, e2, e4, dr_of e3 e5⟩
  · cases e
theorem DR.ext {g' : G} {H' : Hp} {kvs : List (AV × AV)} {us : List (Key × V)} (e : Ext g g' H H') (r : DR c0 g.Av g.D H kvs us) : DR c0 g'.Av g'.D H' kvs us := Paired.mapP r fun _ _ q => ⟨q.1, q.2.imp (fun _ _ q n => e.av q n) e.dsub⟩
end
theorem okT_ext {c0 : Gc} {β : BInv} {Ex : XK} {α : Type} {g g1 : G} {H H1 : Hp} {m : T α} {Q : G → Hp → α → Prop} (h : okT c0 β Ex g H m Q) (e : Ext g g1 H H1) : okT c0 β Ex g1 H1 m Q :=
  T.all_mono h (fun _ q g' H' e' => q g' H' (e.trans e')) fun c xs q g' H' C d vs e' => q g' H' C d vs (e.trans e')
def nAdd (f k : Sem) : SemN := fun ρ => (f ρ).bind fun p => (k p.2).bind fun q => (lift (rs p.1 q.2)).bind fun a => (lift (lstOf a)).bind fun xs => (lift (rs q.1 q.2)).bind fun b => (lift (lstOf b)).bind fun ys => if xs.length + ys.length ≤ big then .ret (xs ++ ys, q.2) else .bad
section
variable {X : Cx} {ct : CT} {β : BInv} {Ex : XK} {a b : Expr} {f k : Sem} {pos : Pos}
end
def sDnew (i : Nat) : SSem := fun ρ => .ret (.nx (ρ.set i (.md true [])))
def tDin (j : Nat) (f : Sem) : SemB := fun ρ => (f ρ).bind fun p => (lift (rs p.1 p.2)).bind fun a => (lift (keyOf1 a)).bind fun k => (lift (isMd p.2 j)).bind fun kvs => .ret ((dFind kvs k).isSome, p.2)
def tDnotIn (j : Nat) (f : Sem) : SemB := fun ρ => (f ρ).bind fun p => (lift (rs p.1 p.2)).bind fun a => (lift (keyOf1 a)).bind fun k => (lift (isMd p.2 j)).bind fun kvs => .ret (!(dFind kvs k).isSome, p.2)
def sDput (j : Nat) (fk fv : Sem) : SSem := fun ρ => (fv ρ).bind fun p => (frz p).bind fun q => (lift (isMd q.2 j)).bind fun _ => (fk q.2).bind fun r => (lift (rs r.1 r.2)).bind fun a => (lift (keyOf1 a)).bind fun k => (lift (isMd r.2 j)).bind fun kvs =>
  if kvs.length < big then .ret (.nx (r.2.set j (.md true (dPut kvs a k q.1)))) else .bad
def fDget (j : Nat) (fk : Sem) : Sem := fun ρ => (lift (isMd ρ j)).bind fun _ => (fk ρ).bind fun r => (lift (rs r.1 r.2)).bind fun a => (lift (keyOf1 a)).bind fun k => (lift (isMd r.2 j)).bind fun kvs => (lift (dFind kvs k)).bind fun v => .ret (.val v, r.2)
def sDdel (j : Nat) (fk : Sem) : SSem := fun ρ => (lift (isMd ρ j)).bind fun _ => (fk ρ).bind fun r => (lift (rs r.1 r.2)).bind fun a => (lift (keyOf1 a)).bind fun k => (lift (isMd r.2 j)).bind fun kvs => (lift (dFind kvs k)).bind fun _ => .ret (.nx (r.2.set j (.md true (dDrop kvs k))))
def fDlist (j : Nat) : Sem := fun ρ => (lift (isMd ρ j)).bind fun kvs => .ret (.val (.lst (kvs.map (·.1))), ρ)
section
variable {X : Cx} {ct : CT} {β : BInv} {Ex : XK} {a b e tg value : Expr} {f k fk fv : Sem} {pos pos' p p2 apos tpos : Pos} {x : Str} {id : String}
end
section
variable {X : Cx} {ct : CT} {β : BInv} {Ex : XK} {a b e tg value : Expr} {f k fk fv : Sem} {pos pos' p p2 apos tpos : Pos} {x : Str} {id : String}
def rLcm : List V → Hp → VK → Prop := fun vs H Q => ∃ a b : Int, vs = [.int a, .int b] ∧ (0 ≤ a ∧ a < 2 ^ 63) ∧ (0 ≤ b ∧ b < 2 ^ 63) ∧ Q (.int ((Nat.lcm a.natAbs b.natAbs : Nat) : Int)) H
theorem j_callFun2 {r : List V → Hp → VK → Prop} {o : AV → AV → Option AV} (hc : CallR X (.builtin id) r) (hop : Op2' X ct (fun x y H Q => r [x, y] H Q) o) (hg : Gl X x) (hm : X.mg x = some (.builtin id)) (ha : JE X ct β Ex a f) (hb : JE X ct β Ex b k)
    (hdb : (x == ("__debug__" : Str)) = false := by decide +kernel) (he : starEach [a, b] X.env = (false, eval a X.env) :: starEach [b] X.env := by rfl) (he2 : starEach [b] X.env = (false, eval b X.env) :: starEach [] X.env := by rfl)
    (hpl : (backTo pos (starEach [b] X.env)).any (·.1) = false := by rfl) : JE X ct β Ex (.Call (.Name x p) [a, b] [] pos) (fBin o f k) := by
  refine PE.imp (pe_callBfun hc hg hm (pa_cons ha (pa_cons hb pa_nil he2) he) hdb he hpl) fun σ H Q h => ?_
  exact fBin_ok' hop h
end
def enumL : Nat → List AV → List AV
  | _, [] => []
  | i, x :: xs => .tup [.int (i : Nat), x] :: enumL (i + 1) xs
theorem enumL_length : ∀ (i : Nat) (xs : List AV), (enumL i xs).length = xs.length
  | _, [] => rfl
  | i, _ :: xs => by rw [enumL, List.length_cons, List.length_cons, enumL_length]
theorem enumL_get : ∀ (xs : List AV) (i j : Nat) (t : AV), (enumL i xs)[j]? = some t → ∃ x, xs[j]? = some x ∧ t = .tup [.int ((i + j : Nat) : Int), x]
  | [], i, j, t, h => by simp [enumL] at h
  | x :: xs, i, 0, t, h => by
    rw [enumL, List.getElem?_cons_zero] at h
    cases h
    exact ⟨x, rfl, rfl⟩
  | x :: xs, i, j + 1, t, h => by
    rw [enumL, List.getElem?_cons_succ] at h
    obtain ⟨y, e1, e2⟩ := enumL_get xs (i + 1) j t h
    exact ⟨y, by simpa using e1, by rw [e2, show i + 1 + j = i + (j + 1) by omega]⟩
theorem wk_enum {c0 : Gc} {g : G} {H : Hp} {a : Addr} {xs : List AV} (h : RepG c0 g H (.lst xs) (.ref a)) : Wk c0 g H (Ite c0.K a) (enumL 0 xs) := by
  have at_ : ∀ (g' : G) (H' : Hp), Keeps c0 g g' H H' → ∃ vs, H' a = some (.lst vs) ∧ RepsG c0 g' H' xs vs := fun g' H' k => by
    have q := k _ _ h
    rw [RepG, Rep] at q
    obtain ⟨a', vs, e, ⟨na, ho⟩, r⟩ := q
    cases e
    exact ⟨vs, ho, r⟩
  refine ⟨fun g' H' i e hi => ?_, fun g' H' H2 i x v e lv hx hy => ?_, fun g' H' i e hi => ?_⟩
  · obtain ⟨vs, ho, r⟩ := at_ g' H' e
    rw [enumL_length] at hi
    exact ⟨vs, vs[i]'(by rw [r.length]; exact hi), .of ho, List.getElem?_eq_getElem _⟩
  · obtain ⟨T, y, rfl, hT, e1, hy⟩ := hy
    subst e1
    obtain ⟨vs, ho, r⟩ := at_ g' _ e
    obtain ⟨z, ez, rfl⟩ := enumL_get xs 0 i x hx
    obtain ⟨w, ew, rw'⟩ := r.get (hy vs (.of ho))
    rw [ez] at ew
    cases ew
    have s : Same H' (upd H' T (.tup [.int (i : Nat), y])) := same_upd hT
    refine ⟨s, rep_tup_new (fun z => lv T z hT) upd_same (.cons ?_ (.one ((Ext.same s).rep rw')))⟩
    rw [Nat.zero_add]
    exact rep_int
  · obtain ⟨vs, ho, r⟩ := at_ g' H' e
    rw [enumL_length] at hi
    exact ⟨vs, .of ho, by rw [r.length]; exact hi⟩
def iEnumL (f : Sem) : SemI := fun ρ => (f ρ).bind fun p => (frz p).bind fun q => (lift (lstOf q.1)).bind fun xs => .ret (enumL 0 xs, q.2)
section
variable {X : Cx} {ct : CT} {β : BInv} {Ex : XK} {e : Expr} {f : Sem} {p pos tpos : Pos} {elts : List Expr} {kk : Nat}
end
end Dn
namespace Dn
open PySem PySem.Spec PyProof.Rows L2
section
variable {X : Cx} {ct : CT} {β : BInv} {Ex : XK} {e : Expr} {es : List Expr} {m : SemL} {pos p : Pos} {x : Str} {lv n c : Nat} {ps : List Str} {fn : List AV → T AV}
theorem j_callD0 (D : Df X.prog X.w X.K X.mg X.base ct β lv x n ps fn) (hr : Room lv X.A) (hx : Passes (L2.CX X.prog X.w) X Ex) (hg : Gl X x := by rfl) (hdb : (x == ("__debug__" : Str)) = false := by decide +kernel) : JE X ct β Ex (.Call (.Name x p) [] [] pos) (fCall fn [] lNil) := by
  obtain ⟨fa, fd, F, h1, h2, h3⟩ := D.ex
  exact j_call0 F D.len hr h1 h2 h3 .nil deft0 hx hg hdb
end
def g0 : G := ⟨fun _ => False, fun _ => none, fun _ => False, fun _ => False, none⟩
def spLaw (K : PySem.W.Frag) : Sp := fun vs H Q _ => ∃ (a : Addr) (ns : List Int), vs = [.ref a] ∧ SqL K H a (ns.map V.int) ∧ ns.length ≤ 63 ∧ ∀ H', Q (.bl true) H'
theorem law_end {P : Program} {w : World} {K : PySem.W.Frag} {mg : Str → Option Value} {base : Heap} {ct : CT} {β : BInv} {lv : Nat} {fa : Addr} {fd : FuncData} {x : Str} {fn : List AV → T AV} (F : FnOk P w K mg base (L2.CX P w) lv fa fd [x] (spM ⟨K, mg, ct⟩ β 1 fn))
    (hb : ∀ H, β.I (fun _ => False) (fun _ => False) H) (h : ∀ ns : List Int, ns.length ≤ 63 → (fn [.scr ns]).all (fun t => t = .bl true) NoX) : FnOk P w K mg base (L2.CX P w) lv fa fd [x] (spLaw K) := by
  refine F.imp fun vs H Q E hs => ?_
  obtain ⟨a, ns, rfl, hS, hl, q⟩ := hs
  refine ⟨g0, [.scr ns], fun _ => rfl, fun _ z => z.elim, fun _ z => z.elim, hb H, .one ?_, rfl, ?_⟩
  · rw [Rep]
    refine ⟨a, rfl, ?_⟩
    rcases hS with z | z
    · exact .inl ⟨fun z => z.elim (fun z => z) fun z => z.elim (fun ⟨_, z⟩ => by cases z) fun z => z, z⟩
    · exact .inr fun H' => .inr z
  · refine T.all_mono (h ns hl) (fun t et g' H' _ v _ rv => ?_) fun _ _ z => z.elim
    subst et
    rw [RepG, Rep] at rv
    subst rv
    exact q H'
end Dn
namespace Dn
open PySem PySem.Spec PyProof.Rows L2
def isTrue : T AV → Bool
  | .ret (.bl b) => b
  | _ => false
end Dn
namespace Dn
open PySem PySem.Spec PyProof.Rows L2
theorem cx_none {P : Program} (w : World) (H : Hp) (s : Shared) (e : Value) (s' : Shared) (h : L2.CX P w [] H s (fun _ _ _ => False) e s') : False := by
  obtain ⟨_, _, _, _, _, _, _, _, _, _, _, _, z⟩ := h
  exact z
end Dn
set_option Elab.async false
set_option linter.all false
set_option maxRecDepth 100000
namespace Dn
open PySem PySem.Spec PyProof.Rows L2
def BoxI (ok : List V → Prop) : BInv where
  I := fun B D H => (∀ a, B a → ∃ vs, H a = some (.lst vs) ∧ ok vs) ∧ ∀ a, D a → B a
  live := fun h b => by
    obtain ⟨vs, e, _⟩ := h.1 _ b
    rw [e]
    exact fun z => by cases z
  nt := fun h b ws z => by
    obtain ⟨vs, e, _⟩ := h.1 _ b
    rw [e] at z
    cases z
  top := fun h d => h.2 _ d
  frame := fun h k => ⟨fun a b => by
    obtain ⟨vs, e, q⟩ := h.1 a b
    exact ⟨vs, by rw [k a b]; exact e, q⟩, h.2⟩
def sRetBox (test : List AV → Bool) (f : SemN) : SSem := fun ρ => (f ρ).bind fun p => if test p.1 then .ret (.rt .box) else .bad
section
variable {X : Cx} {ct : CT} {ok : List V → Prop} {Ex : XK} {a : Expr} {f : SemN} {pos : Pos} {test : List AV → Bool}
end
def spDraw (ok : List V → Prop) : Sp := fun vs H Q _ => ∃ (D : Addr) (b : Int) (l : List V), vs = [.ref D, .int b] ∧ H D = some (.lst l) ∧ ok l ∧ 1 ≤ b ∧ b < 2 ^ 64 ∧ ∀ (digit : Int) (l' : List V), 0 ≤ digit → digit < b → ok l' → Q (.int digit) (upd H D (.lst l'))
def fDraw : List AV → T AV
  | [.box, .int b] => if 1 ≤ b ∧ below b 64 = true then .draw b.toNat fun r => .ret (.int r) else .bad
  | _ => .bad
theorem fDraw_len (ts : List AV) (h : T.all (fun _ => True) (fun _ _ => True) (fDraw ts)) : ts.length = 2 := by
  unfold fDraw at h
  split at h
  · rfl
  · exact h.elim
def okB (vs : List V) : Prop := ∃ c s : Int, vs = [.int c, .int s] ∧ 0 ≤ c ∧ 0 ≤ s ∧ s ≤ 2147483647
def testB : List AV → Bool
  | [.int c, .int s] => decide (0 ≤ c ∧ 0 ≤ s ∧ s ≤ 2147483647)
  | _ => false
end Dn
namespace Dn
open PySem PySem.Spec PyProof.Rows L2
def pRepr (a : AV) : Option AV := match a with
  | .int i => if i.natAbs.log2 < 1920 then some (.str (toString i)) else none
  | _ => none
end Dn
set_option Elab.async false
set_option linter.all false
set_option maxRecDepth 100000
namespace PySem
namespace TrE
open Sem (wp)
open AutoSeq1 (wpAny_loadPart')
theorem enum_tup_new (tp : Addr) (us : Array Value) (m : Nat) (dx : Option Addr) (ss : Array (Option Value)) :
    Meets (Builtin.«enumerate.__new__» ⟨[.type "enumerate", .ref tp], []⟩) (fun _ R st => st.heap.get? tp = some { cls := .type "tuple", dict := dx, data := .seq us m, slots := ss } ∧
      R (.ok (.ret (.ref (st.heap.push { cls := .type "tuple_iterator", data := .fields #[.ref tp, .int 0 0] }).objs.size)))
        { st with heap := (st.heap.push { cls := .type "tuple_iterator", data := .fields #[.ref tp, .int 0 0] }).push { cls := .type "enumerate", data := .fields #[.none, .bool false, .ref st.heap.objs.size, rawInt 0, .none, .none] } }) :=
  .of_wp fun pg wd Ar R st hh => by
    obtain ⟨hp, gg, dd, tt, oo⟩ := st
    obtain ⟨hl, hr⟩ := hh
    have hsub := sub_enumerate
    have hT : Heap.IsTuple (Shared.heap ⟨hp, gg, dd, tt, oo⟩) tp us := ⟨_, hl, rfl, m, rfl⟩
    wp_walk using wpAny_loadPart' hl
    refine wpAny_stack_any fun _ => wpAny_pure ?_
    split
    · rename_i kk _ _ _ _ _
      cases (kk == Value.type "enumerate") <;> (wp_walk using wpAny_loadPart' hl, wpAny_pyIter_tuple hT; exact ⟨_, rfl, hr⟩)
    · wp_walk using wpAny_loadPart' hl, wpAny_pyIter_tuple hT; exact ⟨_, rfl, hr⟩
theorem call_enum_tup {pg : Program} {wd : World} {Ar : Around} {Er : Value → Shared → Prop} {st : Shared} {tp : Addr} {us : Array Value} {Q : Value → Shared → Prop} (hT : st.heap.IsTuple tp us)
    (hq : ∀ h2, IsEnum h2 (st.heap.objs.size + 1) st.heap.objs.size 0 .none → h2.IsTupleIter st.heap.objs.size tp 0 → (∀ b o, st.heap.get? b = some o → h2.get? b = some o) → Q (.ref (st.heap.objs.size + 1)) { st with heap := h2 }) :
    wpAny (model pg wd) Ar (call (.type "enumerate") [.ref tp]) Q Er st := by
  obtain ⟨⟨cc, dx, dt, ss⟩, hl, hc, m, hd⟩ := hT
  have hc2 : cc = .type "tuple" := hc
  have hd2 : dt = .seq us m := hd
  subst hc2 hd2
  refine callType_new F.called_enumerate (by decide) (F.typeCall_enumerate_1 _) (F.newCall_enumerate_1 _) (fun _ => F.args_object_init_2 _ _) F.entry_enumerate_new (enum_tup_new tp us m dx ss) ⟨hl, ?_⟩
  generalize hn : ({ cls := .type "tuple_iterator", data := .fields #[.ref tp, .int 0 0] } : Obj) = n1
  have z1 : (st.heap.push n1).objs.size = st.heap.objs.size + 1 := Heap.size_push ..
  show _ ∧ _
  rw [z1]
  generalize hm2 : ({ cls := .type "enumerate", data := .fields #[.none, .bool false, .ref st.heap.objs.size, rawInt 0, .none, .none] } : Obj) = n2
  have e2 : ((st.heap.push n1).push n2).get? (st.heap.objs.size + 1) = some n2 := by
    have q := Heap.get?_push_size (st.heap.push n1) (o := n2) (by rw [← hm2]; rfl)
    rwa [z1] at q
  have e1 : ((st.heap.push n1).push n2).get? st.heap.objs.size = some n1 := Heap.get?_push_of_some _ (Heap.get?_push_size _ (by rw [← hn]; rfl))
  refine ⟨⟨_, e2, by rw [← hm2]⟩, hq _ (by rw [← hm2] at e2 ⊢; exact e2) ⟨n1, e1, by rw [← hn], by rw [← hn]; rfl⟩ fun b o x => Heap.get?_push_of_some _ (Heap.get?_push_of_some _ x)⟩
end TrE
end PySem
namespace Dn
open PySem PySem.Spec PyProof.Rows L2
def IteT (K : PySem.W.Frag) (a : Addr) (n : Nat) : It :=
  ⟨fun i H => ∃ (xs : List V) (x : V), SqT K H a xs ∧ xs.length = n ∧ xs[i]? = some x, fun i H v H' => ∃ p x, v = .ref p ∧ H p = none ∧ H' = upd H p (.tup [.int (i : Nat), x]) ∧ ∀ xs, SqT K H a xs → xs[i]? = some x, fun i H => (∃ xs : List V, SqT K H a xs ∧ xs.length = n) ∧ n ≤ i⟩
theorem turn_enumT {P : Program} {w : World} {K : PySem.W.Frag} {elts : List Expr} {kk : Nat} {tpos : Pos} (a e it : Addr) (n : Nat) :
    Turn P w K (.Tuple elts kk tpos) (IteT K a n) [e, it] e (fun i h => i ≤ n ∧ (∃ old, IsEnum h e it ((i : Nat) : Int) old) ∧ h.IsTupleIter it a i ∧ e ≠ it) where
  mem := by simp
  obj := fun i h st b hb => by
    obtain ⟨_, ⟨old, he⟩, ⟨o, ho, hc, hd⟩, _⟩ := st
    rcases (show b = e ∨ b = it by simpa using hb) with z | z
    · subst z; exact ⟨_, he, fun v q => nomatch q⟩
    · subst z; exact ⟨o, ho, fun v q => by rw [hd] at q; cases q⟩
  keep := fun i h h' st k => ⟨st.1, ⟨st.2.1.choose, k e (by simp) _ st.2.1.choose_spec⟩, st.2.2.1.at fun o q => k it (by simp) o q, st.2.2.2⟩
  item := by
    intro X hP hw hK hc i pins s σ H E I hf st hg
    subst hP hw hK
    obtain ⟨hin, ⟨old, he⟩, hit, hne⟩ := st
    obtain ⟨xs, x, hq, hxl, hx⟩ := hg
    obtain ⟨us, rv, p, hz⟩ := I.tuple hq
    obtain ⟨u, hu, ru⟩ := rv.get hx
    have hel : e < s.heap.objs.size := Heap.lt_size he
    have hil : it < s.heap.objs.size := by
      obtain ⟨_, q, _⟩ := hit
      exact Heap.lt_size q
    have hae : a ≠ e := fun z => by
      obtain ⟨o, q, hcl, _⟩ := p
      rw [z] at q
      have q2 := he
      unfold IsEnum at q2
      rw [q] at q2
      have q3 := Option.some.inj q2
      rw [q3] at hcl
      exact absurd (Value.type.inj hcl) (by decide)
    have hai : a ≠ it := fun z => by
      obtain ⟨o, q, hcl, _⟩ := p
      obtain ⟨o', q', hcl', _⟩ := hit
      rw [z, q'] at q
      cases q
      rw [hcl'] at hcl
      exact absurd (Value.type.inj hcl) (by decide)
    have hlt : i < us.toArray.size := by
      rw [List.size_toArray]
      exact (List.getElem?_eq_some_iff.mp hu).1
    refine wpAny_pyNext_enum_itemD (Draws.tuple (A := X.A.in1) (I.ok.hd hc) it a hai us.toArray) he ⟨hit, p⟩ hlt hne (by simp [hne, Ne.symm hae]) fun y h' tk hy ho hst hT hsz hk => ?_
    have ey : y = u := by
      have q1 : us[i]? = some y := by simpa using hy
      rw [hu] at q1
      exact (Option.some.inj q1).symm
    subst ey
    refine ⟨_, rfl, wpAny_letOwnedTupleGo_enum (s := { s with heap := h', toks := tk + 1 }) ho fun h2 he' sb => ?_⟩
    have hT2 : h2.get? s.heap.objs.size = some { cls := .type "tuple", data := .seq #[.int i tk, y] } := (sb.2 _ (Nat.ne_of_gt hel)).trans hT
    have I1 : Inv X pins σ (upd H s.heap.objs.size (.tup [.int (i : Nat), x])) { s with heap := h2, toks := tk + 1 } :=
      I.turnedNew (ch := [e, it]) (fun b ob hb q => (sb.2 b (fun z => hb (by simp [z]))).trans (hk b ob (fun z => hb (by simp [z])) (fun z => hb (by simp [z])) q)) hf (Nat.le_refl _)
        ⟨by show 2 ≤ sizeLine; decide, [.int i tk, y], .cons ⟨_, rfl⟩ (.cons ru .nil), ⟨_, hT2, rfl, _, rfl⟩⟩
    refine ⟨.ref s.heap.objs.size, _, I1, rfl, ⟨_, x, rfl, I.hok.fresh (Nat.le_refl _), rfl, fun ys hy => by rw [I.tuple_inj hy hq]; exact hx⟩, ⟨(by rw [← hxl]; exact (List.getElem?_eq_some_iff.mp hx).1), ⟨y, ?_⟩, hst.1.at fun o q => (sb.2 it (Ne.symm hne)).trans q, hne⟩, fun b hb => ?_⟩
    · rw [show ((i + 1 : Nat) : Int) = (i : Int) + 1 by omega]
      exact he'
    · have hb' : b < s.heap.objs.size := by
        rcases (show b = e ∨ b = it by simpa using hb) with z | z
        · rw [z]; exact hel
        · rw [z]; exact hil
      rw [upd_ne (Nat.ne_of_lt hb')]
      exact (hf b hb).1
  done := by
    intro X hP hw hK hc i pins s σ H E I hf st hg
    subst hP hw hK
    obtain ⟨hin, ⟨old, he⟩, hit, hne⟩ := st
    obtain ⟨⟨xs, hq, hxl⟩, hni⟩ := hg
    have ei : i = n := by omega
    subst ei
    obtain ⟨us, rv, p, hz⟩ := I.tuple hq
    obtain ⟨f0, f1, f2, f3, f4, f5⟩ := hf it (by simp)
    have hai : a ≠ it := fun z => by
      obtain ⟨o, q, hcl, _⟩ := p
      obtain ⟨o', q', hcl', _⟩ := hit
      rw [z, q'] at q
      cases q
      rw [hcl'] at hcl
      exact absurd (Value.type.inj hcl) (by decide)
    have ez : us.toArray.size = i := by rw [List.size_toArray, ← rv.length, hxl]
    refine wpAny_pyNext_enum_endD (Draws.tuple (A := X.A.in1) (I.ok.hd hc) it a hai us.toArray) he (by rw [ez]; exact ⟨hit, p⟩) fun h' eb => ?_
    exact ⟨rfl, I.turned (t' := s.toks) (fun b o hb q => eb b o hb q) f0 f1 f3 f4 f5⟩
  self := fun A i s Q E st h => let ⟨_, ⟨_, he⟩, _⟩ := st; wpAny_pyIter_enum he h
def iEnA (K : PySem.W.Frag) (ta : TA) : TI := fun σ H R => ta σ H fun vs H1 => ∃ a xs, vs = [.ref a] ∧ ((SqL K H1 a xs ∧ R (Ite K a) H1) ∨ (SqT K H1 a xs ∧ R (IteT K a xs.length) H1))
theorem pi_enumA {X : Cx} {e : Expr} {ta : TA} {p pos tpos : Pos} {elts : List Expr} {kk : Nat} (hg : Gl X "enumerate") (hm : X.mg "enumerate" = none) (ha : PA X [e] ta) (hs : starEach [e] X.env = [(false, eval e X.env)] := by rfl) :
    PI X (.Tuple elts kk tpos) (.Call (.Name "enumerate" p) [e] [] pos) (iEnA X.K ta) := by
  constructor
  intro pins s σ H R I h
  refine Call_ (ld_blt I hg hm boot_enumerate (PyProof.Rows.callWith_type1 (thn (ha.run pos pins s σ H _ I h) fun us s1 ⟨vs, H1, I1, r1, q1⟩ => ?_) hs rfl))
  obtain ⟨a, xs, ex, q⟩ := q1
  subst ex
  obtain ⟨u, rfl, ru⟩ := vals1 r1
  cases (show u = Value.ref a from ru)
  have two : ∀ b : Addr, b ∈ [s1.heap.objs.size + 1, s1.heap.objs.size] → FpOk X pins H1 b := fun b hb => by
    have hle : s1.heap.objs.size ≤ b := by
      rcases (show b = s1.heap.objs.size + 1 ∨ b = s1.heap.objs.size by simpa using hb) with z | z
      · rw [z]; exact Nat.le_add_right _ _
      · rw [z]; exact Nat.le_refl _
    exact I1.fpOk hle (I1.hok.fresh hle)
  rcases q with ⟨hq, q⟩ | ⟨hq, q⟩
  · obtain ⟨its, rv, pl, _⟩ := I1.list hq
    refine call_enumerate_list pl.isList fun h' he hit hsz hk => wpAny_pyIter_enum he ?_
    exact ⟨s1.heap.objs.size + 1, [s1.heap.objs.size + 1, s1.heap.objs.size], _, _, H1, rfl, I1.kept (t' := s1.toks) hk, turn_enum a _ _, ⟨⟨.none, he⟩, hit, Nat.succ_ne_self _⟩, two, q⟩
  · obtain ⟨its, rv, pt, _⟩ := I1.tuple hq
    refine PySem.TrE.call_enum_tup (show s1.heap.IsTuple a its.toArray from pt) fun h' he hit hk => wpAny_pyIter_enum he ?_
    exact ⟨s1.heap.objs.size + 1, [s1.heap.objs.size + 1, s1.heap.objs.size], _, _, H1, rfl, I1.kept (t' := s1.toks) hk, turn_enumT a _ _ xs.length, ⟨Nat.zero_le _, ⟨.none, he⟩, hit, Nat.succ_ne_self _⟩, two, q⟩
theorem wk_enumT {c0 : Gc} {g : G} {H : Hp} {a : Addr} {xs : List AV} (h : RepG c0 g H (.tup xs) (.ref a)) : Wk c0 g H (IteT c0.K a xs.length) (enumL 0 xs) := by
  have at_ : ∀ (g' : G) (H' : Hp), Keeps c0 g g' H H' → ∃ vs, SqT c0.K H' a vs ∧ RepsG c0 g' H' xs vs := fun g' H' k => by
    have q := k _ _ h
    rw [RepG, Rep] at q
    obtain ⟨a', vs, e, ho, r⟩ := q
    cases e
    exact ⟨vs, ho.sq, r⟩
  refine ⟨fun g' H' i e hi => ?_, fun g' H' H2 i x v e lv hx hy => ?_, fun g' H' i e hi => ?_⟩
  · obtain ⟨vs, ho, r⟩ := at_ g' H' e
    rw [enumL_length] at hi
    exact ⟨vs, vs[i]'(by rw [r.length]; exact hi), ho, r.length, List.getElem?_eq_getElem _⟩
  · obtain ⟨T, y, rfl, hT, e1, hy⟩ := hy
    subst e1
    obtain ⟨vs, ho, r⟩ := at_ g' _ e
    obtain ⟨z, ez, rfl⟩ := enumL_get xs 0 i x hx
    obtain ⟨w, ew, rw'⟩ := r.get (hy vs ho)
    rw [ez] at ew
    cases ew
    have s : Same H' (upd H' T (.tup [.int (i : Nat), y])) := same_upd hT
    refine ⟨s, rep_tup_new (fun z => lv T z hT) upd_same (.cons ?_ (.one ((Ext.same s).rep rw')))⟩
    rw [Nat.zero_add]
    exact rep_int
  · obtain ⟨vs, ho, r⟩ := at_ g' H' e
    rw [enumL_length] at hi
    exact ⟨⟨vs, ho, r.length⟩, hi⟩
def iEnum (f : Sem) : SemI := fun ρ => (f ρ).bind fun p => (frz p).bind fun q => (lift (seqOf q.1)).bind fun xs => .ret (enumL 0 xs, q.2)
theorem ji_enumA {X : Cx} {ct : CT} {β : BInv} {Ex : XK} {e : Expr} {f : Sem} {p pos tpos : Pos} {elts : List Expr} {kk : Nat} (hg : Gl X "enumerate") (hm : X.mg "enumerate" = none) (ha : JE X ct β Ex e f) (hs : starEach [e] X.env = [(false, eval e X.env)] := by rfl) (he : starEach [e] X.env = (false, eval e X.env) :: starEach [] X.env := by rfl) :
    JI X ct β Ex (.Tuple elts kk tpos) (.Call (.Name "enumerate" p) [e] [] pos) (iEnum f) := by
  refine PI.imp (pi_enumA hg hm (pa_cons ha pa_nil he) hs) fun σ H R h => ?_
  obtain ⟨g, ρ, Rl, h⟩ := h
  refine ⟨g, ρ, Rl, okT_mono (okT_bind h) fun g1 H1 p e1 h1 x R1 rx => ?_⟩
  obtain ⟨g2, s, e2, R2, rs, h2⟩ := frz_ok R1 rx h1
  obtain ⟨xs, ex, h3⟩ := okT_lift h2
  obtain ⟨t, ρ2⟩ := s
  cases t with
  | lst ys =>
    cases ex
    have rs0 := rs
    rw [RepG, Rep] at rs
    obtain ⟨q, vs, rfl, hq, _⟩ := rs
    exact ⟨q, vs, rfl, .inl ⟨hq.sq, okT_ret h3 _ R2 (wk_enum rs0)⟩⟩
  | tup ys =>
    cases ex
    have rs0 := rs
    rw [RepG, Rep] at rs
    obtain ⟨q, vs, rfl, hq, r⟩ := rs
    refine ⟨q, vs, rfl, .inr ⟨hq.sq, okT_ret h3 _ R2 ?_⟩⟩
    rw [r.length]
    exact wk_enumT rs0
  | _ => cases ex
end Dn
set_option Elab.async false
set_option linter.all false
set_option maxRecDepth 100000
namespace Dn
open PySem PySem.Spec PyProof.Rows L2
section
variable {Q : Out → Prop} {E : Nat → List AV → Prop} {ρ : Env'} {f k : SSem} {fe : Sem} {fn : SemN} {fb : SemB} {i : Nat}
def Nx (R : Env' → Prop) (Q : Out → Prop) : Out → Prop
  | .nx ρ => R ρ
  | o => Q o
theorem fnOf_all {np n : Nat} {body : SSem} {ts : List AV} {R : AV → Prop} (hl : ts.length = np) (h : (body (ts.map Slot.fro ++ List.replicate (n - np) .un)).all (fun o => match o with | .rt t => R t | .nx _ => R .non | _ => False) E) : (fnOf np n body ts).all R E := by
  unfold fnOf
  rw [if_pos hl]
  refine T.all_bind.mpr (T.all_mono h (fun o q => ?_) fun _ _ z => z)
  cases o <;> exact q
def NxI (I : Env' → Prop) : Out → Prop
  | .nx ρ => I ρ
  | _ => False
end
end Dn
set_option Elab.async false
set_option linter.all false
set_option maxRecDepth 100000
namespace Dn
open PySem PySem.Spec PyProof.Rows L2
@[irreducible] def T.Al {α : Type} (m : T α) (Q : α → Prop) (E : Nat → List AV → Prop) : Prop := m.all Q E
theorem al_iff {α : Type} {m : T α} {Q : α → Prop} {E : Nat → List AV → Prop} : m.Al Q E ↔ m.all Q E := by
  unfold T.Al
  exact Iff.rfl
section
variable {α γ : Type} {Q : Out → Prop} {E : Nat → List AV → Prop} {ρ : Env'} {f k : SSem} {fe : Sem} {fn : SemN} {fb : SemB} {i : Nat}
theorem al_mono {m : T α} {P P' : α → Prop} (h : m.Al P E) (hp : ∀ a, P a → P' a) : m.Al P' E := al_iff.mpr (T.all_mono (al_iff.mp h) hp fun _ _ z => z)
theorem al_bind {m : T α} {g : α → T γ} {P : α → Prop} {R : γ → Prop} (h : m.Al P E) (h2 : ∀ a, P a → (g a).Al R E) : (m.bind g).Al R E := al_iff.mpr (T.all_bind.mpr (T.all_mono (al_iff.mp h) (fun a z => al_iff.mp (h2 a z)) fun _ _ z => z))
theorem aFn {np n : Nat} {body : SSem} {ts : List AV} {R : AV → Prop} (hl : ts.length = np) (h : (body (ts.map Slot.fro ++ List.replicate (n - np) .un)).Al (fun o => match o with | .rt t => R t | .nx _ => R .non | _ => False) E) : (fnOf np n body ts).Al R E := al_iff.mpr (fnOf_all hl (al_iff.mp h))
end
end Dn
namespace Dn
open PySem PySem.Spec PyProof.Rows L2
def pIs (a b : AV) : Option AV := match b with
  | .non => pIsN a .non
  | .bl k => match a with
    | .bl j => some (.bl (decide (j = k)))
    | _ => none
  | _ => none
def pNotIs (a b : AV) : Option AV := match b with
  | .non => pNotN a .non
  | .bl k => match a with
    | .bl j => some (.bl (!decide (j = k)))
    | _ => none
  | _ => none
section
variable {X : Cx} {ct : CT}
theorem op_isA : OpR X (compareOp .Is) (fun x y H Q => (y = .non ∧ Q (.bl (decide (x = .non))) H) ∨ (∃ a b, x = .bl a ∧ y = .bl b ∧ Q (.bl (decide (a = b))) H)) := op_isN.or op_is_bl
theorem op_isnotA : OpR X (compareOp .IsNot) (fun x y H Q => (y = .non ∧ Q (.bl (!decide (x = .non))) H) ∨ (∃ a b, x = .bl a ∧ y = .bl b ∧ Q (.bl (!decide (a = b))) H)) := op_notN.or op_isnot_bl
theorem o_isA : Op2p X ct (fun x y H Q => (y = .non ∧ Q (.bl (decide (x = .non))) H) ∨ (∃ a b, x = .bl a ∧ y = .bl b ∧ Q (.bl (decide (a = b))) H)) pIs := by
  intro g H a b z x y Q ra rb e q
  cases b with
  | non => exact .inl (o_isN g H a .non z x y Q ra rb e q)
  | bl k =>
    cases a with
    | bl j =>
      cases e
      exact .inr ⟨j, k, ra.bl, rb.bl, q _ rep_bl⟩
    | _ => cases e
  | _ => cases e
theorem o_isnotA : Op2p X ct (fun x y H Q => (y = .non ∧ Q (.bl (!decide (x = .non))) H) ∨ (∃ a b, x = .bl a ∧ y = .bl b ∧ Q (.bl (!decide (a = b))) H)) pNotIs := by
  intro g H a b z x y Q ra rb e q
  cases b with
  | non => exact .inl (o_notN g H a .non z x y Q ra rb e q)
  | bl k =>
    cases a with
    | bl j =>
      cases e
      exact .inr ⟨j, k, ra.bl, rb.bl, q _ rep_bl⟩
    | _ => cases e
  | _ => cases e
def rRepS : List V → Hp → VK → Prop := fun xs H Q => (∃ i, xs = [.int i] ∧ i.natAbs.log2 < 1920 ∧ Q (.str (toString i)) H) ∨ (∃ b, xs = [.bl b] ∧ Q (.str (if b then "True" else "False")) H) ∨ (xs = [.non] ∧ Q (.str "None") H)
def pReprS (a : AV) : Option AV := match a with
  | .int i => if i.natAbs.log2 < 1920 then some (.str (toString i)) else none
  | .bl b => some (.str (if b then "True" else "False"))
  | .non => some (.str "None")
  | _ => none
end
end Dn
set_option Elab.async false
set_option linter.all false
set_option maxRecDepth 100000
namespace Dn
open PySem PySem.Spec PyProof.Rows L2
structure FnG (P : Program) (w : World) (K : PySem.W.Frag) (mg : Str → Option Value) (base : Heap) (cx : CXT) (lv : Nat) (fa : Addr) (fd : FuncData) (ps : List Str) (sp : Sp) : Prop where
  len : ∀ vs H Q E, sp vs H Q E → vs.length = ps.length
  go : ∀ (A : Around), A.guards = some [] → Room lv A → ∀ (out : List Env) (s : Shared) (H : Hp) (ar : Args) (us : List Value) (vs : List V) (Q : VK) (E : XK), Env0 P w K mg base A out s H → BindsTo s fd ar (ps.zip us) → Vals vs us → sp vs H Q E → codeAny (model P w) A (.call (.ref fa) ar) (CR cx out P w H s Q E) s
section
variable {P : Program} {w : World} {K : PySem.W.Frag} {mg : Str → Option Value} {base : Heap} {cx : CXT} {lv : Nat} {fa : Addr} {fd : FuncData} {ps : List Str} {sp sp' : Sp}
theorem FnG.of (F : FnOk P w K mg base cx lv fa fd ps sp) : FnG P w K mg base cx lv fa fd ps sp := ⟨F.len, fun A _ r out s H ar us vs Q E e b v q => F.run A out s H ar us vs Q E r e b v q⟩
theorem FnG.imp (F : FnG P w K mg base cx lv fa fd ps sp) (h : ∀ vs H Q E, sp' vs H Q E → sp vs H Q E) : FnG P w K mg base cx lv fa fd ps sp' := ⟨fun vs H Q E q => F.len vs H Q E (h _ _ _ _ q), fun A g r out s H ar us vs Q E e b v q => F.go A g r out s H ar us vs Q E e b v (h _ _ _ _ q)⟩
end
section
variable {X : Cx} {cx : CXT} {lv : Nat} {fa : Addr} {fd : FuncData} {ps : List Str} {sp : Sp} {dvs : List V} {ds : List Value} {E : XK} {x : Str} {p pos : Pos} {e : Expr} {es : List Expr} {t : TA}
end
end Dn
set_option Elab.async false
set_option linter.all false
set_option maxRecDepth 100000
namespace Dn
open PySem PySem.Spec PyProof.Rows L2
section
variable {P : Program} {w : World} {K : PySem.W.Frag} {mg mb : Str → Option Value} {cx : CXT} {lv : Nat} {fa a : Addr} {fd : FuncData} {x : Str} {sp : Sp} {s1 : Shared} {us : List Value} {ns : List Int}
end
end Dn
set_option Elab.async false
set_option linter.all false
set_option maxRecDepth 100000
namespace Dn
open PySem PySem.Spec PyProof.Rows L2
structure DfG (P : Program) (w : World) (K : PySem.W.Frag) (mg : Str → Option Value) (base : Heap) (ct : CT) (β : BInv) (lv : Nat) (x : Str) (n : Nat) (ps : List Str) (fn : List AV → T AV) : Prop where
  ex : ∃ fa fd, FnG P w K mg base (L2.CX P w) lv fa fd ps (spM ⟨K, mg, ct⟩ β n fn) ∧ mg x = some (.ref fa) ∧ PySem.W.keepIn K (.ref fa) = true ∧ Binds K fd ps []
  len : ∀ ts : List AV, T.all (fun _ => True) (fun _ _ => True) (fn ts) → ts.length = n
section
variable {P : Program} {w : World} {K : PySem.W.Frag} {mg : Str → Option Value} {base : Heap} {ct : CT} {β : BInv}
theorem Df.g {lv n : Nat} {x : Str} {ps : List Str} {fn : List AV → T AV} (D : Df P w K mg base ct β lv x n ps fn) : DfG P w K mg base ct β lv x n ps fn := by
  obtain ⟨fa, fd, F, h1, h2, h3⟩ := D.ex
  exact ⟨⟨fa, fd, FnG.of F, h1, h2, h3⟩, D.len⟩
end
section
variable {X : Cx} {ct : CT} {β : BInv} {Ex : XK} {e : Expr} {es : List Expr} {m : SemL} {pos p : Pos} {x : Str} {lv n c : Nat} {ps : List Str} {fn : List AV → T AV}
end
def rReprD (K : PySem.W.Frag) : List V → Hp → VK → Prop := fun xs H Q => ∃ x d, xs = [x] ∧ Dp K H x d ∧ d.canLay0 = true ∧ d.depth ≤ 12 ∧ d.showable = true ∧ d.shown.length ≤ sizeLine ∧ Q (.str d.shown) H
def pReprD (a : AV) : Option AV := if dat DEP a && (toD DEP a).showable && decide ((toD DEP a).shown.length ≤ big) then some (.str (toD DEP a).shown) else none
end Dn
set_option Elab.async false
set_option linter.all false
set_option maxRecDepth 100000
namespace Dn
open PySem PySem.Spec PyProof.Rows L2
def sDrop (j : Nat) (s : SSem) : SSem := fun ρ => (s ρ).bind fun o => match o with
  | .nx ρ' => .ret (.nx (ρ'.set j .un))
  | o => .ret o
def boxV (c s t : Int) : List V := [.int c, .int s, .int t]
structure BoxIs (c s t : Int) : Prop where
  c0 : 0 ≤ c
  s1 : 1 ≤ s
  s2 : s ≤ 2147483629
def okA (vs : List V) : Prop := ∃ c s t : Int, vs = boxV c s t ∧ BoxIs c s t
def spBoxS (K : PySem.W.Frag) (ok : List V → Prop) : Sp := fun vs H Q _ => ∃ (a : Addr) (k o : Int) (ns : List Int), vs = [.ref a, .int k, .int o] ∧ SqL K H a (ns.map V.int) ∧ 0 ≤ k ∧ 0 ≤ o ∧ ∀ (D : Addr) (H' : Hp), H D = none → Same H H' → (∃ l, H' D = some (.lst l) ∧ ok l) → Q (.ref D) H'
def fBox : List AV → T AV
  | [.scr _, .int k, .int o] => if 0 ≤ k ∧ 0 ≤ o then .ret .box else .bad
  | _ => .bad
structure Mf (P : Program) (w : World) (K : PySem.W.Frag) (mg : Str → Option Value) (base : Heap) (ct : CT) (β : BInv) (lv : Nat) (c : Nat) (x : Str) (n : Nat) (ps : List Str) (fn : List AV → T AV) : Prop where
  ex : ∃ C fa fd, FnOk P w K mg base (L2.CX P w) lv fa fd ps (spM ⟨K, mg, ct⟩ β n fn) ∧ Binds K fd ps [] ∧ Cls K C ∧ Meth K C x fa ∧ mg (ct c).1 = some (.ref C)
  no : x ∉ (ct c).2
  len : ∀ ts : List AV, T.all (fun _ => True) (fun _ _ => True) (fn ts) → ts.length = n
section
variable {X : Cx} {ct : CT} {β : BInv} {Ex : XK} {a e : Expr} {es : List Expr} {f : Sem} {m : SemL} {pos p apos : Pos} {mt : Str} {lv n c : Nat} {ps : List Str} {fn : List AV → T AV}
theorem methOk_of {C fa : Addr} (cl : Cls X.K C) (me : Meth X.K C mt fa) (hC : X.mg (ct c).1 = some (.ref C)) (no : mt ∉ (ct c).2) : MethOk X ct c mt fa :=
  ⟨fun C' e => by
    have e2 : some (Value.ref C) = some (Value.ref C') := hC.symm.trans e
    cases e2
    exact ⟨cl, me⟩, no⟩
theorem j_methD {pl : PySem.Sem Bool} (D : Mf X.prog X.w X.K X.mg X.base ct β lv c mt n ps fn) (hr : Room lv X.A) (hx : Passes (L2.CX X.prog X.w) X Ex) (ha0 : JE X ct β Ex a f) (ha : JL X ct β Ex (e :: es) m)
    (hst : starEach (e :: es) X.env = (false, eval e X.env) :: starEach es X.env := by rfl) (hpl : (backTo pos (starEach es X.env)).any (·.1) = false := by rfl)
    (ht : eval (.Call (.Attribute a mt apos) (e :: es) [] pos) X.env = (do
      let ov ← eval a X.env
      standAt apos.atName
      let (f, first) ← holding [ov] (getMethod ov mt pl)
      callWith pos f first (backTo pos (starEach (e :: es) X.env)) (backToKw pos (keywordEach [] X.env))) := by rfl) : JE X ct β Ex (.Call (.Attribute a mt apos) (e :: es) [] pos) (fMeth c fn [] f m) := by
  obtain ⟨C, fa, fd, F, b, cl, me, hC⟩ := D.ex
  exact j_meth ha0 (methOk_of cl me hC D.no) hC F D.len hr b .nil deft0 hx ha hst hpl ht
theorem j_methD0 {pl : PySem.Sem Bool} (D : Mf X.prog X.w X.K X.mg X.base ct β lv c mt n ps fn) (hr : Room lv X.A) (hx : Passes (L2.CX X.prog X.w) X Ex) (ha0 : JE X ct β Ex a f)
    (ht : eval (.Call (.Attribute a mt apos) [] [] pos) X.env = (do
      let ov ← eval a X.env
      standAt apos.atName
      let (f, first) ← holding [ov] (getMethod ov mt pl)
      callWith pos f first (backTo pos (starEach [] X.env)) (backToKw pos (keywordEach [] X.env))) := by rfl) : JE X ct β Ex (.Call (.Attribute a mt apos) [] [] pos) (fMeth c fn [] f lNil) := by
  obtain ⟨C, fa, fd, F, b, cl, me, hC⟩ := D.ex
  exact j_meth0 ha0 (methOk_of cl me hC D.no) hC F D.len hr b .nil deft0 hx ht
def rLenO (C : Addr) (sp : Sp) (E : XK) : List V → Hp → VK → Prop := fun xs H Q => ∃ a dx fs, xs = [V.ref a] ∧ H a = some (.ins C dx fs) ∧ sp [.ref a] H (fun z H' => ∃ i, z = .int i ∧ (0 ≤ i ∧ i < 2 ^ 63) ∧ Q (.int i) H') E
theorem call_lenO {X : Cx} {C g : Addr} {n : Nat} {fd : FuncData} {ps : List Str} {sp : Sp} {CX : CXT} {E : XK} (hm : Meth X.K C "__len__" g) (F : FnOk X.prog X.w X.K X.mg X.base CX n g fd ps sp) (hr : Room (n + 1) X.A) (hb : Binds X.K fd ps []) (hx : Passes CX X E) : CallR X (.builtin "len") (rLenO C sp E) := by
  intro pins s σ H xs us Q I r h
  obtain ⟨a, dx, fs, rfl, ha, q⟩ := h
  obtain ⟨u, rfl, ru⟩ := vals1 r
  cases (show u = Value.ref a from ru)
  obtain ⟨mA, O, _⟩ := ins_get I.hok ha
  obtain ⟨od, J, _⟩ := O.look
  obtain ⟨m, hF⟩ := I.fr
  have hr1 : Room n X.A.in1 := Room.in1 hr
  refine PySem.W.len_K hF I.ok.mod.kin J hm.at_ hm.fn (wpAny_call (codeAny_mono (F.run X.A.in1 X.stack s H ⟨[.ref a], []⟩ [.ref a] [.ref a] _ E hr1 I.env0.in1 (hb s [.ref a] I.kIn (F.len _ _ _ _ q)) (.cons rfl .nil) q) fun r s' hq => ?_))
  cases r with
  | error e => exact hx pins σ H s e s' I hq
  | ok fl =>
    cases fl with
    | ret v =>
      obtain ⟨z, H', I', rz, i, ez, hi, qi⟩ := I.after hq
      subst ez
      obtain ⟨t, e⟩ := (show ∃ t, v = Value.int i t from rz)
      subst e
      exact ⟨hi, .int i, H', I'.tok _, ⟨_, rfl⟩, qi⟩
    | next => exact False.elim hq
    | brk => exact False.elim hq
    | cont => exact False.elim hq
def intU : AV → Option Int
  | .int i => if 0 ≤ i ∧ below i 62 = true then some i else none
  | _ => none
theorem intU_eq {t : AV} {i : Int} (h : intU t = some i) : t = .int i ∧ 0 ≤ i ∧ i < 2 ^ 63 := by
  unfold intU at h
  split at h
  · rename_i j
    by_cases hb : 0 ≤ j ∧ below j 62 = true
    · rw [if_pos hb] at h
      cases h
      have := below62 hb.2
      exact ⟨rfl, hb.1, by omega⟩
    · rw [if_neg hb] at h
      cases h
  · cases h
def fLenOwn (c : Nat) (fn : List AV → T AV) (f : Sem) : Sem := fun ρ => (f ρ).bind fun q => (frz q).bind fun s => match s.1 with
  | .ins c' xs => if c' = c then (fn [.ins c' xs]).bind fun t => (lift (intU t)).bind fun i => .ret (.val (.int i), s.2) else .bad
  | _ => .bad
theorem j_lenOwn (D : Mf X.prog X.w X.K X.mg X.base ct β lv c "__len__" n ps fn) (hr : Room (lv + 1) X.A) (hx : Passes (L2.CX X.prog X.w) X Ex) (hm : X.mg "len" = none) (ha : JE X ct β Ex a f) (hg : Gl X "len" := by rfl)
    (he : starEach [a] X.env = (false, eval a X.env) :: starEach [] X.env := by rfl) : JE X ct β Ex (.Call (.Name "len" p) [a] [] pos) (fLenOwn c fn f) := by
  obtain ⟨C, fa, fd, F, b, cl, me, hC⟩ := D.ex
  refine PE.imp (pe_callB (call_lenO me F hr b hx) hg hm (by decide +kernel) (pa_cons ha pa_nil he) (by decide +kernel) (by decide +kernel) he) fun σ H Q h => ?_
  show rdE (gc X ct) β Ex f σ H fun x H1 => rLenO C (spM (gc X ct) β n fn) Ex [x] H1 Q
  obtain ⟨g, ρ, R, h⟩ := h
  refine ⟨g, ρ, R, okT_mono (okT_bind h) fun g1 H1 q e1 h1 v R1 rv => ?_⟩
  obtain ⟨g2, s, e2, R2, rs, h2⟩ := frz_ok R1 rv h1
  obtain ⟨t, ρ2⟩ := s
  cases t with
  | ins c' xs =>
    by_cases hc : c' = c
    · subst hc
      have h3 : okT (gc X ct) β Ex g2 H1 ((fn [.ins c' xs]).bind fun t => (lift (intU t)).bind fun i => .ret (Hd.val (.int i), ρ2)) fun g' H' p => ∀ v, Rel (gc X ct) β g' p.2 σ H' → RepH (gc X ct) g' σ H' p.1 v → Q v H' := by
        have h2' : okT (gc X ct) β Ex g2 H1 (if c' = c' then _ else _) _ := h2
        rw [if_pos rfl] at h2'
        exact h2'
      have rs0 := rs
      rw [RepG, Rep] at rs
      obtain ⟨a, C', dx, vs, rfl, na, hm, ho, hl, r⟩ := rs
      have hC' : C' = C := by
        have e : some (Value.ref C') = some (Value.ref C) := hm.symm.trans hC
        cases e
        rfl
      subst hC'
      have h5 := okT_bind h3
      refine ⟨a, dx, _, rfl, ho, sp_call R2 (.one rs0) (D.len _ (T.all_mono h5 (fun _ _ => trivial) fun _ _ _ => trivial)) (okT_mono h5 fun g' H' t e' q v R' rt => ?_)⟩
      obtain ⟨i, ei, q2⟩ := okT_lift q
      obtain ⟨rfl, i0, i1⟩ := intU_eq ei
      have hv : v = .int i := by
        rw [RepG, Rep] at rt
        exact rt
      subst hv
      exact ⟨i, rfl, ⟨i0, i1⟩, okT_ret q2 (.int i) R' (show RepG (gc X ct) g' H' (.int i) (.int i) from rep_int)⟩
    · have h2' : okT (gc X ct) β Ex g2 H1 (if c' = c then _ else _) _ := h2
      rw [if_neg hc] at h2'
      exact (show False from h2').elim
  | _ => exact (show False from h2).elim
end
noncomputable def isTrueD (t : T AV) : Bool := T.rec (motive := fun _ => Bool) (fun a => match a with | .bl b => b | _ => false) false (fun _ _ => false) (fun n _ ih => (List.range n).all ih) t
end Dn
set_option Elab.async false
set_option linter.all false
set_option maxRecDepth 100000
namespace Dn
open PySem PySem.Spec PyProof.Rows L2
def lcL2 (vs vs1 : List Nat) (k : GSem) (tt : SemB) (it1 : SemI) (k1 : GSem) (tt1 : SemB) (el : Sem) : List AV → List AV → Env' → T (List AV × Env')
  | [], acc, ρ => .ret (acc, ρ)
  | x :: xs, acc, ρ => (noExc ((k x (wipeE ρ vs)).bind fun ρ1 => (tt ρ1).bind fun p => if p.1 then (it1 p.2).bind fun q => if acc.length + q.1.length < big then lcL vs1 k1 tt1 el q.1 acc q.2 else .bad else .ret (acc, p.2))).bind fun r => lcL2 vs vs1 k tt it1 k1 tt1 el xs r.1 r.2
def nLc2 (vs vs1 : List Nat) (it : SemI) (k : GSem) (tt : SemB) (it1 : SemI) (k1 : GSem) (tt1 : SemB) (el : Sem) : SemN := fun ρ => (it ρ).bind fun p => (lcL2 vs vs1 k tt it1 k1 tt1 el p.1 [] p.2).bind fun r => .ret (r.1, backE p.2 r.2 vs)
theorem lcL2_noExc (vs vs1 : List Nat) (k : GSem) (tt : SemB) (it1 : SemI) (k1 : GSem) (tt1 : SemB) (el : Sem) : ∀ (xs acc : List AV) (ρ : Env'), NoE (lcL2 vs vs1 k tt it1 k1 tt1 el xs acc ρ)
  | [], _, _ => noE_ret _
  | _ :: xs, _, _ => (noE_noExc _).bind fun r => lcL2_noExc vs vs1 k tt it1 k1 tt1 el xs r.1 r.2
theorem wipeE_get {ρ : Env'} : ∀ {vs : List Nat} {i : Nat}, i ∉ vs → (wipeE ρ vs)[i]? = ρ[i]?
  | [], _, _ => rfl
  | v :: vs, i, h => by
    unfold wipeE
    rw [List.getElem?_set_ne (fun e => h (by simp [e]))]
    exact wipeE_get fun z => h (List.mem_cons_of_mem _ z)
theorem wipeE_un {ρ : Env'} : ∀ {vs : List Nat} {i : Nat}, i ∈ vs → i < ρ.length → (wipeE ρ vs)[i]? = some .un
  | [], _, h, _ => by simp at h
  | v :: vs, i, h, hl => by
    unfold wipeE
    by_cases e : v = i
    · subst e
      rw [List.getElem?_set_self (by rw [wipeE_length]; exact hl)]
    · rw [List.getElem?_set_ne e]
      exact wipeE_un ((List.mem_cons.mp h).resolve_left fun z => e z.symm) hl
theorem wipeE_sub {ρ : Env'} {vs1 vs : List Nat} (hs : ∀ i ∈ vs1, i ∈ vs) : wipeE (wipeE ρ vs1) vs = wipeE ρ vs := by
  refine List.ext_getElem? fun i => ?_
  by_cases hi : i ∈ vs
  · by_cases hl : i < ρ.length
    · rw [wipeE_un hi (by rw [wipeE_length]; exact hl), wipeE_un hi hl]
    · rw [List.getElem?_eq_none (by rw [wipeE_length, wipeE_length]; omega), List.getElem?_eq_none (by rw [wipeE_length]; omega)]
  · rw [wipeE_get hi, wipeE_get hi, wipeE_get fun z => hi (hs i z)]
theorem wipe_sub {σ : L2.St} {vs1 vs : List Nat} (hs : ∀ i ∈ vs1, i ∈ vs) : L2.wipe (L2.wipe σ vs1) vs = L2.wipe σ vs :=
  wipe_agree (is := vs1) ⟨wipe_length σ vs1, fun i h => wipe_get h⟩ hs
section
variable {X : Cx} {ct : CT} {β : BInv} {Ex : XK} {a c elt tg iter tg1 iter1 : Expr} {ifs ifs1 : List Expr} {f it1 : SemI} {k k1 : GSem} {tt tt1 : SemB} {el : Sem} {pos : Pos} {scope : Scope} {own : List (Str × Nat)} {is is1 : List Nat}
theorem okD_okT {c0 : Gc} {α γ : Type} {g : G} {H : Hp} {D : Addr} {m : T α} {kk : α → T γ} {R : G → Hp → γ → Prop} (hn : NoE m) (h : okT c0 β E0 g H m fun g' H' a => okD D g' H' (kk a) R) : okD D g H m fun g' H' a => okD D g' H' (kk a) R :=
  T.all_mono (hn _ _ h) (fun a q g' H' e => okD_ext (q g H (Ext.refl g H)) e) fun _ _ z => z
theorem rep_updM {c0 : Gc} {g : G} {H : Hp} {D : Addr} {o : HO} {t : AV} {v : V} (hM : g.M D) (h : RepG c0 g H t v) : RepG c0 g (upd H D o) t v := h.imp (upd_av hM) fun _ h => h
theorem lc2_ok {σ : L2.St} {H : Hp} {Q : VK} {vs vs1 : List Nat} (hown : ∀ i ∈ is, i ∈ vs) (hown1 : ∀ i ∈ is1, i ∈ vs1) (hsub : ∀ i ∈ vs1, i ∈ vs) (h : rdN (gc X ct) β Ex (nLc2 vs vs1 f k tt it1 k1 tt1 el) σ H Q) :
    tLc2 (rdI (gc X ct) β Ex f) (rdG (gc X ct) β E0 is k) (rdB (gc X ct) β E0 tt) (rdI (gc X ct) β E0 it1) (rdG (gc X ct) β E0 is1 k1) (rdB (gc X ct) β E0 tt1) (rdE (gc X ct) β E0 el) vs vs1 σ H Q := by
  obtain ⟨g, ρ, R, h⟩ := h
  refine ⟨g, ρ, R, okT_bind0 h fun p q g1 H1 e1 J R1 wk D nD => ?_⟩
  obtain ⟨xs, ρ1⟩ := p
  have sD := same_upd (o := .lst []) nD
  have lD : (upd H1 D (.lst [])) D ≠ none := by rw [upd_same]; exact fun z => by cases z
  have q : okT (gc X ct) β Ex g H ((lcL2 vs vs1 k tt it1 k1 tt1 el xs [] ρ1).bind fun r => .ret (r.1, backE ρ1 r.2 vs)) fun g' H' p => ∀ a vs, H a = none → ¬ g'.Av a → H' a = some (.lst vs) → Rel (gc X ct) β (g'.plus a) p.2 σ H' → RepsG (gc X ct) (g'.plus a) H' p.1 vs → Q (.ref a) H' := q
  have RD : Rel (gc X ct) β (g1.plus D) ρ1 σ (upd H1 D (.lst [])) := R1.plus sD nD lD
  -- what is asked at the very end
  generalize hEnd : (fun (g' : G) (H' : Hp) (r : List AV × Env') => ∀ ws', H' D = some (.lst ws') → Rel (gc X ct) β g' (wipeE r.2 vs) (wipe σ vs) H' → RepsG (gc X ct) g' H' r.1 ws' → Q (.ref D) H') = End
  have start : okD D (g1.plus D) (upd H1 D (.lst [])) (lcL2 vs vs1 k tt it1 k1 tt1 el xs [] ρ1) End := by
    rw [← hEnd]
    refine okD_of (lcL2_noExc vs vs1 k tt it1 k1 tt1 el xs [] ρ1) q fun r hr g' H' e ws' hw R' r' => ?_
    have e := (show Ext (g1.plus D) g' (upd H1 D (.lst [])) (upd H' D (.lst [])) by rw [upd_upd] at e; exact e)
    have hl' : H' D ≠ none := by rw [hw]; exact fun z => by cases z
    have M' : g'.M D := by rw [e.m]; exact .inr rfl
    have e' : Ext g1 (g'.setM g1.M) H1 H' := ext_of_plusD e hl' nD
    have e2 : Ext g ((g'.setM g1.M).nos vs) H H' := (e1.trans e').trans (ext_nos _ _ vs)
    have gp : ((g'.setM g1.M).nos vs).plus D = g'.nos vs := nos_plus (H1 := H1) e.m vs
    refine okT_ret' hr e2 D ws' (none_back e1 nD) (fun z => ?_) hw ?_ ?_
    · rcases nos_av z with z | ⟨i, z⟩ | z
      · exact R1.alive D z nD
      · rcases e.own i D z with ⟨j, hj⟩ | hj
        · exact R1.ownLive (i := j) hj nD
        · exact lD hj
      · rcases e.bnew D z with z | z
        · exact β.live R1.box z nD
        · exact lD z
    · rw [gp]
      have hb := RD.backD e R' (wipe_length σ vs) vs M' hl'
      rw [restore_eq, backE_wipe] at hb
      exact hb
    · rw [gp]
      exact (ext_nos g' H' vs).reps r'
  refine ⟨fun i m H2 => m = xs.length - i ∧ i ≤ xs.length ∧ ∃ g2 ρ2 acc ws, Ext (g1.plus D) g2 (upd H1 D (.lst [])) (upd H2 D (.lst [])) ∧ Rel (gc X ct) β g2 (wipeE ρ2 vs) (wipe σ vs) H2 ∧ H2 D = some (.lst ws) ∧ RepsG (gc X ct) g2 H2 acc ws ∧
    okD D g2 H2 (lcL2 vs vs1 k tt it1 k1 tt1 el (xs.drop i) acc ρ2) End,
    ⟨xs.length, by simp, Nat.zero_le _, (g1.plus D).nos vs, ρ1, [], [], by rw [upd_upd]; exact ext_nos _ _ vs, RD.wipe vs, upd_same, .nil, okD_ext start (by rw [upd_upd]; exact ext_nos _ _ vs)⟩, ?_⟩
  rintro i m H2 ⟨rfl, hi, g2, ρ2, acc, ws, e2, R2, hw, ra, h2⟩
  have M2 : g2.M D := by rw [e2.m]; exact .inr rfl
  have kp : Keeps (gc X ct) g1 g2 H1 H2 := fun t v r => rep_updD M2 (e2.rep (rep_plus r sD nD))
  by_cases hlt : i < xs.length
  · refine .inr ⟨wk.go _ _ _ kp hlt, _, fun H' n => ⟨xs.length - (i + 1), by omega, n⟩, fun x H3 hy => ?_⟩
    have ex : xs[i]? = some xs[i] := List.getElem?_eq_getElem hlt
    obtain ⟨sm, rx⟩ := wk.yld _ _ _ _ _ _ kp (fun _ h => R2.avLive h) ex hy
    rw [List.drop_eq_getElem_cons hlt] at h2
    have hD2 : H2 D ≠ none := by rw [hw]; exact fun z => by cases z
    have hD3 : H3 D = some (.lst ws) := sm D _ hw
    have hD3' : H3 D ≠ none := by rw [hD3]; exact fun z => by cases z
    have h3 := okD_turn (c0 := gc X ct) (β := β) (Ex := E0) (okD_ext h2 (ext_updB (Ext.same sm) hD2)) hD3'
    refine ⟨g2, wipeE ρ2 vs, xs[i], R2.same sm, rx, okT_mono (okT_bind h3) fun g4 H4 ρ4 e4 h4 σ4 ag R4 => ⟨(wipe_agree ag hown).trans wipe_wipe, g4, ρ4, R4, okT_mono (okT_bind h4) fun g5 H5 p e5 h5 R5 => ?_⟩⟩
    have e35 : Ext g2 g5 H3 H5 := e4.trans e5
    have eD : ∀ {g6 : G} {H6 : Hp}, Ext g2 g6 H3 H6 → H6 D = some (.lst ws) := fun e => e.keep D _ hD3 (fun i z => (R2.sep i D z).1 M2) (R2.mb D M2)
    have eT : ∀ {g6 : G} {H6 : Hp} (o : HO), Ext g2 g6 H3 H6 → Ext (g1.plus D) g6 (upd H1 D (.lst [])) (upd (upd H6 D o) D (.lst [])) := fun {g6 H6} o e => by
      rw [upd_upd]
      exact e2.trans ((ext_updB (Ext.same sm) hD2).trans (ext_updB e hD3'))
    have w4 : wipe σ4 vs = wipe σ vs := (wipe_agree ag hown).trans wipe_wipe
    by_cases hp : p.1 = true
    · dsimp only
      rw [if_pos hp] at h5 ⊢
      refine ⟨g5, p.2, R5, okT_mono (okT_bind h5) fun g6 H6 s e6 h6 J1 R6 wk1 => ?_⟩
      obtain ⟨ys, ρ6⟩ := s
      have e36 : Ext g2 g6 H3 H6 := e35.trans e6
      have M6 : g6.M D := by rw [e36.m]; exact M2
      have hD6 : H6 D = some (.lst ws) := eD e36
      have hD6' : H6 D ≠ none := by rw [hD6]; exact fun z => by cases z
      by_cases hbig : acc.length + ys.length < big
      · have h6' : okT (gc X ct) β E0 g6 H6 (lcL vs1 k1 tt1 el ys acc ρ6) fun g' H' r => okD D g' H' (lcL2 vs vs1 k tt it1 k1 tt1 el (xs.drop (i + 1)) r.1 r.2) End := by
          have h6' : okT (gc X ct) β E0 g6 H6 (if acc.length + ys.length < big then _ else _) _ := h6
          rw [if_pos hbig] at h6'
          exact h6'
        have h7 := okD_okT (lcL_noExc vs1 k1 tt1 el ys acc ρ6) h6'
        refine ⟨fun j m H7 => m = ys.length - j ∧ j ≤ ys.length ∧ ∃ g7 ρ7 acc7 ws7, Ext g6 g7 (upd H6 D (.lst [])) (upd H7 D (.lst [])) ∧ Rel (gc X ct) β g7 (wipeE ρ7 vs1) (wipe σ4 vs1) H7 ∧ H7 D = some (.lst ws7) ∧ RepsG (gc X ct) g7 H7 acc7 ws7 ∧ acc7.length ≤ acc.length + j ∧
          okD D g7 H7 (lcL vs1 k1 tt1 el (ys.drop j) acc7 ρ7) fun g' H' r => okD D g' H' (lcL2 vs vs1 k tt it1 k1 tt1 el (xs.drop (i + 1)) r.1 r.2) End,
          ⟨ys.length, by simp, Nat.zero_le _, g6.nos vs1, ρ6, acc, ws, ext_nos _ _ vs1, R6.wipe vs1, hD6, (ext_nos g6 H6 vs1).reps (((Ext.same sm).trans e36).reps ra), by omega, okD_ext h7 (ext_nos _ _ vs1)⟩, ?_⟩
        rintro j m H7 ⟨rfl, hj, g7, ρ7, acc7, ws7, e7, R7, hw7, ra7, hlen7, h7⟩
        have M7 : g7.M D := by rw [e7.m]; exact M6
        have kp1 : Keeps (gc X ct) g6 g7 H6 H7 := fun t v r => rep_updD M7 (e7.rep (rep_updM M6 r))
        by_cases hjt : j < ys.length
        · refine .inr ⟨wk1.go _ _ _ kp1 hjt, _, fun H' n => ⟨ys.length - (j + 1), by omega, n⟩, fun y H8 hy => ?_⟩
          have ey : ys[j]? = some ys[j] := List.getElem?_eq_getElem hjt
          obtain ⟨sm7, ry⟩ := wk1.yld _ _ _ _ _ _ kp1 (fun _ h => R7.avLive h) ey hy
          rw [List.drop_eq_getElem_cons hjt] at h7
          have hD7 : H7 D ≠ none := by rw [hw7]; exact fun z => by cases z
          have hD8 : H8 D = some (.lst ws7) := sm7 D _ hw7
          have hD8' : H8 D ≠ none := by rw [hD8]; exact fun z => by cases z
          have h8 := okD_turn (c0 := gc X ct) (β := β) (Ex := E0) (okD_ext h7 (ext_updB (Ext.same sm7) hD7)) hD8'
          refine ⟨g7, wipeE ρ7 vs1, ys[j], R7.same sm7, ry, okT_mono (okT_bind h8) fun g9 H9 ρ9 e9 h9 σ9 ag9 R9 => ⟨(wipe_agree ag9 hown1).trans wipe_wipe, g9, ρ9, R9, okT_mono (okT_bind h9) fun g10 H10 p10 e10 h10 R10 => ?_⟩⟩
          have e810 : Ext g7 g10 H8 H10 := e9.trans e10
          have eD8 : ∀ {g6 : G} {H6 : Hp}, Ext g7 g6 H8 H6 → H6 D = some (.lst ws7) := fun e => e.keep D _ hD8 (fun i z => (R7.sep i D z).1 M7) (R7.mb D M7)
          have eT8 : ∀ {g11 : G} {H11 : Hp} (o : HO), Ext g7 g11 H8 H11 → Ext g6 g11 (upd H6 D (.lst [])) (upd (upd H11 D o) D (.lst [])) := fun {g11 H11} o e => by
            rw [upd_upd]
            exact e7.trans ((ext_updB (Ext.same sm7) hD7).trans (ext_updB e hD8'))
          by_cases hp10 : p10.1 = true
          · dsimp only
            rw [if_pos hp10] at h10 ⊢
            refine ⟨g10, p10.2, R10, okT_mono (okT_bind h10) fun g11 H11 s e11 h11 y R11 ry => ?_⟩
            obtain ⟨g12, z, e12, R12, rz, h12⟩ := frz_ok R11 ry h11
            have e812 : Ext g7 g12 H8 H11 := (e810.trans e11).trans e12
            have M12 : g12.M D := by rw [e812.m]; exact M7
            refine ⟨ws7, eD8 e812, ?_, rfl, hjt, g12.nos vs1, z.2, acc7 ++ [z.1], ws7 ++ [y], (eT8 _ e812).trans (ext_nos _ _ vs1), ?_, upd_same, ?_, by rw [List.length_append]; simp; omega, ?_⟩
            · have := ra7.length
              have := big_line
              omega
            · have R13 := (R12.updM (o := .lst (ws7 ++ [y])) M12).wipe vs1
              rw [wipe_agree ag9 hown1, wipe_wipe] at R13
              exact R13
            · exact (ext_nos g12 _ vs1).reps (rep_updL M12 ((((Ext.same sm7).trans e812).reps ra7).append (.one rz)))
            · exact okD_ext (okT_ret h12) (by rw [upd_upd]; exact ext_nos _ _ vs1)
          · dsimp only
            rw [if_neg hp10] at h10 ⊢
            refine ⟨rfl, hjt, g10.nos vs1, p10.2, acc7, ws7, ?_, ?_, eD8 e810, ?_, by omega, ?_⟩
            · have := eT8 (.lst ws7) e810
              rw [upd_upd] at this
              exact this.trans (ext_nos _ _ vs1)
            · have R13 := R10.wipe vs1
              rw [wipe_agree ag9 hown1, wipe_wipe] at R13
              exact R13
            · exact (ext_nos g10 _ vs1).reps (((Ext.same sm7).trans e810).reps ra7)
            · exact okD_ext (okT_ret h10) (ext_nos _ _ vs1)
        · have e : j = ys.length := by omega
          subst e
          rw [List.drop_length] at h7
          refine .inl ⟨wk1.stop _ _ _ kp1 (Nat.le_refl _), rfl, hlt, g7.nos vs, ρ7, acc7, ws7, ?_, ?_, hw7, (ext_nos g7 _ vs).reps ra7, ?_⟩
          · have e27 := eT (.lst ws7) e36
            rw [upd_upd] at e27
            exact (e27.trans e7).trans (ext_nos _ _ vs)
          · have R13 := R7.wipe vs
            rw [wipe_sub hsub, wipeE_sub hsub, w4] at R13
            exact R13
          · exact okD_ext (okD_ret h7) (ext_nos _ _ vs)
      · have h6' : okT (gc X ct) β E0 g6 H6 (if acc.length + ys.length < big then _ else _) _ := h6
        rw [if_neg hbig] at h6'
        exact (show False from h6').elim
    · dsimp only
      rw [if_neg hp] at h5 ⊢
      refine ⟨rfl, hlt, g5.nos vs, p.2, acc, ws, ?_, ?_, eD e35, ?_, ?_⟩
      · have := eT (.lst ws) e35
        rw [upd_upd] at this
        exact this.trans (ext_nos _ _ vs)
      · have R8 := R5.wipe vs
        rw [w4] at R8
        exact R8
      · exact (ext_nos g5 _ vs).reps (((Ext.same sm).trans e35).reps ra)
      · exact okD_ext (okT_ret h5) (ext_nos _ _ vs)
  · have e : i = xs.length := by omega
    subst e
    rw [List.drop_length] at h2
    have h3 := okD_ret h2
    rw [← hEnd] at h3
    exact .inl ⟨wk.stop _ _ _ kp (Nat.le_refl _), h3 ws hw R2 ra⟩
theorem jn_lc2 (hc : X.calm = true) (hN : X.N.Nodup) (ok : BlkOk X.N X.env.scope scope own) (vs1 : List Nat) (hown : ∀ i ∈ is, i ∈ own.map (·.2)) (hown1 : ∀ i ∈ is1, i ∈ vs1) (hsub : ∀ i ∈ vs1, i ∈ own.map (·.2)) (hi : JI X ct β Ex tg iter f)
    (hg : ∀ (s : Shared) (H : Hp) (C : Addr) (cl : List (Str × Addr)) (fp : List Addr), JG (X.blk s H scope (compEnvC scope cl C X.env) fp) ct β E0 tg is k) (ht : ∀ (s : Shared) (H : Hp) (C : Addr) (cl : List (Str × Addr)) (fp : List Addr), JTs (X.blk s H scope (compEnvC scope cl C X.env) fp) ct β E0 ifs tt)
    (hi1 : ∀ (s : Shared) (H : Hp) (C : Addr) (cl : List (Str × Addr)) (fp : List Addr), JI (X.blk s H scope (compEnvC scope cl C X.env) fp) ct β E0 tg1 iter1 it1)
    (hg1 : ∀ (s : Shared) (H : Hp) (C : Addr) (cl : List (Str × Addr)) (fp : List Addr), JG (X.blk s H scope (compEnvC scope cl C X.env) fp) ct β E0 tg1 is1 k1) (ht1 : ∀ (s : Shared) (H : Hp) (C : Addr) (cl : List (Str × Addr)) (fp : List Addr), JTs (X.blk s H scope (compEnvC scope cl C X.env) fp) ct β E0 ifs1 tt1)
    (he : ∀ (s : Shared) (H : Hp) (C : Addr) (cl : List (Str × Addr)) (fp : List Addr), JE (X.blk s H scope (compEnvC scope cl C X.env) fp) ct β E0 elt el) (hs : ∀ x, foldedSetIterable iter X.env x = pure x := by intro _; rfl) (hs1 : ∀ env x, foldedSetIterable iter1 env x = pure x := by intro _ _; rfl) :
    JN X ct β Ex (.ListComp elt [⟨tg, iter, ifs, 0⟩, ⟨tg1, iter1, ifs1, 0⟩] scope pos) (nLc2 (own.map (·.2)) vs1 f k tt it1 k1 tt1 el) := by
  exact PE.imp (pe_lc2 (vs1 := vs1) (g := rdG (gc X ct) β E0 is k) (tt := rdB (gc X ct) β E0 tt) (wi1 := rdI (gc X ct) β E0 it1) (g1 := rdG (gc X ct) β E0 is1 k1) (tt1 := rdB (gc X ct) β E0 tt1) (te := rdE (gc X ct) β E0 el) hc hN hi ok hsub hg ht hi1 hg1 ht1 he hs hs1) fun σ H Q h => lc2_ok hown hown1 hsub h
end
end Dn
set_option Elab.async false
set_option linter.all false
set_option maxRecDepth 100000
namespace Dn
open PySem PySem.Spec PyProof.Rows L2
mutual
def eqA : AV → AV → Bool
  | .non, .non => true
  | .bl a, .bl b => a == b
  | .int a, .int b => decide (a = b)
  | .str a, .str b => decide (a = b)
  | .tup a, .tup b => eqAs a b
  | .lst a, .lst b => eqAs a b
  | .ins c a, .ins d b => decide (c = d) && eqAs a b
  | .box, .box => true
  | .any, .any => true
  | _, _ => false
def eqAs : List AV → List AV → Bool
  | [], [] => true
  | a :: as, b :: bs => eqA a b && eqAs as bs
  | _, _ => false
end
mutual
theorem eqA_eq : ∀ (a b : AV), eqA a b = true → a = b
  | .non, b, h => by cases b <;> first | rfl | (unfold eqA at h; cases h)
  | .bl x, b, h => by
    cases b with
    | bl y => rw [eqA] at h; rw [eq_of_beq h]
    | _ => unfold eqA at h; cases h
  | .int x, b, h => by
    cases b with
    | int y => rw [eqA] at h; rw [of_decide_eq_true h]
    | _ => unfold eqA at h; cases h
  | .str x, b, h => by
    cases b with
    | str y => rw [eqA] at h; rw [of_decide_eq_true h]
    | _ => unfold eqA at h; cases h
  | .tup x, b, h => by
    cases b with
    | tup y => rw [eqA] at h; rw [eqAs_eq x y h]
    | _ => unfold eqA at h; cases h
  | .lst x, b, h => by
    cases b with
    | lst y => rw [eqA] at h; rw [eqAs_eq x y h]
    | _ => unfold eqA at h; cases h
  | .ins c x, b, h => by
    cases b with
    | ins d y => rw [eqA, Bool.and_eq_true] at h; rw [of_decide_eq_true h.1, eqAs_eq x y h.2]
    | _ => unfold eqA at h; cases h
  | .box, b, h => by cases b <;> first | rfl | (unfold eqA at h; cases h)
  | .any, b, h => by cases b <;> first | rfl | (unfold eqA at h; cases h)
  | .scr ns, b, h => by cases b <;> (unfold eqA at h; cases h)
theorem eqAs_eq : ∀ (a b : List AV), eqAs a b = true → a = b
  | [], b, h => by cases b with
    | nil => rfl
    | cons _ _ => unfold eqAs at h; cases h
  | x :: xs, b, h => by cases b with
    | nil => unfold eqAs at h; cases h
    | cons y ys => rw [eqAs, Bool.and_eq_true] at h; rw [eqA_eq x y h.1, eqAs_eq xs ys h.2]
end
def eqP : List (AV × AV) → List (AV × AV) → Bool
  | [], [] => true
  | (a, b) :: xs, (c, d) :: ys => eqA a c && (eqA b d && eqP xs ys)
  | _, _ => false
def eqS : Slot → Slot → Bool
  | .un, .un => true
  | .fro a, .fro b => eqA a b
  | .ml a, .ml b => eqAs a b
  | .md a b, .md c d => a == c && eqP b d
  | _, _ => false
def eqE : Env' → Env' → Bool
  | [], [] => true
  | a :: as, b :: bs => eqS a b && eqE as bs
  | _, _ => false
def nxIs (m : T Out) (ρ : Env') : Bool := match m with
  | .ret (.nx ρ') => eqE ρ' ρ
  | _ => false
def eachB (k : Nat → T Out) : List Env' → Nat → Bool
  | [], _ => true
  | ρ :: ρs, i => nxIs (k i) ρ && eachB k ρs (i + 1)
def drIs (m : T Out) (ρs : List Env') : Bool := match m with
  | .draw n k => decide (n = ρs.length) && eachB k ρs 0
  | _ => false
def AllT (m : T Out) : Prop := (m.bind outV).Al (fun t => t = .bl true) NoX
theorem law_endA {P : Program} {w : World} {K : PySem.W.Frag} {mg : Str → Option Value} {base : Heap} {ct : CT} {β : BInv} {lv : Nat} {fa : Addr} {fd : FuncData} {x : Str} {fn : List AV → T AV} (F : FnOk P w K mg base (L2.CX P w) lv fa fd [x] (spM ⟨K, mg, ct⟩ β 1 fn))
    (hb : ∀ H, β.I (fun _ => False) (fun _ => False) H) (h : ∀ ns : List Int, ns.length ≤ 63 → (fn [.scr ns]).Al (fun t => t = .bl true) NoX) : FnOk P w K mg base (L2.CX P w) lv fa fd [x] (spLaw K) := law_end F hb fun ns hl => al_iff.mp (h ns hl)
end Dn
set_option Elab.async false
set_option linter.all false
set_option maxRecDepth 100000
set_option maxHeartbeats 0
namespace Dn
open PySem PySem.Spec PyProof.Rows L2
theorem lg {i : Int} (h : i.natAbs < 2 ^ 200) : i.natAbs.log2 < 200 := by
  by_cases z : i.natAbs = 0
  · rw [z]; decide
  · exact (Nat.log2_lt z).mpr h
def il (l : List Int) : List AV := l.map AV.int
theorem il_len (l : List Int) : (il l).length = l.length := List.length_map ..
def far (due : List Int) (p : Int) (n : Nat) : Int := (n : Int) / (due.length : Int) * p + due.getD (n % due.length) 0
theorem atI_nat' {xs : List AV} {i : Nat} (h : i < xs.length) : atI xs (i : Int) = xs[i]? := by
  unfold atI ixN
  rw [if_pos (Int.natCast_nonneg i), if_pos (by omega)]
  simp
theorem il_get {l : List Int} {i : Nat} (h : i < l.length) : (il l)[i]? = some (.int (l.getD i 0)) := by
  unfold il
  rw [List.getElem?_map, List.getElem?_eq_getElem h, List.getD_eq_getElem?_getD, List.getElem?_eq_getElem h]
  rfl
def gterms (due : List Int) (p : Int) (m : Nat) : Nat → List Int → List Int
  | _, [] => []
  | i, d :: r => (far due p (i + m + 1) - d) :: gterms due p m (i + 1) r
def top1 : List Int → Int
  | [] => 0
  | x :: r => maxL x r
def gap (due : List Int) (p : Int) (m : Nat) : Int := top1 (gterms due p m 0 due)
def seen (l : List Int) : List (AV × AV) := l.map fun d => (AV.int d, AV.bl true)
def runmax (a : Int) (l : List Int) : Int := l.foldl (fun x y => if x < y then y else x) a
def InR (p : Int) (ds : List Int) : Prop := ds.Nodup ∧ ∀ d ∈ ds, 0 ≤ d ∧ d < p
def DaysI (p most : Int) (i : Nat) (ρ : Env') : Prop := ∃ ds s4 s5, ρ = [.fro .box, .fro (.int p), .fro (.int most), .ml (il ds), s4, s5] ∧ InR p ds ∧ ds.length ≤ i ∧ (0 < i → 0 < ds.length)
def DaysR (p : Int) (t : AV) : Prop := ∃ ds, t = .lst (il ds) ∧ InR p ds ∧ 0 < ds.length ∧ ds.length ≤ 60
def ShufR (xs : List AV) (t : AV) : Prop := ∃ ys, t = .lst ys ∧ ys.Perm xs
def ShufI (xs : List AV) (i : Nat) (ρ : Env') : Prop := ∃ rest found s4, ρ = [.fro .box, .fro (.lst xs), .ml rest, .ml found, s4] ∧ (found ++ rest).Perm xs ∧ found.length = i
theorem perm_pop {α : Type} : ∀ {l : List α} {n : Nat} {x : α}, l[n]? = some x → (x :: l.eraseIdx n).Perm l
  | [], n, x, h => by simp at h
  | y :: l, 0, x, h => by
    simp at h
    subst h
    exact List.Perm.refl _
  | y :: l, n + 1, x, h => by
    have ih := perm_pop (l := l) (n := n) (x := x) (by simpa using h)
    rw [List.eraseIdx_cons_succ]
    exact (List.Perm.swap y x _).trans (List.Perm.cons y ih)
def Good (p : Int) (due : List Int) : Prop := due.Pairwise (· ≤ ·) ∧ (∀ d ∈ due, 0 ≤ d ∧ d < p) ∧ 0 < due.length
def least (p : Int) (n m : Nat) : Int := -(-((m : Int) + 1) * p / (n : Int))
def evn (p : Int) (n i : Nat) : Int := -(-(i : Int) * p / (n : Int))
def Best (due : List Int) (p : Int) : Prop := (List.range due.length).map (gap due p) = (List.range due.length).map (least p due.length)
instance (due : List Int) (p : Int) : Decidable (Best due p) := by unfold Best; infer_instance
def NLn (D O : List Int) (p : Int) (n : Nat) : Prop := ∀ i, i < n → gap D p i ≤ gap O p i
instance (D O : List Int) (p : Int) (n : Nat) : Decidable (NLn D O p n) := by unfold NLn; infer_instance
def sumTo (f : Nat → Int) : Nat → Int
  | 0 => 0
  | n + 1 => sumTo f n + f n
def E (p : Int) (n : Nat) (t : Nat) : Int := -(-((t : Int) * p) / (n : Int))
end Dn
set_option Elab.async false
set_option linter.all false
set_option maxRecDepth 100000
set_option maxHeartbeats 0
namespace Dn
open PySem PySem.Spec PyProof.Rows L2
abbrev Rw := List Int × List Nat
def nl (l : List Nat) : List AV := l.map fun k : Nat => AV.int (k : Int)
def rwAt (rows : List Rw) (d : Nat) : Rw := rows.getD (d % rows.length) ([], [])
def sg (rows : List Rw) (w : Nat) : Nat → Nat
  | 0 => w
  | d + 1 => (rwAt rows d).2.getD (sg rows w d) 0
structure WR (n : Nat) (rows : List Rw) : Prop where
  n0 : 0 < n
  n1 : n ≤ 100
  r0 : 0 < rows.length
  r1 : rows.length ≤ 100
  mv : ∀ r ∈ rows, r.2.length = n ∧ r.2.Nodup ∧ ∀ x ∈ r.2, x < n
  tn : ∀ r ∈ rows, r.1.Nodup ∧ ∀ x ∈ r.1, 0 ≤ x ∧ x < (n : Int)
section
variable {n : Nat} {rows : List Rw} {u w d : Nat}
def ord (n : Nat) (rows : List Rw) (w : Nat) : Nat := match (List.range n).find? (fun k => sg rows w (rows.length * (k + 1)) == w) with
  | some k => k + 1
  | none => 1
def per (n : Nat) (rows : List Rw) (w : Nat) : Nat := rows.length * ord n rows w
def dueb (rows : List Rw) (w d : Nat) : Bool := decide (((sg rows w d : Nat) : Int) ∈ (rwAt rows d).1)
def cnt (rows : List Rw) (w d : Nat) : Nat := ((List.range d).filter (dueb rows w)).length
def dys (n : Nat) (rows : List Rw) (w : Nat) : List Nat := (List.range (per n rows w)).filter (dueb rows w)
def dysI (n : Nat) (rows : List Rw) (w : Nat) : List Int := (dys n rows w).map fun k : Nat => (k : Int)
def fd (n : Nat) (rows : List Rw) (w i : Nat) : Nat := per n rows w * (i / cnt rows w (per n rows w)) + (dys n rows w).getD (i % cnt rows w (per n rows w)) 0
end
def rowV (r : Rw) : AV := .tup [.tup (il r.1), .tup (nl r.2)]
def rotaV (n : Nat) (rows : List Rw) : AV := .ins 0 [.int (n : Int), .tup (rows.map rowV)]
end Dn
set_option Elab.async false
set_option linter.all false
set_option maxRecDepth 100000
set_option maxHeartbeats 0
namespace Dn
open PySem PySem.Spec PyProof.Rows L2
def LoopQ (I : Env' → Prop) (P : Out → Prop) : Out → Prop
  | .nx ρ => I ρ
  | .ct ρ => I ρ
  | .bk ρ => P (.nx ρ)
  | .rt t => P (.rt t)
def FnQ (R : AV → Prop) : Out → Prop
  | .rt t => R t
  | .nx _ => R .non
  | _ => False
section
variable {α γ : Type} {Q : Out → Prop} {E : Nat → List AV → Prop} {ρ : Env'} {f k : SSem} {P : α → Prop}
theorem all_congr {m : T α} {P' : α → Prop} (h : ∀ a, P a ↔ P' a) : m.all P E ↔ m.all P' E := ⟨fun z => T.all_mono z (fun a => (h a).mp) fun _ _ z => z, fun z => T.all_mono z (fun a => (h a).mpr) fun _ _ z => z⟩
theorem al_bindI {m : T α} {g : α → T γ} {R : γ → Prop} : (m.bind g).Al R E ↔ m.Al (fun a => (g a).Al R E) E := by
  rw [al_iff, T.all_bind, al_iff]
  exact all_congr fun a => al_iff.symm
theorem al_retI {a : α} : (T.ret a).Al P E ↔ P a := al_iff
theorem al_drawI {n : Nat} {g : Nat → T α} : (T.draw n g).Al P E ↔ ∀ r, r < n → (g r).Al P E := by
  rw [al_iff]
  exact ⟨fun h r hr => al_iff.mpr (h r hr), fun h r hr => al_iff.mp (h r hr)⟩
theorem al_seq : (sSeq f k ρ).Al Q E ↔ (f ρ).Al (Nx (fun ρ' => (k ρ').Al Q E) Q) E := by
  unfold sSeq
  rw [al_bindI, al_iff, al_iff]
  refine all_congr fun o => ?_
  cases o
  · exact Iff.rfl
  · exact al_retI
  · exact al_retI
  · exact al_retI
theorem nx_nx {R : Env' → Prop} : Nx R Q (.nx ρ) ↔ R ρ := Iff.rfl
theorem lq_nx {I : Env' → Prop} : LoopQ I Q (.nx ρ) ↔ I ρ := Iff.rfl
theorem aFnQ {np n : Nat} {body : SSem} {ts : List AV} {R : AV → Prop} (hl : ts.length = np) (h : (body (ts.map Slot.fro ++ List.replicate (n - np) .un)).Al (FnQ R) E) : (fnOf np n body ts).Al R E := by
  refine aFn hl (al_mono h fun o q => ?_)
  cases o <;> exact q
theorem al_forL {g : GSem} {body : SSem} {xs : List AV} (I : Nat → Env' → Prop) (h0 : I 0 ρ) (step : ∀ (i : Nat) (x : AV) (ρ : Env'), xs[i]? = some x → I i ρ → (g x ρ).Al (fun ρ1 => (body ρ1).Al (LoopQ (I (i + 1)) Q) E) E) (hend : ∀ ρ, I xs.length ρ → Q (.nx ρ)) : (forL g body xs ρ).Al Q E := by
  refine al_iff.mpr (forL_all I h0 (fun i x ρ hx hI => T.all_mono (al_iff.mp (step i x ρ hx hI)) (fun ρ1 q => T.all_mono (al_iff.mp q) (fun o q => ?_) fun _ _ z => z) fun _ _ z => z) hend)
  cases o <;> exact q
theorem al_whileL {c : SemB} {body : SSem} (I : Nat → Env' → Prop) (step : ∀ (j : Nat) (ρ : Env'), I j ρ → (c ρ).Al (fun p => if p.1 = true then (body p.2).Al (LoopQ (fun ρ' => ∃ i, i < j ∧ I i ρ') Q) E else Q (.nx p.2)) E) : ∀ (fuel m : Nat) (ρ : Env'), I m ρ → m < fuel → (whileL c body fuel ρ).Al Q E
  | 0, _, _, _, h => absurd h (Nat.not_lt_zero _)
  | fuel + 1, m, ρ, h, hm => by
    unfold whileL
    rw [al_bindI]
    refine al_mono (step m ρ h) fun p hp => ?_
    by_cases e : p.1 = true
    · rw [if_pos e] at hp ⊢
      rw [al_bindI]
      refine al_mono hp fun o ho => ?_
      cases o with
      | nx ρ' =>
        obtain ⟨i, hi, hI⟩ := ho
        exact al_whileL I step fuel i ρ' hI (by omega)
      | ct ρ' =>
        obtain ⟨i, hi, hI⟩ := ho
        exact al_whileL I step fuel i ρ' hI (by omega)
      | bk ρ' => exact al_retI.mpr ho
      | rt t => exact al_retI.mpr ho
    · rw [if_neg e] at hp ⊢
      exact al_retI.mpr hp
end
def lcRun (k : GSem) (tt : SemB) (el : Sem) (x : AV) (w : Env') : T (Option AV × Env') := (k x w).bind fun ρ1 => (tt ρ1).bind fun p => if p.1 = true then (el p.2).bind fun q => (frz q).bind fun s => .ret (some s.1, s.2) else .ret (none, p.2)
theorem lcL_pure {α : Type} {vs : List Nat} {k : GSem} {tt : SemB} {el : Sem} {w : Env'} {enc : α → AV} {h : α → Option AV} : ∀ {l : List α} {acc : List AV} {ρ : Env'}, wipeE ρ vs = w →
    (∀ b ∈ l, ∃ ρ2, lcRun k tt el (enc b) w = .ret (h b, ρ2) ∧ wipeE ρ2 vs = w) → ∃ ρ2, lcL vs k tt el (l.map enc) acc ρ = .ret (acc ++ l.filterMap h, ρ2) ∧ wipeE ρ2 vs = w
  | [], acc, ρ, hw, _ => ⟨ρ, by rw [List.filterMap_nil, List.append_nil]; rfl, hw⟩
  | b :: l, acc, ρ, hw, hs => by
    obtain ⟨ρ2, e, hw2⟩ := hs b (by simp)
    have z : ((k (enc b) (wipeE ρ vs)).bind fun ρ1 => (tt ρ1).bind fun p => if p.1 = true then (el p.2).bind fun q => (frz q).bind fun s => .ret (acc ++ [s.1], s.2) else .ret (acc, p.2)) = .ret (match h b with | some y => acc ++ [y] | none => acc, ρ2) := by
      rw [hw]
      have := congrArg (fun m : T (Option AV × Env') => m.bind fun s => T.ret (match s.1 with | some y => acc ++ [y] | none => acc, s.2)) e
      unfold lcRun at this
      simp only [T.bind_assoc] at this
      refine Eq.trans ?_ this
      congr 1
      funext ρ1
      congr 1
      funext p
      by_cases hp : p.1 = true
      · simp only [hp, if_true, T.bind_assoc]
        rfl
      · rw [if_neg hp, if_neg hp]
        rfl
    show ∃ ρ2, (noExc _).bind _ = _ ∧ _
    rw [z]
    cases q : h b with
    | some y =>
      obtain ⟨ρ3, e3, hw3⟩ := lcL_pure (acc := acc ++ [y]) hw2 fun c hc => hs c (List.mem_cons_of_mem _ hc)
      refine ⟨ρ3, ?_, hw3⟩
      rw [List.filterMap_cons, q]
      show lcL vs k tt el (l.map enc) (acc ++ [y]) ρ2 = _
      rw [e3, List.append_assoc]
      rfl
    | none =>
      obtain ⟨ρ3, e3, hw3⟩ := lcL_pure (acc := acc) hw2 fun c hc => hs c (List.mem_cons_of_mem _ hc)
      refine ⟨ρ3, ?_, hw3⟩
      rw [List.filterMap_cons, q]
      exact e3
theorem nLc_T {α : Type} {vs : List Nat} {it : SemI} {k : GSem} {tt : SemB} {el : Sem} {ρ ρ' : Env'} {l : List α} (enc : α → AV) (h : α → Option AV) (hit : it ρ = .ret (l.map enc, ρ')) (hb : l.length < big) (hback : backE ρ' ρ' vs = ρ')
    (hs : ∀ b ∈ l, ∃ ρ2, lcRun k tt el (enc b) (wipeE ρ' vs) = .ret (h b, ρ2) ∧ wipeE ρ2 vs = wipeE ρ' vs) : nLc vs it k tt el ρ = .ret (l.filterMap h, ρ') := by
  unfold nLc
  rw [hit, bind_ret', if_pos (by rw [List.length_map]; exact hb)]
  obtain ⟨ρ2, e, hw⟩ := lcL_pure (acc := []) rfl hs
  rw [e, bind_ret', backE_eq vs hw, hback, List.nil_append]
theorem nLc_M {α : Type} {vs : List Nat} {it : SemI} {k : GSem} {tt : SemB} {el : Sem} {ρ ρ' : Env'} {l : List α} (enc : α → AV) (h : α → AV) (hit : it ρ = .ret (l.map enc, ρ')) (hb : l.length < big) (hback : backE ρ' ρ' vs = ρ')
    (hs : ∀ b ∈ l, ∃ ρ2, lcRun k tt el (enc b) (wipeE ρ' vs) = .ret (some (h b), ρ2) ∧ wipeE ρ2 vs = wipeE ρ' vs) : nLc vs it k tt el ρ = .ret (l.map h, ρ') := by
  rw [nLc_T enc (fun b => some (h b)) hit hb hback hs, ← List.filterMap_eq_map]
  rfl
theorem nLc_F {α : Type} {vs : List Nat} {it : SemI} {k : GSem} {tt : SemB} {el : Sem} {ρ ρ' : Env'} {l : List α} (enc : α → AV) (p : α → Bool) (h : α → AV) (hit : it ρ = .ret (l.map enc, ρ')) (hb : l.length < big) (hback : backE ρ' ρ' vs = ρ')
    (hs : ∀ b ∈ l, ∃ ρ2, lcRun k tt el (enc b) (wipeE ρ' vs) = .ret (if p b = true then some (h b) else none, ρ2) ∧ wipeE ρ2 vs = wipeE ρ' vs) : nLc vs it k tt el ρ = .ret ((l.filter p).map h, ρ') := by
  rw [nLc_T enc (fun b => if p b = true then some (h b) else none) hit hb hback hs]
  congr 2
  induction l with
  | nil => rfl
  | cons b l ih =>
    have ih := fun a b c => ih a b c
    rw [List.filterMap_cons, List.filter_cons]
    by_cases e : p b = true
    · rw [if_pos e, if_pos e, List.map_cons]
      dsimp only
      congr 1
      have : ∀ l : List α, l.filterMap (fun b => if p b = true then some (h b) else none) = (l.filter p).map h := by
        intro l
        induction l with
        | nil => rfl
        | cons c l ih =>
          rw [List.filterMap_cons, List.filter_cons]
          by_cases e : p c = true
          · rw [if_pos e, if_pos e, List.map_cons, ih]
          · rw [if_neg e, if_neg e, ih]
      exact this l
    · rw [if_neg e, if_neg e]
      dsimp only
      have : ∀ l : List α, l.filterMap (fun b => if p b = true then some (h b) else none) = (l.filter p).map h := by
        intro l
        induction l with
        | nil => rfl
        | cons c l ih =>
          rw [List.filterMap_cons, List.filter_cons]
          by_cases e : p c = true
          · rw [if_pos e, if_pos e, List.map_cons, ih]
          · rw [if_neg e, if_neg e, ih]
      exact this l
theorem below62' {i : Int} (h : -4611686018427387904 < i ∧ i < 4611686018427387904) : below i 62 = true := below_of (by omega)
theorem below24' {i : Int} (h : 0 ≤ i ∧ i < 16777216) : below i 24 = true := below_of (by omega)
theorem below64' {i : Int} (h : -18446744073709551616 < i ∧ i < 18446744073709551616) : below i 64 = true := below_of (by omega)
theorem below29' {i : Int} (h : 0 ≤ i ∧ i < 536870912) : below i 29 = true := below_of (by omega)
theorem mul_ok {i j : Int} (hi : i.natAbs < 2 ^ 200) (hj : j.natAbs < 2 ^ 200) : pMul (.int i) (.int j) = some (.int (i * j)) := by
  unfold pMul
  have a := lg hi
  have b := lg hj
  exact if_pos (by omega)
theorem div_ok {i j : Int} (h0 : 0 < j) (hj : j < 2 ^ 200) : pDiv (.int i) (.int j) = some (.int (i / j)) := by
  unfold pDiv
  have b := lg (i := j) (by omega)
  exact if_pos ⟨h0, by omega⟩
theorem mod_ok {i j : Int} (h0 : 0 < j) : pMod (.int i) (.int j) = some (.int (i % j)) := if_pos h0
theorem pow_ok {i : Int} {j : Nat} (hi : -18446744073709551616 < i ∧ i < 18446744073709551616) (hj : j ≤ 1000000) : pPow (.int i) (.int (j : Int)) = some (.int (i ^ j)) := by
  have e : (if 0 ≤ (j : Int) ∧ (j : Int) ≤ 1000000 ∧ below i 64 = true then some (AV.int (i ^ (j : Int).toNat)) else none) = some (.int (i ^ j)) := by
    rw [if_pos ⟨by omega, by omega, below64' hi⟩, Int.toNat_natCast]
  exact e
theorem take_ok {b : Int} (h1 : 1 ≤ b) (h2 : b < 18446744073709551616) : fDraw [.box, .int b] = T.draw b.toNat fun r => T.ret (AV.int (r : Int)) := by
  unfold fDraw
  exact if_pos ⟨h1, below64' (by omega)⟩
theorem al_rd {α : Type} {m : T α} {P : α → Prop} {E : Nat → List AV → Prop} (m' : T α) (h : m.bind .ret = m') (k : m'.Al P E) : m.Al P E := by
  rw [T.bind_ret] at h
  rw [h]
  exact k
theorem t_eq {α : Type} {m m' : T α} (h : m.bind .ret = m') : m = m' := (T.bind_ret m).symm.trans h
theorem al_nx {R : Env' → Prop} {Q : Out → Prop} {E : Nat → List AV → Prop} {ρ : Env'} (h : R ρ) : (T.ret (Out.nx ρ)).Al (Nx R Q) E := al_retI.mpr h
theorem al_endL {I : Env' → Prop} {Q : Out → Prop} {E : Nat → List AV → Prop} {ρ : Env'} (h : I ρ) : (sNil ρ).Al (LoopQ I Q) E := al_retI.mpr h
theorem al_rtF {R : Env' → Prop} {S : AV → Prop} {E : Nat → List AV → Prop} {t : AV} (h : S t) : (T.ret (Out.rt t)).Al (Nx R (FnQ S)) E := al_retI.mpr h
theorem al_cut {R : Env' → Prop} {Q : Out → Prop} {E : Nat → List AV → Prop} {m : T Out} (I : Env' → Prop) (h : m.Al (Nx I (fun _ => False)) E) (k : ∀ ρ, I ρ → R ρ) : m.Al (Nx R Q) E := by
  refine al_mono h fun o ho => ?_
  cases o with
  | nx ρ => exact k ρ ho
  | _ => exact (show False from ho).elim
def rawV (r : Rw) : AV := .tup [.lst (il r.1), .lst (nl r.2)]
def srtR (r : Rw) : Rw := (Dn.isort r.1, r.2)
def RowOk (n : Nat) (r : Rw) : Prop := (r.2.length = n ∧ r.2.Nodup ∧ ∀ x ∈ r.2, x < n) ∧ r.1.Nodup ∧ ∀ x ∈ r.1, 0 ≤ x ∧ x < (n : Int)
theorem WR.row {n : Nat} {rows : List Rw} (h : WR n rows) {r : Rw} (hr : r ∈ rows) : RowOk n r := ⟨h.mv r hr, h.tn r hr⟩
def SeqIs (t : AV) (xs : List AV) : Prop := t = .lst xs ∨ t = .tup xs
def RowIs (t : AV) (r : Rw) : Prop := ∃ a b, t = .tup [a, b] ∧ SeqIs a (il r.1) ∧ SeqIs b (nl r.2)
theorem al_dr {α : Type} {n : Nat} {g : Nat → T α} {P : α → Prop} {E : Nat → List AV → Prop} (h : ∀ r, r < n → (g r).Al P E) : (T.draw n g).Al P E := al_drawI.mpr h
theorem al_by {α γ : Type} {m : T α} {g : α → T γ} {R : α → Prop} {P : γ → Prop} {E : Nat → List AV → Prop} (h : m.Al R E) (k : ∀ a, R a → (g a).Al P E) : (m.bind g).Al P E := al_bind h k
theorem bind_bad' {α γ : Type} {f : α → T γ} : (T.bad : T α).bind f = .bad := rfl
theorem bind_exc' {α γ : Type} {c : Nat} {xs : List AV} {f : α → T γ} : (T.exc c xs : T α).bind f = .exc c xs := rfl
theorem bind_draw' {α γ : Type} {n : Nat} {k : Nat → T α} {f : α → T γ} : (T.draw n k).bind f = .draw n fun r => (k r).bind f := rfl
theorem lift_none' {α : Type} : lift (none : Option α) = T.bad := rfl
theorem fBin_b {γ : Type} {op : AV → AV → Option AV} {f k : Sem} {a0 : Slot} {l0 : Env'} {g : _ → T γ} : (fBin op f k (a0 :: l0)).bind g = (((f (a0 :: l0)).bind fun p => (k p.2).bind fun q => (lift (rs p.1 q.2)).bind fun a => (lift (rs q.1 q.2)).bind fun b => (lift (op a b)).bind fun z => .ret (.val z, q.2))).bind g := rfl
theorem fUn_b {γ : Type} {op : AV → Option AV} {f : Sem} {a0 : Slot} {l0 : Env'} {g : _ → T γ} : (fUn op f (a0 :: l0)).bind g = (((f (a0 :: l0)).bind fun p => (lift (rs p.1 p.2)).bind fun a => (lift (op a)).bind fun z => .ret (.val z, p.2))).bind g := rfl
theorem fTru_b {γ : Type} {f : Sem} {a0 : Slot} {l0 : Env'} {g : _ → T γ} : (fTru f (a0 :: l0)).bind g = (((f (a0 :: l0)).bind fun p => (lift (rs p.1 p.2)).bind fun a => (lift (tru a)).bind fun b => .ret (b, p.2))).bind g := rfl
theorem fBlT_b {γ : Type} {f : Sem} {a0 : Slot} {l0 : Env'} {g : _ → T γ} : (fBlT f (a0 :: l0)).bind g = (((f (a0 :: l0)).bind fun p => (lift (rs p.1 p.2)).bind fun a => (lift (blOf a)).bind fun b => .ret (b, p.2))).bind g := rfl
theorem fNotT_b {γ : Type} {f : SemB} {a0 : Slot} {l0 : Env'} {g : _ → T γ} : (fNotT f (a0 :: l0)).bind g = (((f (a0 :: l0)).bind fun p => .ret (!p.1, p.2))).bind g := rfl
theorem fOrT_b {γ : Type} {f k : SemB} {a0 : Slot} {l0 : Env'} {g : _ → T γ} : (fOrT f k (a0 :: l0)).bind g = (((f (a0 :: l0)).bind fun p => if p.1 then .ret (true, p.2) else k p.2)).bind g := rfl
theorem fAnd_b {γ : Type} {f k : Sem} {a0 : Slot} {l0 : Env'} {g : _ → T γ} : (fAnd f k (a0 :: l0)).bind g = (((f (a0 :: l0)).bind fun p => (lift (rs p.1 p.2)).bind fun a => (lift (blOf a)).bind fun b => if b then k p.2 else .ret (.val (.bl false), p.2))).bind g := rfl
theorem fNot_b {γ : Type} {f : Sem} {a0 : Slot} {l0 : Env'} {g : _ → T γ} : (fNot f (a0 :: l0)).bind g = (((f (a0 :: l0)).bind fun p => (lift (rs p.1 p.2)).bind fun a => (lift (blOf a)).bind fun b => .ret (.val (.bl (!b)), p.2))).bind g := rfl
theorem fIf_b {γ : Type} {t : SemB} {f k : Sem} {a0 : Slot} {l0 : Env'} {g : _ → T γ} : (fIf t f k (a0 :: l0)).bind g = (((t (a0 :: l0)).bind fun p => if p.1 then f p.2 else k p.2)).bind g := rfl
theorem fChain_b {γ : Type} {o o' : AV → AV → Option AV} {f k l : Sem} {a0 : Slot} {l0 : Env'} {g : _ → T γ} : (fChain o o' f k l (a0 :: l0)).bind g = (((f (a0 :: l0)).bind fun p => (k p.2).bind fun q => (lift (rs p.1 q.2)).bind fun a => (lift (rs q.1 q.2)).bind fun b => (lift (o a b)).bind fun z => (lift (blOf z)).bind fun d =>
  if d then (l q.2).bind fun r => (lift (rs q.1 r.2)).bind fun b' => (lift (rs r.1 r.2)).bind fun c => (lift (o' b' c)).bind fun z => .ret (.val z, r.2) else .ret (.val (.bl false), q.2))).bind g := rfl
theorem lCons_b {γ : Type} {f : Sem} {k : SemL} {a0 : Slot} {l0 : Env'} {g : _ → T γ} : (lCons f k (a0 :: l0)).bind g = (((f (a0 :: l0)).bind fun p => (frz p).bind fun q => (k q.2).bind fun r => .ret (q.1 :: r.1, r.2))).bind g := rfl
theorem fTup_b {γ : Type} {k : SemL} {a0 : Slot} {l0 : Env'} {g : _ → T γ} : (fTup k (a0 :: l0)).bind g = (((k (a0 :: l0)).bind fun p => if p.1.length ≤ big then .ret (.val (.tup p.1), p.2) else .bad)).bind g := rfl
theorem fSl_b {γ : Type} {f : Sem} {l h : Option Sem} {a0 : Slot} {l0 : Env'} {g : _ → T γ} : (fSl f l h (a0 :: l0)).bind g = (((f (a0 :: l0)).bind fun p => (fPart l p.2).bind fun q => (fPart h q.2).bind fun r => (lift (rs p.1 r.2)).bind fun a => (lift (pCut a q.1 r.1)).bind fun z => .ret (.val z, r.2))).bind g := rfl
theorem fCall_b {γ : Type} {fn : List AV → T AV} {dts : List AV} {k : SemL} {a0 : Slot} {l0 : Env'} {g : _ → T γ} : (fCall fn dts k (a0 :: l0)).bind g = (((k (a0 :: l0)).bind fun p => (fn (p.1 ++ dts)).bind fun t => .ret (.val t, p.2))).bind g := rfl
theorem fMeth_b {γ : Type} {c : Nat} {fn : List AV → T AV} {dts : List AV} {f : Sem} {k : SemL} {a0 : Slot} {l0 : Env'} {g : _ → T γ} : (fMeth c fn dts f k (a0 :: l0)).bind g = (((f (a0 :: l0)).bind fun q => (frz q).bind fun s => match s.1 with
  | .ins c' xs => if c' = c then (k s.2).bind fun p => (fn (.ins c' xs :: (p.1 ++ dts))).bind fun t => .ret (.val t, p.2) else .bad
  | _ => .bad)).bind g := rfl
theorem sSeq_b {γ : Type} {f k : SSem} {a0 : Slot} {l0 : Env'} {g : _ → T γ} : (sSeq f k (a0 :: l0)).bind g = (((f (a0 :: l0)).bind fun
  | .nx ρ' => k ρ'
  | o => .ret o)).bind g := rfl
theorem sExpr_b {γ : Type} {f : Sem} {a0 : Slot} {l0 : Env'} {g : _ → T γ} : (sExpr f (a0 :: l0)).bind g = (((f (a0 :: l0)).bind fun p => .ret (.nx p.2))).bind g := rfl
theorem sRet_b {γ : Type} {f : Sem} {a0 : Slot} {l0 : Env'} {g : _ → T γ} : (sRet f (a0 :: l0)).bind g = (((f (a0 :: l0)).bind fun p => (frz p).bind fun q => .ret (.rt q.1))).bind g := rfl
theorem sIf_b {γ : Type} {t : SemB} {f k : SSem} {a0 : Slot} {l0 : Env'} {g : _ → T γ} : (sIf t f k (a0 :: l0)).bind g = (((t (a0 :: l0)).bind fun p => if p.1 then f p.2 else k p.2)).bind g := rfl
theorem sSet_b {γ : Type} {i : Nat} {f : Sem} {a0 : Slot} {l0 : Env'} {g : _ → T γ} : (sSet i f (a0 :: l0)).bind g = (((f (a0 :: l0)).bind fun p => (frz p).bind fun q => .ret (.nx (q.2.set i (.fro q.1))))).bind g := rfl
theorem sAsg_b {γ : Type} {f : Sem} {k : GSem} {a0 : Slot} {l0 : Env'} {g : _ → T γ} : (sAsg f k (a0 :: l0)).bind g = (((f (a0 :: l0)).bind fun p => (frz p).bind fun q => (k q.1 q.2).bind fun ρ' => .ret (.nx ρ'))).bind g := rfl
theorem iSeq_b {γ : Type} {f : Sem} {a0 : Slot} {l0 : Env'} {g : _ → T γ} : (iSeq f (a0 :: l0)).bind g = (((f (a0 :: l0)).bind fun p => (frz p).bind fun q => (lift (seqOf q.1)).bind fun xs => .ret (xs, q.2))).bind g := rfl
theorem iRange1_b {γ : Type} {f : Sem} {a0 : Slot} {l0 : Env'} {g : _ → T γ} : (iRange1 f (a0 :: l0)).bind g = (((f (a0 :: l0)).bind fun p => (lift (rs p.1 p.2)).bind fun a => (lift (intOf a)).bind fun j => if below j 62 = true then .ret (rangeL 0 j.toNat, p.2) else .bad)).bind g := rfl
theorem sFor_b {γ : Type} {it : SemI} {k : GSem} {body : SSem} {a0 : Slot} {l0 : Env'} {g : _ → T γ} : (sFor it k body (a0 :: l0)).bind g = (((it (a0 :: l0)).bind fun p => forL k body p.1 p.2)).bind g := rfl
theorem fNew_b {γ : Type} {f : SemN} {a0 : Slot} {l0 : Env'} {g : _ → T γ} : (fNew f (a0 :: l0)).bind g = (((f (a0 :: l0)).bind fun p => .ret (.val (.lst p.1), p.2))).bind g := rfl
theorem sSetN_b {γ : Type} {i : Nat} {f : SemN} {a0 : Slot} {l0 : Env'} {g : _ → T γ} : (sSetN i f (a0 :: l0)).bind g = (((f (a0 :: l0)).bind fun p => .ret (.nx (p.2.set i (.ml p.1))))).bind g := rfl
theorem nLst_b {γ : Type} {k : SemL} {a0 : Slot} {l0 : Env'} {g : _ → T γ} : (nLst k (a0 :: l0)).bind g = (((k (a0 :: l0)).bind fun p => if p.1.length ≤ big then .ret (p.1, p.2) else .bad)).bind g := rfl
theorem nList_b {γ : Type} {f : Sem} {a0 : Slot} {l0 : Env'} {g : _ → T γ} : (nList f (a0 :: l0)).bind g = (((f (a0 :: l0)).bind fun p => (lift (rs p.1 p.2)).bind fun a => (lift (seqOf a)).bind fun xs => .ret (xs, p.2))).bind g := rfl
theorem fAppend_b {γ : Type} {j : Nat} {f : Sem} {a0 : Slot} {l0 : Env'} {g : _ → T γ} : (fAppend j f (a0 :: l0)).bind g = (((lift (isMl (a0 :: l0) j)).bind fun _ => (f (a0 :: l0)).bind fun p => (frz p).bind fun q => (lift (isMl q.2 j)).bind fun xs => if xs.length < big then .ret (.val .non, q.2.set j (.ml (xs ++ [q.1]))) else .bad)).bind g := rfl
theorem fPopAt_b {γ : Type} {j : Nat} {f : Sem} {a0 : Slot} {l0 : Env'} {g : _ → T γ} : (fPopAt j f (a0 :: l0)).bind g = (((lift (isMl (a0 :: l0) j)).bind fun _ => (f (a0 :: l0)).bind fun p => (lift (rs p.1 p.2)).bind fun a => (lift (intOf a)).bind fun i => (lift (isMl p.2 j)).bind fun xs => if 0 ≤ i ∧ below i 62 = true then (lift xs[i.toNat]?).bind fun t => .ret (.val t, p.2.set j (.ml (xs.eraseIdx i.toNat))) else .bad)).bind g := rfl
theorem nLc_b {γ : Type} {vs : List Nat} {it : SemI} {k : GSem} {tt : SemB} {el : Sem} {a0 : Slot} {l0 : Env'} {g : _ → T γ} : (nLc vs it k tt el (a0 :: l0)).bind g = (((it (a0 :: l0)).bind fun p => if p.1.length < big then (lcL vs k tt el p.1 [] p.2).bind fun r => .ret (r.1, backE p.2 r.2 vs) else .bad)).bind g := rfl
theorem sPar_b {γ : Type} {i j : Nat} {m : SemL} {a0 : Slot} {l0 : Env'} {g : _ → T γ} : (sPar i j m (a0 :: l0)).bind g = (((m (a0 :: l0)).bind fun p => match p.1 with
  | [t, u] => .ret (.nx ((p.2.set i (.fro t)).set j (.fro u)))
  | _ => .bad)).bind g := rfl
theorem sParN_b {γ : Type} {i j : Nat} {f : SemN} {a0 : Slot} {l0 : Env'} {g : _ → T γ} : (sParN i j f (a0 :: l0)).bind g = (((f (a0 :: l0)).bind fun q => if i < q.2.length ∧ j < q.2.length then .ret (.nx ((q.2.set i (.ml q.1)).set j (.ml []))) else .bad)).bind g := rfl
theorem sFldSet_b {γ : Type} {j c i : Nat} {f : Sem} {a0 : Slot} {l0 : Env'} {g : _ → T γ} : (sFldSet j c i f (a0 :: l0)).bind g = (((f (a0 :: l0)).bind fun p => (frz p).bind fun q => match q.2[j]? with
  | some (.slf c' fs) => if c' = c ∧ fs.length = i then .ret (.nx (q.2.set j (.slf c (fs ++ [q.1])))) else .bad
  | _ => .bad)).bind g := rfl
theorem fMake_b {γ : Type} {fn : List AV → T AV} {k : SemL} {a0 : Slot} {l0 : Env'} {g : _ → T γ} : (fMake fn k (a0 :: l0)).bind g = (((k (a0 :: l0)).bind fun p => (fn p.1).bind fun t => .ret (.val t, p.2))).bind g := rfl
theorem iEnum_b {γ : Type} {f : Sem} {a0 : Slot} {l0 : Env'} {g : _ → T γ} : (Dn.iEnum f (a0 :: l0)).bind g = (((f (a0 :: l0)).bind fun p => (frz p).bind fun q => (lift (seqOf q.1)).bind fun xs => .ret (enumL 0 xs, q.2))).bind g := rfl
theorem nLc2_b {γ : Type} {vs vs1 : List Nat} {it : SemI} {k : GSem} {tt : SemB} {it1 : SemI} {k1 : GSem} {tt1 : SemB} {el : Sem} {a0 : Slot} {l0 : Env'} {g : _ → T γ} : (nLc2 vs vs1 it k tt it1 k1 tt1 el (a0 :: l0)).bind g = (((it (a0 :: l0)).bind fun p => (lcL2 vs vs1 k tt it1 k1 tt1 el p.1 [] p.2).bind fun r => .ret (r.1, backE p.2 r.2 vs))).bind g := rfl
def lenK (c : Nat) (fn : List AV → T AV) (t : AV) (ρ : Env') : T (Hd × Env') := match t with
  | .ins c' xs => if c' = c then (fn [.ins c' xs]).bind fun t => (lift (intU t)).bind fun i => .ret (.val (.int i), ρ) else .bad
  | _ => .bad
theorem lenK_b {γ : Type} {c : Nat} {fn : List AV → T AV} {f : Sem} {a0 : Slot} {l0 : Env'} {g : Hd × Env' → T γ} : (fLenOwn c fn f (a0 :: l0)).bind g = ((f (a0 :: l0)).bind fun q => (frz q).bind fun s => lenK c fn s.1 s.2).bind g := rfl
theorem fC_b {γ : Type} {t : AV} {ρ : Env'} {g : Hd × Env' → T γ} : (fC t ρ).bind g = g (.val t, ρ) := rfl
theorem lNil_b {γ : Type} {ρ : Env'} {g : List AV × Env' → T γ} : (lNil ρ).bind g = g ([], ρ) := rfl
theorem sNil_b {γ : Type} {ρ : Env'} {g : Out → T γ} : (sNil ρ).bind g = g (.nx ρ) := rfl
theorem sBad_b {γ : Type} {ρ : Env'} {g : Out → T γ} : (sBad ρ).bind g = .bad := rfl
theorem fYes_b {γ : Type} {ρ : Env'} {g : Bool × Env' → T γ} : (fYes ρ).bind g = g (true, ρ) := rfl
theorem tgName_b {γ : Type} {i : Nat} {t : AV} {a0 : Slot} {l0 : Env'} {g : Env' → T γ} : (tgName i t (a0 :: l0)).bind g = g ((a0 :: l0).set i (.fro t)) := rfl
theorem tgNil_b {γ : Type} {ρ : Env'} {g : Env' → T γ} : (tgNil [] ρ).bind g = g ρ := rfl
theorem tgCons_b {γ : Type} {f : GSem} {k : List AV → Env' → T Env'} {t : AV} {r : List AV} {a0 : Slot} {l0 : Env'} {g : Env' → T γ} : (tgCons f k (t :: r) (a0 :: l0)).bind g = ((f t (a0 :: l0)).bind fun ρ' => k r ρ').bind g := rfl
theorem tgTup_b {γ : Type} {n : Nat} {k : List AV → Env' → T Env'} {xs : List AV} {ρ : Env'} {g : Env' → T γ} : (tgTup n k (.tup xs) ρ).bind g = (if xs.length = n then k xs ρ else .bad).bind g := rfl
theorem fPart_n {γ : Type} {ρ : Env'} {g : Option Int × Env' → T γ} : (fPart none ρ).bind g = g (none, ρ) := rfl
theorem fPart_s {γ : Type} {f : Sem} {a0 : Slot} {l0 : Env'} {g : Option Int × Env' → T γ} : (fPart (some f) (a0 :: l0)).bind g = ((f (a0 :: l0)).bind fun p => (lift (rs p.1 p.2)).bind fun a => (lift (intOf a)).bind fun i => .ret (some i, p.2)).bind g := rfl
theorem frz_val {γ : Type} {t : AV} {ρ : Env'} {g : AV × Env' → T γ} : (frz (.val t, ρ)).bind g = g (t, ρ) := rfl
theorem lrs_val {γ : Type} {t : AV} {ρ : Env'} {g : AV → T γ} : (lift (rs (.val t) ρ)).bind g = g t := rfl
theorem rs_val {t : AV} {ρ : Env'} : rs (.val t) ρ = some t := rfl
theorem liftS_b {α γ : Type} {a : α} {g : α → T γ} : (lift (some a)).bind g = g a := rfl
theorem liftN_b {α γ : Type} {g : α → T γ} : (lift (none : Option α)).bind g = .bad := rfl
theorem lcRun_b {γ : Type} {k : GSem} {tt : SemB} {el : Sem} {x : AV} {a0 : Slot} {l0 : Env'} {g : Option AV × Env' → T γ} : (lcRun k tt el x (a0 :: l0)).bind g = ((k x (a0 :: l0)).bind fun ρ1 => (tt ρ1).bind fun p => if p.1 = true then (el p.2).bind fun q => (frz q).bind fun s => .ret (some s.1, s.2) else .ret (none, p.2)).bind g := rfl
theorem outV_rt {t : AV} : outV (.rt t) = .ret t := rfl
theorem outV_nx {ρ : Env'} : outV (.nx ρ) = .ret .non := rfl
theorem backE_n {ρ0 ρ : Env'} : backE ρ0 ρ [] = ρ := rfl
theorem backE_u {a0 b0 : Slot} {l0 m0 : Env'} {v : Nat} {vs : List Nat} : backE (a0 :: l0) (b0 :: m0) (v :: vs) = (backE (a0 :: l0) (b0 :: m0) vs).set v (froOf (a0 :: l0)[v]?) := rfl
theorem wipeE_n {ρ : Env'} : wipeE ρ [] = ρ := rfl
theorem wipeE_u {a0 : Slot} {l0 : Env'} {v : Nat} {vs : List Nat} : wipeE (a0 :: l0) (v :: vs) = (wipeE (a0 :: l0) vs).set v .un := rfl
theorem froOf_f {t : AV} : froOf (some (.fro t)) = .fro t := rfl
theorem froOf_u : froOf (some .un) = .un := rfl
theorem seqOf_t {xs : List AV} : seqOf (.tup xs) = some xs := rfl
theorem seqOf_l {xs : List AV} : seqOf (.lst xs) = some xs := rfl
theorem lstOf_l {xs : List AV} : lstOf (.lst xs) = some xs := rfl
theorem intOf_i {i : Int} : intOf (.int i) = some i := rfl
theorem blOf_b {b : Bool} : blOf (.bl b) = some b := rfl
theorem tru_n : tru .non = some false := rfl
theorem tru_b {b : Bool} : tru (.bl b) = some b := rfl
theorem tru_i {i : Int} : tru (.int i) = some (i != 0) := rfl
theorem tru_t {xs : List AV} : tru (.tup xs) = some (!xs.isEmpty) := rfl
theorem tru_l {xs : List AV} : tru (.lst xs) = some (!xs.isEmpty) := rfl
theorem pLen_t {xs : List AV} : pLen (.tup xs) = some (.int xs.length) := rfl
theorem pLen_l {xs : List AV} : pLen (.lst xs) = some (.int xs.length) := rfl
theorem pLen_s {xs : List Int} : pLen (.scr xs) = some (.int xs.length) := rfl
theorem pInt_i {i : Int} : pInt (.int i) = some (.int i) := rfl
theorem pInt_b {b : Bool} : pInt (.bl b) = some (.int (if b then 1 else 0)) := rfl
theorem pAbs_i {i : Int} : pAbs (.int i) = some (.int (if i < 0 then -i else i)) := rfl
theorem pTuple_t {xs : List AV} : pTuple (.tup xs) = some (.tup xs) := rfl
theorem pTuple_l {xs : List AV} : pTuple (.lst xs) = some (.tup xs) := rfl
theorem pAdd_i {i j : Int} : pAdd (.int i) (.int j) = some (.int (i + j)) := rfl
theorem pAdd_t {xs ys : List AV} : pAdd (.tup xs) (.tup ys) = if xs.length + ys.length ≤ big then some (.tup (xs ++ ys)) else none := rfl
theorem pAdd_l {xs ys : List AV} : pAdd (.lst xs) (.lst ys) = if xs.length + ys.length ≤ big then some (.lst (xs ++ ys)) else none := rfl
theorem pSub_i {i j : Int} : pSub (.int i) (.int j) = some (.int (i - j)) := rfl
theorem pLt_i {i j : Int} : pLt (.int i) (.int j) = some (.bl (decide (i < j))) := rfl
theorem pLe_i {i j : Int} : pLe (.int i) (.int j) = some (.bl (decide (i ≤ j))) := rfl
theorem pGt_i {i j : Int} : pGt (.int i) (.int j) = some (.bl (decide (j < i))) := rfl
theorem pGe_i {i j : Int} : pGe (.int i) (.int j) = some (.bl (decide (j ≤ i))) := rfl
theorem pMax2_i {i j : Int} : pMax2 (.int i) (.int j) = some (.int (if j > i then j else i)) := rfl
theorem pMin2_i {i j : Int} : pMin2 (.int i) (.int j) = some (.int (if j < i then j else i)) := rfl
theorem pIx_t {xs : List AV} {i : Int} : pIx (.tup xs) (.int i) = atI xs i := rfl
theorem pIx_l {xs : List AV} {i : Int} : pIx (.lst xs) (.int i) = atI xs i := rfl
theorem pFld_i {c i : Nat} {xs : List AV} : pFld c i (.ins c xs) = xs[i]? := by
  show (if c = c then xs[i]? else none) = _
  exact if_pos rfl
theorem pIs_nn : pIs .non .non = some (.bl true) := rfl
theorem pIs_in {i : Int} : pIs (.int i) .non = some (.bl false) := rfl
theorem pIs_tn {xs : List AV} : pIs (.tup xs) .non = some (.bl false) := rfl
theorem pIs_ln {xs : List AV} : pIs (.lst xs) .non = some (.bl false) := rfl
theorem pIs_bn {b : Bool} : pIs (.bl b) .non = some (.bl false) := rfl
theorem pIs_bb {j k : Bool} : pIs (.bl j) (.bl k) = some (.bl (decide (j = k))) := rfl
theorem pNotIs_nn : pNotIs .non .non = some (.bl false) := rfl
theorem pNotIs_in {i : Int} : pNotIs (.int i) .non = some (.bl true) := rfl
theorem pNotIs_tn {xs : List AV} : pNotIs (.tup xs) .non = some (.bl true) := rfl
theorem pNotIs_ln {xs : List AV} : pNotIs (.lst xs) .non = some (.bl true) := rfl
theorem pNotIs_bn {b : Bool} : pNotIs (.bl b) .non = some (.bl true) := rfl
theorem pNotIs_bb {j k : Bool} : pNotIs (.bl j) (.bl k) = some (.bl (!decide (j = k))) := rfl
theorem pCut_t {xs : List AV} {lo hi : Option Int} : pCut (.tup xs) lo hi = some (.tup (cutA xs lo hi)) := rfl
theorem pCut_l {xs : List AV} {lo hi : Option Int} : pCut (.lst xs) lo hi = some (.lst (cutA xs lo hi)) := rfl
theorem atI_0 {x : AV} {xs : List AV} : atI (x :: xs) 0 = some x := atI_nat' (xs := x :: xs) (i := 0) (by simp)
theorem atI_1 {x y : AV} {xs : List AV} : atI (x :: y :: xs) 1 = some y := atI_nat' (xs := x :: y :: xs) (i := 1) (by simp)
theorem atI_2 {x y z : AV} {xs : List AV} : atI (x :: y :: z :: xs) 2 = some z := atI_nat' (xs := x :: y :: z :: xs) (i := 2) (by simp)
theorem atI_3 {x y z u : AV} {xs : List AV} : atI (x :: y :: z :: u :: xs) 3 = some u := atI_nat' (xs := x :: y :: z :: u :: xs) (i := 3) (by simp)
theorem lg0 {α : Type} {x : α} {xs : List α} : (x :: xs)[0]? = some x := rfl
theorem lg1 {α : Type} {x y : α} {xs : List α} : (x :: y :: xs)[1]? = some y := rfl
theorem lg2 {α : Type} {x y z : α} {xs : List α} : (x :: y :: z :: xs)[2]? = some z := rfl
theorem lg3 {α : Type} {x y z u : α} {xs : List α} : (x :: y :: z :: u :: xs)[3]? = some u := rfl
theorem isi_bl_int {b : Bool} : pIsi "int" (.bl b) = some (.bl true) := by simp [pIsi, tyName, subTy]
theorem isi_bl_bool {b : Bool} : pIsi "bool" (.bl b) = some (.bl true) := by simp [pIsi, tyName, subTy]
theorem isi_bl_tuple {b : Bool} : pIsi "tuple" (.bl b) = some (.bl false) := by simp [pIsi, tyName, subTy]
theorem isi2_bl {b : Bool} : pIsi2 "list" "tuple" (.bl b) = some (.bl false) := by simp [pIsi2, tyName, subTy]
theorem isi_int_int {i : Int} : pIsi "int" (.int i) = some (.bl true) := by simp [pIsi, tyName, subTy]
theorem isi_int_bool {i : Int} : pIsi "bool" (.int i) = some (.bl false) := by simp [pIsi, tyName, subTy]
theorem isi_int_tuple {i : Int} : pIsi "tuple" (.int i) = some (.bl false) := by simp [pIsi, tyName, subTy]
theorem isi2_int {i : Int} : pIsi2 "list" "tuple" (.int i) = some (.bl false) := by simp [pIsi2, tyName, subTy]
theorem isi_str_int {s : Str} : pIsi "int" (.str s) = some (.bl false) := by simp [pIsi, tyName, subTy]
theorem isi_str_bool {s : Str} : pIsi "bool" (.str s) = some (.bl false) := by simp [pIsi, tyName, subTy]
theorem isi_str_tuple {s : Str} : pIsi "tuple" (.str s) = some (.bl false) := by simp [pIsi, tyName, subTy]
theorem isi2_str {s : Str} : pIsi2 "list" "tuple" (.str s) = some (.bl false) := by simp [pIsi2, tyName, subTy]
theorem isi_tup_int {xs : List AV} : pIsi "int" (.tup xs) = some (.bl false) := by simp [pIsi, tyName, subTy]
theorem isi_tup_bool {xs : List AV} : pIsi "bool" (.tup xs) = some (.bl false) := by simp [pIsi, tyName, subTy]
theorem isi_tup_tuple {xs : List AV} : pIsi "tuple" (.tup xs) = some (.bl true) := by simp [pIsi, tyName, subTy]
theorem isi2_tup {xs : List AV} : pIsi2 "list" "tuple" (.tup xs) = some (.bl true) := by simp [pIsi2, tyName, subTy]
theorem isi_lst_int {xs : List AV} : pIsi "int" (.lst xs) = some (.bl false) := by simp [pIsi, tyName, subTy]
theorem isi_lst_bool {xs : List AV} : pIsi "bool" (.lst xs) = some (.bl false) := by simp [pIsi, tyName, subTy]
theorem isi_lst_tuple {xs : List AV} : pIsi "tuple" (.lst xs) = some (.bl false) := by simp [pIsi, tyName, subTy]
theorem isi2_lst {xs : List AV} : pIsi2 "list" "tuple" (.lst xs) = some (.bl true) := by simp [pIsi2, tyName, subTy]
theorem seqOf_t_b {γ : Type} {xs : List AV} {g : _ → T γ} : (lift (seqOf (.tup xs))).bind g = g xs := by rw [seqOf_t]; rfl
theorem seqOf_l_b {γ : Type} {xs : List AV} {g : _ → T γ} : (lift (seqOf (.lst xs))).bind g = g xs := by rw [seqOf_l]; rfl
theorem lstOf_l_b {γ : Type} {xs : List AV} {g : _ → T γ} : (lift (lstOf (.lst xs))).bind g = g xs := by rw [lstOf_l]; rfl
theorem intOf_i_b {γ : Type} {i : Int} {g : _ → T γ} : (lift (intOf (.int i))).bind g = g i := by rw [intOf_i]; rfl
theorem blOf_b_b {γ : Type} {b : Bool} {g : _ → T γ} : (lift (blOf (.bl b))).bind g = g b := by rw [blOf_b]; rfl
theorem tru_n_b {γ : Type} {g : _ → T γ} : (lift (tru .non)).bind g = g false := by rw [tru_n]; rfl
theorem tru_b_b {γ : Type} {b : Bool} {g : _ → T γ} : (lift (tru (.bl b))).bind g = g b := by rw [tru_b]; rfl
theorem tru_i_b {γ : Type} {i : Int} {g : _ → T γ} : (lift (tru (.int i))).bind g = g (i != 0) := by rw [tru_i]; rfl
theorem tru_t_b {γ : Type} {xs : List AV} {g : _ → T γ} : (lift (tru (.tup xs))).bind g = g (!xs.isEmpty) := by rw [tru_t]; rfl
theorem tru_l_b {γ : Type} {xs : List AV} {g : _ → T γ} : (lift (tru (.lst xs))).bind g = g (!xs.isEmpty) := by rw [tru_l]; rfl
theorem pLen_t_b {γ : Type} {xs : List AV} {g : _ → T γ} : (lift (pLen (.tup xs))).bind g = g (.int xs.length) := by rw [pLen_t]; rfl
theorem pLen_l_b {γ : Type} {xs : List AV} {g : _ → T γ} : (lift (pLen (.lst xs))).bind g = g (.int xs.length) := by rw [pLen_l]; rfl
theorem pLen_s_b {γ : Type} {xs : List Int} {g : _ → T γ} : (lift (pLen (.scr xs))).bind g = g (.int xs.length) := by rw [pLen_s]; rfl
theorem pInt_i_b {γ : Type} {i : Int} {g : _ → T γ} : (lift (pInt (.int i))).bind g = g (.int i) := by rw [pInt_i]; rfl
theorem pInt_b_b {γ : Type} {b : Bool} {g : _ → T γ} : (lift (pInt (.bl b))).bind g = g (.int (if b then 1 else 0)) := by rw [pInt_b]; rfl
theorem pAbs_i_b {γ : Type} {i : Int} {g : _ → T γ} : (lift (pAbs (.int i))).bind g = g (.int (if i < 0 then -i else i)) := by rw [pAbs_i]; rfl
theorem pTuple_t_b {γ : Type} {xs : List AV} {g : _ → T γ} : (lift (pTuple (.tup xs))).bind g = g (.tup xs) := by rw [pTuple_t]; rfl
theorem pTuple_l_b {γ : Type} {xs : List AV} {g : _ → T γ} : (lift (pTuple (.lst xs))).bind g = g (.tup xs) := by rw [pTuple_l]; rfl
theorem pAdd_i_b {γ : Type} {i j : Int} {g : _ → T γ} : (lift (pAdd (.int i) (.int j))).bind g = g (.int (i + j)) := by rw [pAdd_i]; rfl
theorem pSub_i_b {γ : Type} {i j : Int} {g : _ → T γ} : (lift (pSub (.int i) (.int j))).bind g = g (.int (i - j)) := by rw [pSub_i]; rfl
theorem pLt_i_b {γ : Type} {i j : Int} {g : _ → T γ} : (lift (pLt (.int i) (.int j))).bind g = g (.bl (decide (i < j))) := by rw [pLt_i]; rfl
theorem pLe_i_b {γ : Type} {i j : Int} {g : _ → T γ} : (lift (pLe (.int i) (.int j))).bind g = g (.bl (decide (i ≤ j))) := by rw [pLe_i]; rfl
theorem pGt_i_b {γ : Type} {i j : Int} {g : _ → T γ} : (lift (pGt (.int i) (.int j))).bind g = g (.bl (decide (j < i))) := by rw [pGt_i]; rfl
theorem pGe_i_b {γ : Type} {i j : Int} {g : _ → T γ} : (lift (pGe (.int i) (.int j))).bind g = g (.bl (decide (j ≤ i))) := by rw [pGe_i]; rfl
theorem pMax2_i_b {γ : Type} {i j : Int} {g : _ → T γ} : (lift (pMax2 (.int i) (.int j))).bind g = g (.int (if j > i then j else i)) := by rw [pMax2_i]; rfl
theorem pMin2_i_b {γ : Type} {i j : Int} {g : _ → T γ} : (lift (pMin2 (.int i) (.int j))).bind g = g (.int (if j < i then j else i)) := by rw [pMin2_i]; rfl
theorem pIs_nn_b {γ : Type} {g : _ → T γ} : (lift (pIs .non .non)).bind g = g (.bl true) := by rw [pIs_nn]; rfl
theorem pIs_in_b {γ : Type} {i : Int} {g : _ → T γ} : (lift (pIs (.int i) .non)).bind g = g (.bl false) := by rw [pIs_in]; rfl
theorem pIs_tn_b {γ : Type} {xs : List AV} {g : _ → T γ} : (lift (pIs (.tup xs) .non)).bind g = g (.bl false) := by rw [pIs_tn]; rfl
theorem pIs_ln_b {γ : Type} {xs : List AV} {g : _ → T γ} : (lift (pIs (.lst xs) .non)).bind g = g (.bl false) := by rw [pIs_ln]; rfl
theorem pIs_bn_b {γ : Type} {b : Bool} {g : _ → T γ} : (lift (pIs (.bl b) .non)).bind g = g (.bl false) := by rw [pIs_bn]; rfl
theorem pIs_bb_b {γ : Type} {j k : Bool} {g : _ → T γ} : (lift (pIs (.bl j) (.bl k))).bind g = g (.bl (decide (j = k))) := by rw [pIs_bb]; rfl
theorem pNotIs_nn_b {γ : Type} {g : _ → T γ} : (lift (pNotIs .non .non)).bind g = g (.bl false) := by rw [pNotIs_nn]; rfl
theorem pNotIs_in_b {γ : Type} {i : Int} {g : _ → T γ} : (lift (pNotIs (.int i) .non)).bind g = g (.bl true) := by rw [pNotIs_in]; rfl
theorem pNotIs_tn_b {γ : Type} {xs : List AV} {g : _ → T γ} : (lift (pNotIs (.tup xs) .non)).bind g = g (.bl true) := by rw [pNotIs_tn]; rfl
theorem pNotIs_ln_b {γ : Type} {xs : List AV} {g : _ → T γ} : (lift (pNotIs (.lst xs) .non)).bind g = g (.bl true) := by rw [pNotIs_ln]; rfl
theorem pNotIs_bn_b {γ : Type} {b : Bool} {g : _ → T γ} : (lift (pNotIs (.bl b) .non)).bind g = g (.bl true) := by rw [pNotIs_bn]; rfl
theorem pNotIs_bb_b {γ : Type} {j k : Bool} {g : _ → T γ} : (lift (pNotIs (.bl j) (.bl k))).bind g = g (.bl (!decide (j = k))) := by rw [pNotIs_bb]; rfl
theorem pCut_t_b {γ : Type} {xs : List AV} {lo hi : Option Int} {g : _ → T γ} : (lift (pCut (.tup xs) lo hi)).bind g = g (.tup (cutA xs lo hi)) := by rw [pCut_t]; rfl
theorem pCut_l_b {γ : Type} {xs : List AV} {lo hi : Option Int} {g : _ → T γ} : (lift (pCut (.lst xs) lo hi)).bind g = g (.lst (cutA xs lo hi)) := by rw [pCut_l]; rfl
theorem atI_0_b {γ : Type} {x : AV} {xs : List AV} {g : _ → T γ} : (lift (atI (x :: xs) 0)).bind g = g x := by rw [atI_0]; rfl
theorem atI_1_b {γ : Type} {x y : AV} {xs : List AV} {g : _ → T γ} : (lift (atI (x :: y :: xs) 1)).bind g = g y := by rw [atI_1]; rfl
theorem atI_2_b {γ : Type} {x y z : AV} {xs : List AV} {g : _ → T γ} : (lift (atI (x :: y :: z :: xs) 2)).bind g = g z := by rw [atI_2]; rfl
theorem atI_3_b {γ : Type} {x y z u : AV} {xs : List AV} {g : _ → T γ} : (lift (atI (x :: y :: z :: u :: xs) 3)).bind g = g u := by rw [atI_3]; rfl
theorem lg0_b {γ : Type} {α : Type} {x : α} {xs : List α} {g : _ → T γ} : (lift ((x :: xs)[0]?)).bind g = g x := by rw [lg0]; rfl
theorem lg1_b {γ : Type} {α : Type} {x y : α} {xs : List α} {g : _ → T γ} : (lift ((x :: y :: xs)[1]?)).bind g = g y := by rw [lg1]; rfl
theorem lg2_b {γ : Type} {α : Type} {x y z : α} {xs : List α} {g : _ → T γ} : (lift ((x :: y :: z :: xs)[2]?)).bind g = g z := by rw [lg2]; rfl
theorem lg3_b {γ : Type} {α : Type} {x y z u : α} {xs : List α} {g : _ → T γ} : (lift ((x :: y :: z :: u :: xs)[3]?)).bind g = g u := by rw [lg3]; rfl
theorem isi_bl_int_b {γ : Type} {b : Bool} {g : _ → T γ} : (lift (pIsi "int" (.bl b))).bind g = g (.bl true) := by rw [isi_bl_int]; rfl
theorem isi_bl_bool_b {γ : Type} {b : Bool} {g : _ → T γ} : (lift (pIsi "bool" (.bl b))).bind g = g (.bl true) := by rw [isi_bl_bool]; rfl
theorem isi_bl_tuple_b {γ : Type} {b : Bool} {g : _ → T γ} : (lift (pIsi "tuple" (.bl b))).bind g = g (.bl false) := by rw [isi_bl_tuple]; rfl
theorem isi2_bl_b {γ : Type} {b : Bool} {g : _ → T γ} : (lift (pIsi2 "list" "tuple" (.bl b))).bind g = g (.bl false) := by rw [isi2_bl]; rfl
theorem isi_int_int_b {γ : Type} {i : Int} {g : _ → T γ} : (lift (pIsi "int" (.int i))).bind g = g (.bl true) := by rw [isi_int_int]; rfl
theorem isi_int_bool_b {γ : Type} {i : Int} {g : _ → T γ} : (lift (pIsi "bool" (.int i))).bind g = g (.bl false) := by rw [isi_int_bool]; rfl
theorem isi_int_tuple_b {γ : Type} {i : Int} {g : _ → T γ} : (lift (pIsi "tuple" (.int i))).bind g = g (.bl false) := by rw [isi_int_tuple]; rfl
theorem isi2_int_b {γ : Type} {i : Int} {g : _ → T γ} : (lift (pIsi2 "list" "tuple" (.int i))).bind g = g (.bl false) := by rw [isi2_int]; rfl
theorem isi_str_int_b {γ : Type} {s : Str} {g : _ → T γ} : (lift (pIsi "int" (.str s))).bind g = g (.bl false) := by rw [isi_str_int]; rfl
theorem isi_str_bool_b {γ : Type} {s : Str} {g : _ → T γ} : (lift (pIsi "bool" (.str s))).bind g = g (.bl false) := by rw [isi_str_bool]; rfl
theorem isi_str_tuple_b {γ : Type} {s : Str} {g : _ → T γ} : (lift (pIsi "tuple" (.str s))).bind g = g (.bl false) := by rw [isi_str_tuple]; rfl
theorem isi2_str_b {γ : Type} {s : Str} {g : _ → T γ} : (lift (pIsi2 "list" "tuple" (.str s))).bind g = g (.bl false) := by rw [isi2_str]; rfl
theorem isi_tup_int_b {γ : Type} {xs : List AV} {g : _ → T γ} : (lift (pIsi "int" (.tup xs))).bind g = g (.bl false) := by rw [isi_tup_int]; rfl
theorem isi_tup_bool_b {γ : Type} {xs : List AV} {g : _ → T γ} : (lift (pIsi "bool" (.tup xs))).bind g = g (.bl false) := by rw [isi_tup_bool]; rfl
theorem isi_tup_tuple_b {γ : Type} {xs : List AV} {g : _ → T γ} : (lift (pIsi "tuple" (.tup xs))).bind g = g (.bl true) := by rw [isi_tup_tuple]; rfl
theorem isi2_tup_b {γ : Type} {xs : List AV} {g : _ → T γ} : (lift (pIsi2 "list" "tuple" (.tup xs))).bind g = g (.bl true) := by rw [isi2_tup]; rfl
theorem isi_lst_int_b {γ : Type} {xs : List AV} {g : _ → T γ} : (lift (pIsi "int" (.lst xs))).bind g = g (.bl false) := by rw [isi_lst_int]; rfl
theorem isi_lst_bool_b {γ : Type} {xs : List AV} {g : _ → T γ} : (lift (pIsi "bool" (.lst xs))).bind g = g (.bl false) := by rw [isi_lst_bool]; rfl
theorem isi_lst_tuple_b {γ : Type} {xs : List AV} {g : _ → T γ} : (lift (pIsi "tuple" (.lst xs))).bind g = g (.bl false) := by rw [isi_lst_tuple]; rfl
theorem isi2_lst_b {γ : Type} {xs : List AV} {g : _ → T γ} : (lift (pIsi2 "list" "tuple" (.lst xs))).bind g = g (.bl true) := by rw [isi2_lst]; rfl
theorem vf0 {γ : Type} {t : AV} {l : Env'} {g : Hd × Env' → T γ} : (fVar 0 (.fro t :: l : Env')).bind g = g (.var 0, (.fro t :: l : Env')) := rfl
theorem rf0 {t : AV} {l : Env'} : rs (.var 0) (.fro t :: l : Env') = some t := rfl
theorem qf0 {γ : Type} {t : AV} {l : Env'} {g : AV → T γ} : (lift (rs (.var 0) (.fro t :: l : Env'))).bind g = g t := rfl
theorem zf0 {γ : Type} {t : AV} {l : Env'} {g : AV × Env' → T γ} : (frz (.var 0, (.fro t :: l : Env'))).bind g = g (t, (.fro t :: l : Env')) := rfl
theorem vm0 {γ : Type} {xs : List AV} {l : Env'} {g : Hd × Env' → T γ} : (fVar 0 (.ml xs :: l : Env')).bind g = g (.var 0, (.ml xs :: l : Env')) := rfl
theorem rm0 {xs : List AV} {l : Env'} : rs (.var 0) (.ml xs :: l : Env') = some (.lst xs) := rfl
theorem qm0 {γ : Type} {xs : List AV} {l : Env'} {g : AV → T γ} : (lift (rs (.var 0) (.ml xs :: l : Env'))).bind g = g (.lst xs) := rfl
theorem zm0 {γ : Type} {xs : List AV} {l : Env'} {g : AV × Env' → T γ} : (frz (.var 0, (.ml xs :: l : Env'))).bind g = g (.lst xs, (.fro (.lst xs) :: l)) := rfl
theorem im0 {γ : Type} {xs : List AV} {l : Env'} {g : List AV → T γ} : (lift (isMl (.ml xs :: l : Env') 0)).bind g = g xs := rfl
theorem vf1 {γ : Type} {s0 : Slot} {t : AV} {l : Env'} {g : Hd × Env' → T γ} : (fVar 1 (s0 :: .fro t :: l : Env')).bind g = g (.var 1, (s0 :: .fro t :: l : Env')) := rfl
theorem rf1 {s0 : Slot} {t : AV} {l : Env'} : rs (.var 1) (s0 :: .fro t :: l : Env') = some t := rfl
theorem qf1 {γ : Type} {s0 : Slot} {t : AV} {l : Env'} {g : AV → T γ} : (lift (rs (.var 1) (s0 :: .fro t :: l : Env'))).bind g = g t := rfl
theorem zf1 {γ : Type} {s0 : Slot} {t : AV} {l : Env'} {g : AV × Env' → T γ} : (frz (.var 1, (s0 :: .fro t :: l : Env'))).bind g = g (t, (s0 :: .fro t :: l : Env')) := rfl
theorem vm1 {γ : Type} {s0 : Slot} {xs : List AV} {l : Env'} {g : Hd × Env' → T γ} : (fVar 1 (s0 :: .ml xs :: l : Env')).bind g = g (.var 1, (s0 :: .ml xs :: l : Env')) := rfl
theorem rm1 {s0 : Slot} {xs : List AV} {l : Env'} : rs (.var 1) (s0 :: .ml xs :: l : Env') = some (.lst xs) := rfl
theorem qm1 {γ : Type} {s0 : Slot} {xs : List AV} {l : Env'} {g : AV → T γ} : (lift (rs (.var 1) (s0 :: .ml xs :: l : Env'))).bind g = g (.lst xs) := rfl
theorem zm1 {γ : Type} {s0 : Slot} {xs : List AV} {l : Env'} {g : AV × Env' → T γ} : (frz (.var 1, (s0 :: .ml xs :: l : Env'))).bind g = g (.lst xs, (s0 :: .fro (.lst xs) :: l)) := rfl
theorem im1 {γ : Type} {s0 : Slot} {xs : List AV} {l : Env'} {g : List AV → T γ} : (lift (isMl (s0 :: .ml xs :: l : Env') 1)).bind g = g xs := rfl
theorem vf2 {γ : Type} {s0 s1 : Slot} {t : AV} {l : Env'} {g : Hd × Env' → T γ} : (fVar 2 (s0 :: s1 :: .fro t :: l : Env')).bind g = g (.var 2, (s0 :: s1 :: .fro t :: l : Env')) := rfl
theorem rf2 {s0 s1 : Slot} {t : AV} {l : Env'} : rs (.var 2) (s0 :: s1 :: .fro t :: l : Env') = some t := rfl
theorem qf2 {γ : Type} {s0 s1 : Slot} {t : AV} {l : Env'} {g : AV → T γ} : (lift (rs (.var 2) (s0 :: s1 :: .fro t :: l : Env'))).bind g = g t := rfl
theorem zf2 {γ : Type} {s0 s1 : Slot} {t : AV} {l : Env'} {g : AV × Env' → T γ} : (frz (.var 2, (s0 :: s1 :: .fro t :: l : Env'))).bind g = g (t, (s0 :: s1 :: .fro t :: l : Env')) := rfl
theorem vm2 {γ : Type} {s0 s1 : Slot} {xs : List AV} {l : Env'} {g : Hd × Env' → T γ} : (fVar 2 (s0 :: s1 :: .ml xs :: l : Env')).bind g = g (.var 2, (s0 :: s1 :: .ml xs :: l : Env')) := rfl
theorem rm2 {s0 s1 : Slot} {xs : List AV} {l : Env'} : rs (.var 2) (s0 :: s1 :: .ml xs :: l : Env') = some (.lst xs) := rfl
theorem qm2 {γ : Type} {s0 s1 : Slot} {xs : List AV} {l : Env'} {g : AV → T γ} : (lift (rs (.var 2) (s0 :: s1 :: .ml xs :: l : Env'))).bind g = g (.lst xs) := rfl
theorem zm2 {γ : Type} {s0 s1 : Slot} {xs : List AV} {l : Env'} {g : AV × Env' → T γ} : (frz (.var 2, (s0 :: s1 :: .ml xs :: l : Env'))).bind g = g (.lst xs, (s0 :: s1 :: .fro (.lst xs) :: l)) := rfl
theorem im2 {γ : Type} {s0 s1 : Slot} {xs : List AV} {l : Env'} {g : List AV → T γ} : (lift (isMl (s0 :: s1 :: .ml xs :: l : Env') 2)).bind g = g xs := rfl
theorem vf3 {γ : Type} {s0 s1 s2 : Slot} {t : AV} {l : Env'} {g : Hd × Env' → T γ} : (fVar 3 (s0 :: s1 :: s2 :: .fro t :: l : Env')).bind g = g (.var 3, (s0 :: s1 :: s2 :: .fro t :: l : Env')) := rfl
theorem rf3 {s0 s1 s2 : Slot} {t : AV} {l : Env'} : rs (.var 3) (s0 :: s1 :: s2 :: .fro t :: l : Env') = some t := rfl
theorem qf3 {γ : Type} {s0 s1 s2 : Slot} {t : AV} {l : Env'} {g : AV → T γ} : (lift (rs (.var 3) (s0 :: s1 :: s2 :: .fro t :: l : Env'))).bind g = g t := rfl
theorem zf3 {γ : Type} {s0 s1 s2 : Slot} {t : AV} {l : Env'} {g : AV × Env' → T γ} : (frz (.var 3, (s0 :: s1 :: s2 :: .fro t :: l : Env'))).bind g = g (t, (s0 :: s1 :: s2 :: .fro t :: l : Env')) := rfl
theorem vm3 {γ : Type} {s0 s1 s2 : Slot} {xs : List AV} {l : Env'} {g : Hd × Env' → T γ} : (fVar 3 (s0 :: s1 :: s2 :: .ml xs :: l : Env')).bind g = g (.var 3, (s0 :: s1 :: s2 :: .ml xs :: l : Env')) := rfl
theorem rm3 {s0 s1 s2 : Slot} {xs : List AV} {l : Env'} : rs (.var 3) (s0 :: s1 :: s2 :: .ml xs :: l : Env') = some (.lst xs) := rfl
theorem qm3 {γ : Type} {s0 s1 s2 : Slot} {xs : List AV} {l : Env'} {g : AV → T γ} : (lift (rs (.var 3) (s0 :: s1 :: s2 :: .ml xs :: l : Env'))).bind g = g (.lst xs) := rfl
theorem zm3 {γ : Type} {s0 s1 s2 : Slot} {xs : List AV} {l : Env'} {g : AV × Env' → T γ} : (frz (.var 3, (s0 :: s1 :: s2 :: .ml xs :: l : Env'))).bind g = g (.lst xs, (s0 :: s1 :: s2 :: .fro (.lst xs) :: l)) := rfl
theorem im3 {γ : Type} {s0 s1 s2 : Slot} {xs : List AV} {l : Env'} {g : List AV → T γ} : (lift (isMl (s0 :: s1 :: s2 :: .ml xs :: l : Env') 3)).bind g = g xs := rfl
theorem vf4 {γ : Type} {s0 s1 s2 s3 : Slot} {t : AV} {l : Env'} {g : Hd × Env' → T γ} : (fVar 4 (s0 :: s1 :: s2 :: s3 :: .fro t :: l : Env')).bind g = g (.var 4, (s0 :: s1 :: s2 :: s3 :: .fro t :: l : Env')) := rfl
theorem rf4 {s0 s1 s2 s3 : Slot} {t : AV} {l : Env'} : rs (.var 4) (s0 :: s1 :: s2 :: s3 :: .fro t :: l : Env') = some t := rfl
theorem qf4 {γ : Type} {s0 s1 s2 s3 : Slot} {t : AV} {l : Env'} {g : AV → T γ} : (lift (rs (.var 4) (s0 :: s1 :: s2 :: s3 :: .fro t :: l : Env'))).bind g = g t := rfl
theorem zf4 {γ : Type} {s0 s1 s2 s3 : Slot} {t : AV} {l : Env'} {g : AV × Env' → T γ} : (frz (.var 4, (s0 :: s1 :: s2 :: s3 :: .fro t :: l : Env'))).bind g = g (t, (s0 :: s1 :: s2 :: s3 :: .fro t :: l : Env')) := rfl
theorem vm4 {γ : Type} {s0 s1 s2 s3 : Slot} {xs : List AV} {l : Env'} {g : Hd × Env' → T γ} : (fVar 4 (s0 :: s1 :: s2 :: s3 :: .ml xs :: l : Env')).bind g = g (.var 4, (s0 :: s1 :: s2 :: s3 :: .ml xs :: l : Env')) := rfl
theorem rm4 {s0 s1 s2 s3 : Slot} {xs : List AV} {l : Env'} : rs (.var 4) (s0 :: s1 :: s2 :: s3 :: .ml xs :: l : Env') = some (.lst xs) := rfl
theorem qm4 {γ : Type} {s0 s1 s2 s3 : Slot} {xs : List AV} {l : Env'} {g : AV → T γ} : (lift (rs (.var 4) (s0 :: s1 :: s2 :: s3 :: .ml xs :: l : Env'))).bind g = g (.lst xs) := rfl
theorem zm4 {γ : Type} {s0 s1 s2 s3 : Slot} {xs : List AV} {l : Env'} {g : AV × Env' → T γ} : (frz (.var 4, (s0 :: s1 :: s2 :: s3 :: .ml xs :: l : Env'))).bind g = g (.lst xs, (s0 :: s1 :: s2 :: s3 :: .fro (.lst xs) :: l)) := rfl
theorem im4 {γ : Type} {s0 s1 s2 s3 : Slot} {xs : List AV} {l : Env'} {g : List AV → T γ} : (lift (isMl (s0 :: s1 :: s2 :: s3 :: .ml xs :: l : Env') 4)).bind g = g xs := rfl
theorem vf5 {γ : Type} {s0 s1 s2 s3 s4 : Slot} {t : AV} {l : Env'} {g : Hd × Env' → T γ} : (fVar 5 (s0 :: s1 :: s2 :: s3 :: s4 :: .fro t :: l : Env')).bind g = g (.var 5, (s0 :: s1 :: s2 :: s3 :: s4 :: .fro t :: l : Env')) := rfl
theorem rf5 {s0 s1 s2 s3 s4 : Slot} {t : AV} {l : Env'} : rs (.var 5) (s0 :: s1 :: s2 :: s3 :: s4 :: .fro t :: l : Env') = some t := rfl
theorem qf5 {γ : Type} {s0 s1 s2 s3 s4 : Slot} {t : AV} {l : Env'} {g : AV → T γ} : (lift (rs (.var 5) (s0 :: s1 :: s2 :: s3 :: s4 :: .fro t :: l : Env'))).bind g = g t := rfl
theorem zf5 {γ : Type} {s0 s1 s2 s3 s4 : Slot} {t : AV} {l : Env'} {g : AV × Env' → T γ} : (frz (.var 5, (s0 :: s1 :: s2 :: s3 :: s4 :: .fro t :: l : Env'))).bind g = g (t, (s0 :: s1 :: s2 :: s3 :: s4 :: .fro t :: l : Env')) := rfl
theorem vm5 {γ : Type} {s0 s1 s2 s3 s4 : Slot} {xs : List AV} {l : Env'} {g : Hd × Env' → T γ} : (fVar 5 (s0 :: s1 :: s2 :: s3 :: s4 :: .ml xs :: l : Env')).bind g = g (.var 5, (s0 :: s1 :: s2 :: s3 :: s4 :: .ml xs :: l : Env')) := rfl
theorem rm5 {s0 s1 s2 s3 s4 : Slot} {xs : List AV} {l : Env'} : rs (.var 5) (s0 :: s1 :: s2 :: s3 :: s4 :: .ml xs :: l : Env') = some (.lst xs) := rfl
theorem qm5 {γ : Type} {s0 s1 s2 s3 s4 : Slot} {xs : List AV} {l : Env'} {g : AV → T γ} : (lift (rs (.var 5) (s0 :: s1 :: s2 :: s3 :: s4 :: .ml xs :: l : Env'))).bind g = g (.lst xs) := rfl
theorem zm5 {γ : Type} {s0 s1 s2 s3 s4 : Slot} {xs : List AV} {l : Env'} {g : AV × Env' → T γ} : (frz (.var 5, (s0 :: s1 :: s2 :: s3 :: s4 :: .ml xs :: l : Env'))).bind g = g (.lst xs, (s0 :: s1 :: s2 :: s3 :: s4 :: .fro (.lst xs) :: l)) := rfl
theorem im5 {γ : Type} {s0 s1 s2 s3 s4 : Slot} {xs : List AV} {l : Env'} {g : List AV → T γ} : (lift (isMl (s0 :: s1 :: s2 :: s3 :: s4 :: .ml xs :: l : Env') 5)).bind g = g xs := rfl
theorem vf6 {γ : Type} {s0 s1 s2 s3 s4 s5 : Slot} {t : AV} {l : Env'} {g : Hd × Env' → T γ} : (fVar 6 (s0 :: s1 :: s2 :: s3 :: s4 :: s5 :: .fro t :: l : Env')).bind g = g (.var 6, (s0 :: s1 :: s2 :: s3 :: s4 :: s5 :: .fro t :: l : Env')) := rfl
theorem rf6 {s0 s1 s2 s3 s4 s5 : Slot} {t : AV} {l : Env'} : rs (.var 6) (s0 :: s1 :: s2 :: s3 :: s4 :: s5 :: .fro t :: l : Env') = some t := rfl
theorem qf6 {γ : Type} {s0 s1 s2 s3 s4 s5 : Slot} {t : AV} {l : Env'} {g : AV → T γ} : (lift (rs (.var 6) (s0 :: s1 :: s2 :: s3 :: s4 :: s5 :: .fro t :: l : Env'))).bind g = g t := rfl
theorem zf6 {γ : Type} {s0 s1 s2 s3 s4 s5 : Slot} {t : AV} {l : Env'} {g : AV × Env' → T γ} : (frz (.var 6, (s0 :: s1 :: s2 :: s3 :: s4 :: s5 :: .fro t :: l : Env'))).bind g = g (t, (s0 :: s1 :: s2 :: s3 :: s4 :: s5 :: .fro t :: l : Env')) := rfl
theorem vm6 {γ : Type} {s0 s1 s2 s3 s4 s5 : Slot} {xs : List AV} {l : Env'} {g : Hd × Env' → T γ} : (fVar 6 (s0 :: s1 :: s2 :: s3 :: s4 :: s5 :: .ml xs :: l : Env')).bind g = g (.var 6, (s0 :: s1 :: s2 :: s3 :: s4 :: s5 :: .ml xs :: l : Env')) := rfl
theorem rm6 {s0 s1 s2 s3 s4 s5 : Slot} {xs : List AV} {l : Env'} : rs (.var 6) (s0 :: s1 :: s2 :: s3 :: s4 :: s5 :: .ml xs :: l : Env') = some (.lst xs) := rfl
theorem qm6 {γ : Type} {s0 s1 s2 s3 s4 s5 : Slot} {xs : List AV} {l : Env'} {g : AV → T γ} : (lift (rs (.var 6) (s0 :: s1 :: s2 :: s3 :: s4 :: s5 :: .ml xs :: l : Env'))).bind g = g (.lst xs) := rfl
theorem zm6 {γ : Type} {s0 s1 s2 s3 s4 s5 : Slot} {xs : List AV} {l : Env'} {g : AV × Env' → T γ} : (frz (.var 6, (s0 :: s1 :: s2 :: s3 :: s4 :: s5 :: .ml xs :: l : Env'))).bind g = g (.lst xs, (s0 :: s1 :: s2 :: s3 :: s4 :: s5 :: .fro (.lst xs) :: l)) := rfl
theorem im6 {γ : Type} {s0 s1 s2 s3 s4 s5 : Slot} {xs : List AV} {l : Env'} {g : List AV → T γ} : (lift (isMl (s0 :: s1 :: s2 :: s3 :: s4 :: s5 :: .ml xs :: l : Env') 6)).bind g = g xs := rfl
theorem vf7 {γ : Type} {s0 s1 s2 s3 s4 s5 s6 : Slot} {t : AV} {l : Env'} {g : Hd × Env' → T γ} : (fVar 7 (s0 :: s1 :: s2 :: s3 :: s4 :: s5 :: s6 :: .fro t :: l : Env')).bind g = g (.var 7, (s0 :: s1 :: s2 :: s3 :: s4 :: s5 :: s6 :: .fro t :: l : Env')) := rfl
theorem rf7 {s0 s1 s2 s3 s4 s5 s6 : Slot} {t : AV} {l : Env'} : rs (.var 7) (s0 :: s1 :: s2 :: s3 :: s4 :: s5 :: s6 :: .fro t :: l : Env') = some t := rfl
theorem qf7 {γ : Type} {s0 s1 s2 s3 s4 s5 s6 : Slot} {t : AV} {l : Env'} {g : AV → T γ} : (lift (rs (.var 7) (s0 :: s1 :: s2 :: s3 :: s4 :: s5 :: s6 :: .fro t :: l : Env'))).bind g = g t := rfl
theorem zf7 {γ : Type} {s0 s1 s2 s3 s4 s5 s6 : Slot} {t : AV} {l : Env'} {g : AV × Env' → T γ} : (frz (.var 7, (s0 :: s1 :: s2 :: s3 :: s4 :: s5 :: s6 :: .fro t :: l : Env'))).bind g = g (t, (s0 :: s1 :: s2 :: s3 :: s4 :: s5 :: s6 :: .fro t :: l : Env')) := rfl
theorem vm7 {γ : Type} {s0 s1 s2 s3 s4 s5 s6 : Slot} {xs : List AV} {l : Env'} {g : Hd × Env' → T γ} : (fVar 7 (s0 :: s1 :: s2 :: s3 :: s4 :: s5 :: s6 :: .ml xs :: l : Env')).bind g = g (.var 7, (s0 :: s1 :: s2 :: s3 :: s4 :: s5 :: s6 :: .ml xs :: l : Env')) := rfl
theorem rm7 {s0 s1 s2 s3 s4 s5 s6 : Slot} {xs : List AV} {l : Env'} : rs (.var 7) (s0 :: s1 :: s2 :: s3 :: s4 :: s5 :: s6 :: .ml xs :: l : Env') = some (.lst xs) := rfl
theorem qm7 {γ : Type} {s0 s1 s2 s3 s4 s5 s6 : Slot} {xs : List AV} {l : Env'} {g : AV → T γ} : (lift (rs (.var 7) (s0 :: s1 :: s2 :: s3 :: s4 :: s5 :: s6 :: .ml xs :: l : Env'))).bind g = g (.lst xs) := rfl
theorem zm7 {γ : Type} {s0 s1 s2 s3 s4 s5 s6 : Slot} {xs : List AV} {l : Env'} {g : AV × Env' → T γ} : (frz (.var 7, (s0 :: s1 :: s2 :: s3 :: s4 :: s5 :: s6 :: .ml xs :: l : Env'))).bind g = g (.lst xs, (s0 :: s1 :: s2 :: s3 :: s4 :: s5 :: s6 :: .fro (.lst xs) :: l)) := rfl
theorem im7 {γ : Type} {s0 s1 s2 s3 s4 s5 s6 : Slot} {xs : List AV} {l : Env'} {g : List AV → T γ} : (lift (isMl (s0 :: s1 :: s2 :: s3 :: s4 :: s5 :: s6 :: .ml xs :: l : Env') 7)).bind g = g xs := rfl
theorem vf8 {γ : Type} {s0 s1 s2 s3 s4 s5 s6 s7 : Slot} {t : AV} {l : Env'} {g : Hd × Env' → T γ} : (fVar 8 (s0 :: s1 :: s2 :: s3 :: s4 :: s5 :: s6 :: s7 :: .fro t :: l : Env')).bind g = g (.var 8, (s0 :: s1 :: s2 :: s3 :: s4 :: s5 :: s6 :: s7 :: .fro t :: l : Env')) := rfl
theorem rf8 {s0 s1 s2 s3 s4 s5 s6 s7 : Slot} {t : AV} {l : Env'} : rs (.var 8) (s0 :: s1 :: s2 :: s3 :: s4 :: s5 :: s6 :: s7 :: .fro t :: l : Env') = some t := rfl
theorem qf8 {γ : Type} {s0 s1 s2 s3 s4 s5 s6 s7 : Slot} {t : AV} {l : Env'} {g : AV → T γ} : (lift (rs (.var 8) (s0 :: s1 :: s2 :: s3 :: s4 :: s5 :: s6 :: s7 :: .fro t :: l : Env'))).bind g = g t := rfl
theorem zf8 {γ : Type} {s0 s1 s2 s3 s4 s5 s6 s7 : Slot} {t : AV} {l : Env'} {g : AV × Env' → T γ} : (frz (.var 8, (s0 :: s1 :: s2 :: s3 :: s4 :: s5 :: s6 :: s7 :: .fro t :: l : Env'))).bind g = g (t, (s0 :: s1 :: s2 :: s3 :: s4 :: s5 :: s6 :: s7 :: .fro t :: l : Env')) := rfl
theorem vm8 {γ : Type} {s0 s1 s2 s3 s4 s5 s6 s7 : Slot} {xs : List AV} {l : Env'} {g : Hd × Env' → T γ} : (fVar 8 (s0 :: s1 :: s2 :: s3 :: s4 :: s5 :: s6 :: s7 :: .ml xs :: l : Env')).bind g = g (.var 8, (s0 :: s1 :: s2 :: s3 :: s4 :: s5 :: s6 :: s7 :: .ml xs :: l : Env')) := rfl
theorem rm8 {s0 s1 s2 s3 s4 s5 s6 s7 : Slot} {xs : List AV} {l : Env'} : rs (.var 8) (s0 :: s1 :: s2 :: s3 :: s4 :: s5 :: s6 :: s7 :: .ml xs :: l : Env') = some (.lst xs) := rfl
theorem qm8 {γ : Type} {s0 s1 s2 s3 s4 s5 s6 s7 : Slot} {xs : List AV} {l : Env'} {g : AV → T γ} : (lift (rs (.var 8) (s0 :: s1 :: s2 :: s3 :: s4 :: s5 :: s6 :: s7 :: .ml xs :: l : Env'))).bind g = g (.lst xs) := rfl
theorem zm8 {γ : Type} {s0 s1 s2 s3 s4 s5 s6 s7 : Slot} {xs : List AV} {l : Env'} {g : AV × Env' → T γ} : (frz (.var 8, (s0 :: s1 :: s2 :: s3 :: s4 :: s5 :: s6 :: s7 :: .ml xs :: l : Env'))).bind g = g (.lst xs, (s0 :: s1 :: s2 :: s3 :: s4 :: s5 :: s6 :: s7 :: .fro (.lst xs) :: l)) := rfl
theorem im8 {γ : Type} {s0 s1 s2 s3 s4 s5 s6 s7 : Slot} {xs : List AV} {l : Env'} {g : List AV → T γ} : (lift (isMl (s0 :: s1 :: s2 :: s3 :: s4 :: s5 :: s6 :: s7 :: .ml xs :: l : Env') 8)).bind g = g xs := rfl
theorem vf9 {γ : Type} {s0 s1 s2 s3 s4 s5 s6 s7 s8 : Slot} {t : AV} {l : Env'} {g : Hd × Env' → T γ} : (fVar 9 (s0 :: s1 :: s2 :: s3 :: s4 :: s5 :: s6 :: s7 :: s8 :: .fro t :: l : Env')).bind g = g (.var 9, (s0 :: s1 :: s2 :: s3 :: s4 :: s5 :: s6 :: s7 :: s8 :: .fro t :: l : Env')) := rfl
theorem rf9 {s0 s1 s2 s3 s4 s5 s6 s7 s8 : Slot} {t : AV} {l : Env'} : rs (.var 9) (s0 :: s1 :: s2 :: s3 :: s4 :: s5 :: s6 :: s7 :: s8 :: .fro t :: l : Env') = some t := rfl
theorem qf9 {γ : Type} {s0 s1 s2 s3 s4 s5 s6 s7 s8 : Slot} {t : AV} {l : Env'} {g : AV → T γ} : (lift (rs (.var 9) (s0 :: s1 :: s2 :: s3 :: s4 :: s5 :: s6 :: s7 :: s8 :: .fro t :: l : Env'))).bind g = g t := rfl
theorem zf9 {γ : Type} {s0 s1 s2 s3 s4 s5 s6 s7 s8 : Slot} {t : AV} {l : Env'} {g : AV × Env' → T γ} : (frz (.var 9, (s0 :: s1 :: s2 :: s3 :: s4 :: s5 :: s6 :: s7 :: s8 :: .fro t :: l : Env'))).bind g = g (t, (s0 :: s1 :: s2 :: s3 :: s4 :: s5 :: s6 :: s7 :: s8 :: .fro t :: l : Env')) := rfl
theorem vm9 {γ : Type} {s0 s1 s2 s3 s4 s5 s6 s7 s8 : Slot} {xs : List AV} {l : Env'} {g : Hd × Env' → T γ} : (fVar 9 (s0 :: s1 :: s2 :: s3 :: s4 :: s5 :: s6 :: s7 :: s8 :: .ml xs :: l : Env')).bind g = g (.var 9, (s0 :: s1 :: s2 :: s3 :: s4 :: s5 :: s6 :: s7 :: s8 :: .ml xs :: l : Env')) := rfl
theorem rm9 {s0 s1 s2 s3 s4 s5 s6 s7 s8 : Slot} {xs : List AV} {l : Env'} : rs (.var 9) (s0 :: s1 :: s2 :: s3 :: s4 :: s5 :: s6 :: s7 :: s8 :: .ml xs :: l : Env') = some (.lst xs) := rfl
theorem qm9 {γ : Type} {s0 s1 s2 s3 s4 s5 s6 s7 s8 : Slot} {xs : List AV} {l : Env'} {g : AV → T γ} : (lift (rs (.var 9) (s0 :: s1 :: s2 :: s3 :: s4 :: s5 :: s6 :: s7 :: s8 :: .ml xs :: l : Env'))).bind g = g (.lst xs) := rfl
theorem zm9 {γ : Type} {s0 s1 s2 s3 s4 s5 s6 s7 s8 : Slot} {xs : List AV} {l : Env'} {g : AV × Env' → T γ} : (frz (.var 9, (s0 :: s1 :: s2 :: s3 :: s4 :: s5 :: s6 :: s7 :: s8 :: .ml xs :: l : Env'))).bind g = g (.lst xs, (s0 :: s1 :: s2 :: s3 :: s4 :: s5 :: s6 :: s7 :: s8 :: .fro (.lst xs) :: l)) := rfl
theorem im9 {γ : Type} {s0 s1 s2 s3 s4 s5 s6 s7 s8 : Slot} {xs : List AV} {l : Env'} {g : List AV → T γ} : (lift (isMl (s0 :: s1 :: s2 :: s3 :: s4 :: s5 :: s6 :: s7 :: s8 :: .ml xs :: l : Env') 9)).bind g = g xs := rfl
theorem vf10 {γ : Type} {s0 s1 s2 s3 s4 s5 s6 s7 s8 s9 : Slot} {t : AV} {l : Env'} {g : Hd × Env' → T γ} : (fVar 10 (s0 :: s1 :: s2 :: s3 :: s4 :: s5 :: s6 :: s7 :: s8 :: s9 :: .fro t :: l : Env')).bind g = g (.var 10, (s0 :: s1 :: s2 :: s3 :: s4 :: s5 :: s6 :: s7 :: s8 :: s9 :: .fro t :: l : Env')) := rfl
theorem rf10 {s0 s1 s2 s3 s4 s5 s6 s7 s8 s9 : Slot} {t : AV} {l : Env'} : rs (.var 10) (s0 :: s1 :: s2 :: s3 :: s4 :: s5 :: s6 :: s7 :: s8 :: s9 :: .fro t :: l : Env') = some t := rfl
theorem qf10 {γ : Type} {s0 s1 s2 s3 s4 s5 s6 s7 s8 s9 : Slot} {t : AV} {l : Env'} {g : AV → T γ} : (lift (rs (.var 10) (s0 :: s1 :: s2 :: s3 :: s4 :: s5 :: s6 :: s7 :: s8 :: s9 :: .fro t :: l : Env'))).bind g = g t := rfl
theorem zf10 {γ : Type} {s0 s1 s2 s3 s4 s5 s6 s7 s8 s9 : Slot} {t : AV} {l : Env'} {g : AV × Env' → T γ} : (frz (.var 10, (s0 :: s1 :: s2 :: s3 :: s4 :: s5 :: s6 :: s7 :: s8 :: s9 :: .fro t :: l : Env'))).bind g = g (t, (s0 :: s1 :: s2 :: s3 :: s4 :: s5 :: s6 :: s7 :: s8 :: s9 :: .fro t :: l : Env')) := rfl
theorem vm10 {γ : Type} {s0 s1 s2 s3 s4 s5 s6 s7 s8 s9 : Slot} {xs : List AV} {l : Env'} {g : Hd × Env' → T γ} : (fVar 10 (s0 :: s1 :: s2 :: s3 :: s4 :: s5 :: s6 :: s7 :: s8 :: s9 :: .ml xs :: l : Env')).bind g = g (.var 10, (s0 :: s1 :: s2 :: s3 :: s4 :: s5 :: s6 :: s7 :: s8 :: s9 :: .ml xs :: l : Env')) := rfl
theorem rm10 {s0 s1 s2 s3 s4 s5 s6 s7 s8 s9 : Slot} {xs : List AV} {l : Env'} : rs (.var 10) (s0 :: s1 :: s2 :: s3 :: s4 :: s5 :: s6 :: s7 :: s8 :: s9 :: .ml xs :: l : Env') = some (.lst xs) := rfl
theorem qm10 {γ : Type} {s0 s1 s2 s3 s4 s5 s6 s7 s8 s9 : Slot} {xs : List AV} {l : Env'} {g : AV → T γ} : (lift (rs (.var 10) (s0 :: s1 :: s2 :: s3 :: s4 :: s5 :: s6 :: s7 :: s8 :: s9 :: .ml xs :: l : Env'))).bind g = g (.lst xs) := rfl
theorem zm10 {γ : Type} {s0 s1 s2 s3 s4 s5 s6 s7 s8 s9 : Slot} {xs : List AV} {l : Env'} {g : AV × Env' → T γ} : (frz (.var 10, (s0 :: s1 :: s2 :: s3 :: s4 :: s5 :: s6 :: s7 :: s8 :: s9 :: .ml xs :: l : Env'))).bind g = g (.lst xs, (s0 :: s1 :: s2 :: s3 :: s4 :: s5 :: s6 :: s7 :: s8 :: s9 :: .fro (.lst xs) :: l)) := rfl
theorem im10 {γ : Type} {s0 s1 s2 s3 s4 s5 s6 s7 s8 s9 : Slot} {xs : List AV} {l : Env'} {g : List AV → T γ} : (lift (isMl (s0 :: s1 :: s2 :: s3 :: s4 :: s5 :: s6 :: s7 :: s8 :: s9 :: .ml xs :: l : Env') 10)).bind g = g xs := rfl
theorem vf11 {γ : Type} {s0 s1 s2 s3 s4 s5 s6 s7 s8 s9 s10 : Slot} {t : AV} {l : Env'} {g : Hd × Env' → T γ} : (fVar 11 (s0 :: s1 :: s2 :: s3 :: s4 :: s5 :: s6 :: s7 :: s8 :: s9 :: s10 :: .fro t :: l : Env')).bind g = g (.var 11, (s0 :: s1 :: s2 :: s3 :: s4 :: s5 :: s6 :: s7 :: s8 :: s9 :: s10 :: .fro t :: l : Env')) := rfl
theorem rf11 {s0 s1 s2 s3 s4 s5 s6 s7 s8 s9 s10 : Slot} {t : AV} {l : Env'} : rs (.var 11) (s0 :: s1 :: s2 :: s3 :: s4 :: s5 :: s6 :: s7 :: s8 :: s9 :: s10 :: .fro t :: l : Env') = some t := rfl
theorem qf11 {γ : Type} {s0 s1 s2 s3 s4 s5 s6 s7 s8 s9 s10 : Slot} {t : AV} {l : Env'} {g : AV → T γ} : (lift (rs (.var 11) (s0 :: s1 :: s2 :: s3 :: s4 :: s5 :: s6 :: s7 :: s8 :: s9 :: s10 :: .fro t :: l : Env'))).bind g = g t := rfl
theorem zf11 {γ : Type} {s0 s1 s2 s3 s4 s5 s6 s7 s8 s9 s10 : Slot} {t : AV} {l : Env'} {g : AV × Env' → T γ} : (frz (.var 11, (s0 :: s1 :: s2 :: s3 :: s4 :: s5 :: s6 :: s7 :: s8 :: s9 :: s10 :: .fro t :: l : Env'))).bind g = g (t, (s0 :: s1 :: s2 :: s3 :: s4 :: s5 :: s6 :: s7 :: s8 :: s9 :: s10 :: .fro t :: l : Env')) := rfl
theorem vm11 {γ : Type} {s0 s1 s2 s3 s4 s5 s6 s7 s8 s9 s10 : Slot} {xs : List AV} {l : Env'} {g : Hd × Env' → T γ} : (fVar 11 (s0 :: s1 :: s2 :: s3 :: s4 :: s5 :: s6 :: s7 :: s8 :: s9 :: s10 :: .ml xs :: l : Env')).bind g = g (.var 11, (s0 :: s1 :: s2 :: s3 :: s4 :: s5 :: s6 :: s7 :: s8 :: s9 :: s10 :: .ml xs :: l : Env')) := rfl
theorem rm11 {s0 s1 s2 s3 s4 s5 s6 s7 s8 s9 s10 : Slot} {xs : List AV} {l : Env'} : rs (.var 11) (s0 :: s1 :: s2 :: s3 :: s4 :: s5 :: s6 :: s7 :: s8 :: s9 :: s10 :: .ml xs :: l : Env') = some (.lst xs) := rfl
theorem qm11 {γ : Type} {s0 s1 s2 s3 s4 s5 s6 s7 s8 s9 s10 : Slot} {xs : List AV} {l : Env'} {g : AV → T γ} : (lift (rs (.var 11) (s0 :: s1 :: s2 :: s3 :: s4 :: s5 :: s6 :: s7 :: s8 :: s9 :: s10 :: .ml xs :: l : Env'))).bind g = g (.lst xs) := rfl
theorem zm11 {γ : Type} {s0 s1 s2 s3 s4 s5 s6 s7 s8 s9 s10 : Slot} {xs : List AV} {l : Env'} {g : AV × Env' → T γ} : (frz (.var 11, (s0 :: s1 :: s2 :: s3 :: s4 :: s5 :: s6 :: s7 :: s8 :: s9 :: s10 :: .ml xs :: l : Env'))).bind g = g (.lst xs, (s0 :: s1 :: s2 :: s3 :: s4 :: s5 :: s6 :: s7 :: s8 :: s9 :: s10 :: .fro (.lst xs) :: l)) := rfl
theorem im11 {γ : Type} {s0 s1 s2 s3 s4 s5 s6 s7 s8 s9 s10 : Slot} {xs : List AV} {l : Env'} {g : List AV → T γ} : (lift (isMl (s0 :: s1 :: s2 :: s3 :: s4 :: s5 :: s6 :: s7 :: s8 :: s9 :: s10 :: .ml xs :: l : Env') 11)).bind g = g xs := rfl
theorem ss0 {s0 x : Slot} {l : Env'} : (s0 :: l : Env').set 0 x = x :: l := rfl
theorem ss1 {s0 s1 x : Slot} {l : Env'} : (s0 :: s1 :: l : Env').set 1 x = s0 :: x :: l := rfl
theorem ss2 {s0 s1 s2 x : Slot} {l : Env'} : (s0 :: s1 :: s2 :: l : Env').set 2 x = s0 :: s1 :: x :: l := rfl
theorem ss3 {s0 s1 s2 s3 x : Slot} {l : Env'} : (s0 :: s1 :: s2 :: s3 :: l : Env').set 3 x = s0 :: s1 :: s2 :: x :: l := rfl
theorem ss4 {s0 s1 s2 s3 s4 x : Slot} {l : Env'} : (s0 :: s1 :: s2 :: s3 :: s4 :: l : Env').set 4 x = s0 :: s1 :: s2 :: s3 :: x :: l := rfl
theorem ss5 {s0 s1 s2 s3 s4 s5 x : Slot} {l : Env'} : (s0 :: s1 :: s2 :: s3 :: s4 :: s5 :: l : Env').set 5 x = s0 :: s1 :: s2 :: s3 :: s4 :: x :: l := rfl
theorem ss6 {s0 s1 s2 s3 s4 s5 s6 x : Slot} {l : Env'} : (s0 :: s1 :: s2 :: s3 :: s4 :: s5 :: s6 :: l : Env').set 6 x = s0 :: s1 :: s2 :: s3 :: s4 :: s5 :: x :: l := rfl
theorem ss7 {s0 s1 s2 s3 s4 s5 s6 s7 x : Slot} {l : Env'} : (s0 :: s1 :: s2 :: s3 :: s4 :: s5 :: s6 :: s7 :: l : Env').set 7 x = s0 :: s1 :: s2 :: s3 :: s4 :: s5 :: s6 :: x :: l := rfl
theorem ss8 {s0 s1 s2 s3 s4 s5 s6 s7 s8 x : Slot} {l : Env'} : (s0 :: s1 :: s2 :: s3 :: s4 :: s5 :: s6 :: s7 :: s8 :: l : Env').set 8 x = s0 :: s1 :: s2 :: s3 :: s4 :: s5 :: s6 :: s7 :: x :: l := rfl
theorem ss9 {s0 s1 s2 s3 s4 s5 s6 s7 s8 s9 x : Slot} {l : Env'} : (s0 :: s1 :: s2 :: s3 :: s4 :: s5 :: s6 :: s7 :: s8 :: s9 :: l : Env').set 9 x = s0 :: s1 :: s2 :: s3 :: s4 :: s5 :: s6 :: s7 :: s8 :: x :: l := rfl
theorem ss10 {s0 s1 s2 s3 s4 s5 s6 s7 s8 s9 s10 x : Slot} {l : Env'} : (s0 :: s1 :: s2 :: s3 :: s4 :: s5 :: s6 :: s7 :: s8 :: s9 :: s10 :: l : Env').set 10 x = s0 :: s1 :: s2 :: s3 :: s4 :: s5 :: s6 :: s7 :: s8 :: s9 :: x :: l := rfl
theorem ss11 {s0 s1 s2 s3 s4 s5 s6 s7 s8 s9 s10 s11 x : Slot} {l : Env'} : (s0 :: s1 :: s2 :: s3 :: s4 :: s5 :: s6 :: s7 :: s8 :: s9 :: s10 :: s11 :: l : Env').set 11 x = s0 :: s1 :: s2 :: s3 :: s4 :: s5 :: s6 :: s7 :: s8 :: s9 :: s10 :: x :: l := rfl
end Dn
set_option Elab.async false
set_option linter.all false
set_option maxRecDepth 100000
set_option maxHeartbeats 0
namespace Dn
open PySem PySem.Spec PyProof.Rows L2
def rsz (i j c : Int) : Nat := (Builtin.Range.rangeSize i j c).toNat
def rangeC (lo c : Int) (n : Nat) : List AV := (List.range n).map fun i : Nat => AV.int (lo + (i : Int) * c)
def stepOk (i j c : Int) : Bool := below i 62 && (below j 62 && (decide (0 < c ∧ c < 1000) || decide (c = -1)))
theorem rgC_of {i j c : Int} (h : stepOk i j c = true) : RgC i j c (rsz i j c) := by
  unfold stepOk at h
  rw [Bool.and_eq_true, Bool.and_eq_true, Bool.or_eq_true, decide_eq_true_eq, decide_eq_true_eq] at h
  have hi := below62 h.1
  have hj := below62 h.2.1
  rcases h.2.2 with hc | hc
  · refine ⟨by omega, by omega, ?_, (rangeSize_toNat i j c)⟩
    unfold Builtin.Range.small
    have e : Builtin.Range.rangeSize i j c = if i < j then (j - i - 1) / c + 1 else 0 := by
      unfold Builtin.Range.rangeSize
      rw [if_pos hc.1]
    have b0 : 0 ≤ Builtin.Range.rangeSize i j c := by
      rw [rangeSize_toNat]
      omega
    have b1 := rangeSize_toNat_le i j c
    have b2 := rangeSize_toNat i j c
    have b3 : (2 : Int) ^ 62 = 4611686018427387904 := by decide
    have b4 : (2 : Int) ^ 63 = 9223372036854775808 := by decide
    simp only [Builtin.Range.rangeFitsLong, Bool.and_eq_true, Bool.or_eq_true, decide_eq_true_eq, beq_iff_eq, if_pos hc.1]
    have b5 : Builtin.Range.rangeSize i j c < 2 ^ 63 := by
      rw [e]
      split
      · have := Int.ediv_le_self c (show (0 : Int) ≤ j - i - 1 by omega)
        omega
      · omega
    refine ⟨⟨⟨⟨⟨by omega, by omega⟩, by omega, by omega⟩, by omega, by omega⟩, by omega, by omega⟩, .inr ⟨by omega, by omega⟩⟩
  · subst hc
    have q := RgC.neg hi.1 hi.2 hj.1 hj.2
    have e : rsz i j (-1) = (i - j).toNat := by
      unfold rsz
      rw [PySem.W.rangeSize_downNat]
      omega
    rw [e]
    exact q
theorem wk_rangeC {c0 : Gc} {g : G} {H : Hp} {lo c : Int} {n : Nat} : Wk c0 g H (Itc lo c n) (rangeC lo c n) := by
  have hl : (rangeC lo c n).length = n := by unfold rangeC; rw [List.length_map, List.length_range]
  refine ⟨fun g' H' i e hi => by rw [hl] at hi; exact hi, fun g' H' H2 i x v e _ hx hy => ?_, fun g' H' i e hi => by rw [hl] at hi; exact hi⟩
  obtain ⟨e1, hy⟩ := hy
  subst e1
  refine ⟨Same.refl _, ?_⟩
  unfold rangeC at hx
  rw [List.getElem?_map] at hx
  have hi : i < n := by
    cases q : (List.range n)[i]? with
    | none => rw [q] at hx; cases hx
    | some j =>
      have := (List.getElem?_eq_some_iff.mp q).1
      rwa [List.length_range] at this
  rw [List.getElem?_range hi] at hx
  cases hx
  subst hy
  exact rep_int
def iRange3 (f k l : Sem) : SemI := fun ρ => (f ρ).bind fun p => (k p.2).bind fun q => (l q.2).bind fun r => (lift (rs p.1 r.2)).bind fun a => (lift (intOf a)).bind fun i => (lift (rs q.1 r.2)).bind fun b => (lift (intOf b)).bind fun j => (lift (rs r.1 r.2)).bind fun c => (lift (intOf c)).bind fun s => if stepOk i j s = true then .ret (rangeC i s (rsz i j s), r.2) else .bad
section
variable {X : Cx} {ct : CT} {β : BInv} {Ex : XK} {a b c tg : Expr} {f k l : Sem} {p pos : Pos}
theorem ji_range3 (hg : Gl X "range") (hm : X.mg "range" = none) (ha : JE X ct β Ex a f) (hb : JE X ct β Ex b k) (hc : JE X ct β Ex c l) (hs : starEach [a, b, c] X.env = (false, eval a X.env) :: starEach [b, c] X.env := by rfl) (hpl : (backTo pos (starEach [b, c] X.env)).any (·.1) = false := by rfl)
    (he2 : starEach [b, c] X.env = (false, eval b X.env) :: starEach [c] X.env := by rfl) (he3 : starEach [c] X.env = (false, eval c X.env) :: starEach [] X.env := by rfl) :
    JI X ct β Ex tg (.Call (.Name "range" p) [a, b, c] [] pos) (iRange3 f k l) := by
  refine PI.imp (pi_range3 hg hm (pa_cons ha (pa_cons hb (pa_cons hc pa_nil he3) he2) hs) hs hpl) fun σ H R h => ?_
  obtain ⟨g, ρ, Rl, h⟩ := h
  refine ⟨g, ρ, Rl, okT_mono (okT_bind h) fun g1 H1 p e1 h1 x R1 rx => ⟨g1, p.2, R1, okT_mono (okT_bind h1) fun g2 H2 q e2 h2 y R2 ry => ⟨g2, q.2, R2, okT_mono (okT_bind h2) fun g3 H3 r e3 h3 z R3 rz => ?_⟩⟩⟩
  obtain ⟨u, eu, h4⟩ := okT_lift h3
  obtain ⟨i, ei, h5⟩ := okT_lift h4
  obtain ⟨w, ew, h6⟩ := okT_lift h5
  obtain ⟨j, ej, h7⟩ := okT_lift h6
  obtain ⟨t, et, h8⟩ := okT_lift h7
  obtain ⟨m, em, h9⟩ := okT_lift h8
  have := intOf_eq ei
  subst this
  have := intOf_eq ej
  subst this
  have := intOf_eq em
  subst this
  have ex := ((rx.ext (e2.trans e3)).rs R3 eu).int
  have ey := ((ry.ext e3).rs R3 ew).int
  have ez := (rz.rs R3 et).int
  subst ex ey ez
  by_cases hb : stepOk i j m = true
  · rw [if_pos hb] at h9
    exact ⟨i, j, m, rsz i j m, rfl, rgC_of hb, okT_ret h9 _ R3 wk_rangeC⟩
  · rw [if_neg hb] at h9
    exact (show False from h9).elim
end
theorem iRange3_b {γ : Type} {f k l : Sem} {a0 : Slot} {l0 : Env'} {g : List AV × Env' → T γ} : (iRange3 f k l (a0 :: l0)).bind g = ((f (a0 :: l0)).bind fun p => (k p.2).bind fun q => (l q.2).bind fun r => (lift (rs p.1 r.2)).bind fun a => (lift (intOf a)).bind fun i => (lift (rs q.1 r.2)).bind fun b => (lift (intOf b)).bind fun j => (lift (rs r.1 r.2)).bind fun c => (lift (intOf c)).bind fun s => if stepOk i j s = true then .ret (rangeC i s (rsz i j s), r.2) else .bad).bind g := rfl
theorem imd0 {γ : Type} {kvs : List (AV × AV)} {l : Env'} {g : List (AV × AV) → T γ} : (lift (isMd (.md true kvs :: l : Env') 0)).bind g = g kvs := rfl
theorem imd1 {γ : Type} {s0 : Slot} {kvs : List (AV × AV)} {l : Env'} {g : List (AV × AV) → T γ} : (lift (isMd (s0 :: .md true kvs :: l : Env') 1)).bind g = g kvs := rfl
theorem imd2 {γ : Type} {s0 s1 : Slot} {kvs : List (AV × AV)} {l : Env'} {g : List (AV × AV) → T γ} : (lift (isMd (s0 :: s1 :: .md true kvs :: l : Env') 2)).bind g = g kvs := rfl
theorem imd3 {γ : Type} {s0 s1 s2 : Slot} {kvs : List (AV × AV)} {l : Env'} {g : List (AV × AV) → T γ} : (lift (isMd (s0 :: s1 :: s2 :: .md true kvs :: l : Env') 3)).bind g = g kvs := rfl
theorem imd4 {γ : Type} {s0 s1 s2 s3 : Slot} {kvs : List (AV × AV)} {l : Env'} {g : List (AV × AV) → T γ} : (lift (isMd (s0 :: s1 :: s2 :: s3 :: .md true kvs :: l : Env') 4)).bind g = g kvs := rfl
theorem imd5 {γ : Type} {s0 s1 s2 s3 s4 : Slot} {kvs : List (AV × AV)} {l : Env'} {g : List (AV × AV) → T γ} : (lift (isMd (s0 :: s1 :: s2 :: s3 :: s4 :: .md true kvs :: l : Env') 5)).bind g = g kvs := rfl
theorem imd6 {γ : Type} {s0 s1 s2 s3 s4 s5 : Slot} {kvs : List (AV × AV)} {l : Env'} {g : List (AV × AV) → T γ} : (lift (isMd (s0 :: s1 :: s2 :: s3 :: s4 :: s5 :: .md true kvs :: l : Env') 6)).bind g = g kvs := rfl
theorem imd7 {γ : Type} {s0 s1 s2 s3 s4 s5 s6 : Slot} {kvs : List (AV × AV)} {l : Env'} {g : List (AV × AV) → T γ} : (lift (isMd (s0 :: s1 :: s2 :: s3 :: s4 :: s5 :: s6 :: .md true kvs :: l : Env') 7)).bind g = g kvs := rfl
theorem imd8 {γ : Type} {s0 s1 s2 s3 s4 s5 s6 s7 : Slot} {kvs : List (AV × AV)} {l : Env'} {g : List (AV × AV) → T γ} : (lift (isMd (s0 :: s1 :: s2 :: s3 :: s4 :: s5 :: s6 :: s7 :: .md true kvs :: l : Env') 8)).bind g = g kvs := rfl
theorem imd9 {γ : Type} {s0 s1 s2 s3 s4 s5 s6 s7 s8 : Slot} {kvs : List (AV × AV)} {l : Env'} {g : List (AV × AV) → T γ} : (lift (isMd (s0 :: s1 :: s2 :: s3 :: s4 :: s5 :: s6 :: s7 :: s8 :: .md true kvs :: l : Env') 9)).bind g = g kvs := rfl
theorem imd10 {γ : Type} {s0 s1 s2 s3 s4 s5 s6 s7 s8 s9 : Slot} {kvs : List (AV × AV)} {l : Env'} {g : List (AV × AV) → T γ} : (lift (isMd (s0 :: s1 :: s2 :: s3 :: s4 :: s5 :: s6 :: s7 :: s8 :: s9 :: .md true kvs :: l : Env') 10)).bind g = g kvs := rfl
theorem imd11 {γ : Type} {s0 s1 s2 s3 s4 s5 s6 s7 s8 s9 s10 : Slot} {kvs : List (AV × AV)} {l : Env'} {g : List (AV × AV) → T γ} : (lift (isMd (s0 :: s1 :: s2 :: s3 :: s4 :: s5 :: s6 :: s7 :: s8 :: s9 :: s10 :: .md true kvs :: l : Env') 11)).bind g = g kvs := rfl
theorem keyOf1_i {i : Int} : keyOf1 (.int i) = some (.inl i) := rfl
theorem keyOf1_ib {γ : Type} {i : Int} {g : Key → T γ} : (lift (keyOf1 (.int i))).bind g = g (.inl i) := rfl
end Dn
set_option Elab.async false
set_option linter.all false
set_option maxRecDepth 100000
namespace Dn
open PySem PySem.Spec PyProof.Rows L2
end Dn
set_option Elab.async false
set_option linter.all false
set_option maxRecDepth 100000
namespace Dn
open PySem PySem.Spec PyProof.Rows L2
open PySem.W PySem.SeqAt
def rMinP (K : PySem.W.Frag) : List V → Hp → VK → Prop := fun xs H Q => ∃ (a : Addr) (vs : List V) (d : PyData) (ds : List PyData), xs = [.ref a] ∧ SqL K H a vs ∧ DpAll K H vs (d :: ds) ∧ AlikeAll (d :: ds) ∧ PyData.depthAll (d :: ds) ≤ 60 ∧ ∀ (i : Nat) (v : V), vs[i]? = some v → (d :: ds)[i]? = some (minD d ds) → Q v H
abbrev Pr := Int × Int
def pairA (p : Pr) : AV := .tup [.int p.1, .int p.2]
def pairD (p : Pr) : PyData := .tuple [.int p.1, .int p.2]
def pairOf : AV → Option Pr
  | .tup [.int a, .int b] => some (a, b)
  | _ => none
def pairsOf : List AV → Option (List Pr)
  | [] => some []
  | t :: ts => match pairOf t, pairsOf ts with
    | some p, some ps => some (p :: ps)
    | _, _ => none
def ltP (x y : Pr) : Bool := decide (x.1 < y.1) || (decide (x.1 = y.1) && decide (x.2 < y.2))
def minPr (p : Pr) (r : List Pr) : Pr := r.foldl (fun a y => if ltP y a then y else a) p
def pMinP (a : AV) : Option AV := match a with
  | .lst xs => match pairsOf xs with
    | some (p :: r) => some (pairA (minPr p r))
    | _ => none
  | _ => none
def tgLst (n : Nat) (k : List AV → Env' → T Env') : GSem := fun t ρ => match t with
  | .lst xs => if xs.length = n then k xs ρ else .bad
  | _ => .bad
end Dn
set_option Elab.async false
set_option linter.all false
set_option maxRecDepth 100000
set_option maxHeartbeats 0
namespace Dn
open PySem PySem.Spec PyProof.Rows L2
def CellsAt (H : Hp) (i : Addr) : Prop := ∃ ns : List Int, H i = some (.lst (ns.map V.int)) ∧ ns.length ≤ 1000 ∧ ∀ n ∈ ns, 0 ≤ n
def DealAt (B : Addr → Prop) (H : Hp) (a : Addr) : Prop := ∃ (i : Addr) (b : Int), H a = some (.lst [.ref i, .int b]) ∧ 0 ≤ b ∧ B i ∧ CellsAt H i
def BoxC : BInv where
  I := fun B D H => (∀ a, B a → ∃ vs, H a = some (.lst vs)) ∧ (∀ a, D a → B a) ∧ ∀ a, D a → DealAt B H a
  live := fun h b => by
    obtain ⟨vs, e⟩ := h.1 _ b
    rw [e]
    exact fun z => by cases z
  nt := fun h b ws z => by
    obtain ⟨vs, e⟩ := h.1 _ b
    rw [e] at z
    cases z
  top := fun h d => h.2.1 _ d
  frame := fun h k => ⟨fun a b => by rw [k a b]; exact h.1 a b, h.2.1, fun a d => by
    obtain ⟨i, b, e, b0, bi, ns, e2, nn⟩ := h.2.2 a d
    exact ⟨i, b, by rw [k a (h.2.1 a d)]; exact e, b0, bi, ns, by rw [k i bi]; exact e2, nn⟩⟩
def spDrawC : Sp := fun vs H Q _ => ∃ (D i : Addr) (b c : Int), vs = [.ref D, .int b] ∧ H D = some (.lst [.ref i, .int c]) ∧ 0 ≤ c ∧ CellsAt H i ∧ 1 ≤ b ∧ b < 2 ^ 64 ∧
  ∀ (r : Int) (H' : Hp), 0 ≤ r → r < b → (∀ a o, H a = some o → a ≠ D → a ≠ i → H' a = some o) → (∃ c', H' D = some (.lst [.ref i, .int c']) ∧ 0 ≤ c') → CellsAt H' i → Q (.int r) H'
theorem drawC_of {P : Program} {w : World} {K : PySem.W.Frag} {mg : Str → Option Value} {base : Heap} {ct : CT} {lv : Nat} {fa : Addr} {fd : FuncData} {ps : List Str} (F : FnOk P w K mg base CX0 lv fa fd ps spDrawC) :
    FnOk P w K mg base (L2.CX P w) lv fa fd ps (spM ⟨K, mg, ct⟩ BoxC 2 fDraw) := by
  refine imp0 F fun vs H Q E h => ?_
  obtain ⟨g, ts, ho, hm, hmb, hb, r, hl, h⟩ := h
  have done : ∀ {ts : List AV}, okT ⟨K, mg, ct⟩ BoxC E g H (fDraw ts) (fun g' H' t => ∀ v, BoxC.I g'.B g'.D H' → RepG ⟨K, mg, ct⟩ g' H' t v → Q v H') → ∃ b, ts = [.box, .int b] ∧ 1 ≤ b ∧ b < 2 ^ 64 ∧ ∀ r, r < b.toNat → ∀ g' H', Ext g g' H H' → ∀ v, BoxC.I g'.B g'.D H' → RepG ⟨K, mg, ct⟩ g' H' (.int r) v → Q v H' := fun {ts} h => by
    unfold fDraw at h
    split at h
    · rename_i b
      by_cases hb : 1 ≤ b ∧ below b 64 = true
      · rw [if_pos hb] at h
        exact ⟨b, rfl, hb.1, by have := below_iff.mp hb.2; omega, h⟩
      · rw [if_neg hb] at h
        exact (show False from h).elim
    · exact (show False from h).elim
  obtain ⟨b, rfl, h1, h2, h3⟩ := done h
  rw [RepsG, RepL] at r
  obtain ⟨v, r1, rfl, hv, r⟩ := r
  rw [RepL] at r
  obtain ⟨v2, r2, rfl, hv2, r⟩ := r
  rw [RepL] at r
  subst r
  have hv : ∃ a, v = .ref a ∧ g.D a := by
    rw [Rep] at hv
    exact hv
  have hv2 : v2 = .int b := by
    rw [Rep] at hv2
    exact hv2
  obtain ⟨D, rfl, hD⟩ := hv
  subst hv2
  obtain ⟨i, c, e1, c0, hBi, ns, e2, nn⟩ := hb.2.2 D hD
  have hB := hb.2.1 D hD
  have hDi : D ≠ i := fun z => by
    rw [z, e2] at e1
    cases ns with
    | nil => cases e1
    | cons n ns => cases e1
  refine ⟨D, i, b, c, rfl, e1, c0, ⟨ns, e2, nn⟩, h1, h2, fun r H' r0 r1 keep ⟨c', e1', c0'⟩ ⟨ns', e2', nn'⟩ => ?_⟩
  have e : Ext g g H H' :=
    { keep := fun a o q _ nb => keep a o q (fun z => nb (by rw [z]; exact hB)) (fun z => nb (by rw [z]; exact hBi))
      live := fun a q => by
        by_cases z : a = D
        · rw [z, e1']
          exact fun z => by cases z
        · by_cases z2 : a = i
          · rw [z2, e2']
            exact fun z => by cases z
          · cases q2 : H a with
            | none => exact absurd q2 q
            | some o =>
              rw [keep a o q2 z z2]
              exact fun z => by cases z
      m := rfl, bsub := fun _ h => h, bnew := fun _ h => .inl h, dsub := fun _ h => h, own := fun i a h => .inl ⟨i, h⟩, s := rfl }
  have ed : ((r.toNat : Nat) : Int) = r := by omega
  have hI : BoxC.I g.B g.D H' := by
    refine ⟨fun a ha => ?_, hb.2.1, fun a ha => ?_⟩
    · by_cases z : a = D
      · exact ⟨_, by rw [z]; exact e1'⟩
      · by_cases z2 : a = i
        · exact ⟨_, by rw [z2]; exact e2'⟩
        · obtain ⟨vs, q⟩ := hb.1 a ha
          exact ⟨vs, keep a _ q z z2⟩
    · by_cases z : a = D
      · exact ⟨i, c', by rw [z]; exact e1', c0', hBi, ns', e2', nn'⟩
      · obtain ⟨i2, c2, f1, f0, fB, ns2, f2, fn⟩ := hb.2.2 a ha
        have z2 : a ≠ i := fun z2 => by
          rw [z2, e2] at f1
          cases ns with
          | nil => cases f1
          | cons n ns => cases f1
        refine ⟨i2, c2, keep a _ f1 z z2, f0, fB, ?_⟩
        by_cases y : i2 = i
        · rw [y]; exact ⟨ns', e2', nn'⟩
        · have y2 : i2 ≠ D := fun y2 => by
            rw [y2, e1] at f2
            cases ns2 with
            | nil => cases f2
            | cons n ns => cases f2
          exact ⟨ns2, keep i2 _ f2 y2 y, fn⟩
  have := h3 r.toNat (by omega) g _ e (.int r) hI (by rw [ed]; exact rep_int)
  exact this
def isNat : AV → Bool
  | .int i => decide (0 ≤ i)
  | _ => false
def isNatS : Option Slot → Bool
  | some (.fro (.int b)) => decide (0 ≤ b)
  | _ => false
def sRetDeal (i : Nat) (f : SemN) : SSem := fun ρ => (f ρ).bind fun p => if p.1.all isNat && (isNatS p.2[i]? && decide (p.1.length ≤ 1000)) then .ret (.rt .box) else .bad
theorem nats_of {c0 : Gc} {A D : Addr → Prop} {H : Hp} : ∀ {xs : List AV} {vs : List V}, xs.all isNat = true → RepL c0 A D H xs vs → ∃ ns : List Int, vs = ns.map V.int ∧ ∀ n ∈ ns, 0 ≤ n
  | [], _, _, r => by rw [RepL] at r; exact ⟨[], r, fun n h => by cases h⟩
  | x :: xs, vs, h, r => by
    rw [RepL] at r
    obtain ⟨v, vs', rfl, rv, r⟩ := r
    rw [List.all_cons, Bool.and_eq_true] at h
    obtain ⟨ns, rfl, nn⟩ := nats_of h.2 r
    cases x with
    | int i =>
      rw [Rep] at rv
      subst rv
      exact ⟨i :: ns, rfl, fun n hn => (List.mem_cons.mp hn).elim (fun e => by rw [e]; exact of_decide_eq_true h.1) (nn n)⟩
    | _ => cases h.1
section
variable {X : Cx} {ct : CT} {Ex : XK} {a : Expr} {f : SemN} {pos p p1 p2 p3 p4 p5 : Pos} {k : Nat} {x : Str}
theorem js_retDeal (i : Nat) (ha : JN X ct BoxC Ex a f) (hv : PE X (.Name x p) (tVar i))
    (he : starEach [.Subscript a (.Slice none none (some (.UnaryOp .USub (.Constant (.int 1) k p1) p2)) p3) p4, .Name x p] X.env = (false, eval (.Subscript a (.Slice none none (some (.UnaryOp .USub (.Constant (.int 1) k p1) p2)) p3) p4) X.env) :: starEach [.Name x p] X.env := by rfl)
    (he2 : starEach [.Name x p] X.env = (false, eval (.Name x p) X.env) :: starEach [] X.env := by rfl) :
    JS X ct BoxC Ex (.Return (some (.List [.Subscript a (.Slice none none (some (.UnaryOp .USub (.Constant (.int 1) k p1) p2)) p3) p4, .Name x p] p5)) pos) (sRetDeal i f) := by
  refine PS.imp (ps_ret (pe_lst (pa_cons (pe_revL ha) (pa_cons hv pa_nil he2) he))) fun D σ H h => ?_
  obtain ⟨g, ρ, R, h⟩ := h
  refine ⟨g, ρ, R, okT_bind0 h fun p q g' H' e d vs hn na ho R' r => ?_⟩
  by_cases hp : (p.1.all isNat && (isNatS p.2[i]? && decide (p.1.length ≤ 1000))) = true
  · rw [if_pos hp] at q
    rw [Bool.and_eq_true, Bool.and_eq_true, decide_eq_true_eq] at hp
    obtain ⟨ns, rfl, nn⟩ := nats_of hp.1 r
    have nl : ns.length ≤ 1000 := by
      have := r.length
      rw [List.length_map] at this
      omega
    obtain ⟨b, hb0, hsl⟩ : ∃ b : Int, 0 ≤ b ∧ p.2[i]? = some (.fro (.int b)) := by
      have := hp.2.1
      unfold isNatS at this
      split at this
      · rename_i b eb
        exact ⟨b, of_decide_eq_true this, eb⟩
      · cases this
    obtain ⟨_, v, ev, rv⟩ := R'.sl i _ hsl
    have rv : v = .int b := by
      rw [RepG, Rep] at rv
      exact rv
    subst rv
    refine ⟨d, ns.map V.int, rfl, .of ho, fun c nc => ⟨_, ev, ?_, fun t nt => ?_⟩⟩
    · show 2 ≤ sizeLine
      exact Nat.le_trans (by decide) big_line
    · have s1 : Same H' (upd H' c (.lst (ns.map V.int).reverse)) := same_upd nc
      have s2 : Same (upd H' c (.lst (ns.map V.int).reverse)) (upd (upd H' c (.lst (ns.map V.int).reverse)) t (.lst [.ref c, .int b])) := same_upd nt
      have s := s1.trans s2
      have nc0 : H c = none := none_back e nc
      have nt1 : H' t = none := none_back (Ext.same (g := g') s1) nt
      have nt0 : H t = none := none_back e nt1
      have hc : (upd (upd H' c (.lst (ns.map V.int).reverse)) t (.lst [.ref c, .int b])) c = some (.lst (ns.map V.int).reverse) := s2 _ _ upd_same
      have e2 : Ext g { g' with B := fun b => g'.B b ∨ b = c ∨ b = t, D := fun b => g'.D b ∨ b = t } H (upd (upd H' c (.lst (ns.map V.int).reverse)) t (.lst [.ref c, .int b])) :=
        { keep := fun a o q h1 h2 => s _ _ (e.keep a o q h1 h2)
          live := fun a q => by
            cases q2 : H' a with
            | none => exact absurd q2 (e.live a q)
            | some o => rw [s a o q2]; exact fun z => by cases z
          m := e.m, bsub := fun b z => .inl (e.bsub b z), dsub := fun b z => .inl (e.dsub b z), own := e.own, s := e.s,
          bnew := fun b z => z.elim (e.bnew b) fun z => .inr (z.elim (fun z => by rw [z]; exact nc0) fun z => by rw [z]; exact nt0) }
      refine okT_ret' q e2 (.ref t) ⟨fun b z => ?_, fun b z => z.elim (fun z => .inl (R'.box.2.1 b z)) fun z => .inr (.inr z), fun b3 z => ?_⟩ ?_
      · rcases z with z | z | z
        · obtain ⟨ws, ew⟩ := R'.box.1 b z
          exact ⟨ws, s _ _ ew⟩
        · exact ⟨_, by rw [z]; exact hc⟩
        · exact ⟨_, by rw [z]; exact upd_same⟩
      · rcases z with z | z
        · obtain ⟨i2, c2, f1, f0, fB, ns2, f2, fn⟩ := R'.box.2.2 b3 z
          exact ⟨i2, c2, s _ _ f1, f0, .inl fB, ns2, s _ _ f2, fn⟩
        · rw [z]
          exact ⟨c, b, upd_same, hb0, .inr (.inl rfl), ns.reverse, by rw [hc, List.map_reverse], by rw [List.length_reverse]; exact nl, fun n hn => nn n (List.mem_reverse.mp hn)⟩
      · rw [RepG, Rep]
        exact ⟨t, rfl, .inr rfl⟩
  · rw [if_neg hp] at q
    exact (show False from q).elim
end
theorem dp_ints {K : PySem.W.Frag} {mg : Str → Option Value} {H : Hp} {i : Addr} {ns : List Int} (h : H i = some (.lst (ns.map V.int))) : Dp K H (.ref i) (toD 1 (.lst (ns.map AV.int))) := by
  refine dp_of (c0 := ⟨K, mg, fun _ => ("", [])⟩) (g := ⟨fun _ => False, fun _ => none, fun _ => False, fun _ => False, none⟩) 1 ?_ ?_
  · rw [RepG, Rep]
    refine ⟨i, ns.map V.int, rfl, ⟨?_, h⟩, RepL.ints' ns⟩
    rintro (z | ⟨j, z⟩ | z)
    · exact z
    · cases z
    · exact z
  · show ((ns.map AV.int).all (dat 0)) = true
    induction ns with
    | nil => rfl
    | cons n ns ih =>
      rw [List.map_cons, List.all_cons, Bool.and_eq_true]
      refine ⟨rfl, ?_⟩
      clear ih h
      induction ns with
      | nil => rfl
      | cons n ns ih => rw [List.map_cons, List.all_cons, Bool.and_eq_true]; exact ⟨rfl, ih⟩
theorem dat_ints (ns : List Int) : dat 1 (.lst (ns.map AV.int)) = true := by
  show ((ns.map AV.int).all (dat 0)) = true
  induction ns with
  | nil => rfl
  | cons n ns ih => rw [List.map_cons, List.all_cons, Bool.and_eq_true]; exact ⟨rfl, ih⟩
theorem ne_nil_ints (ns : List Int) : (!PyData.eqv (toD 1 (.lst (ns.map AV.int))) (toD 1 (.lst []))) = !ns.isEmpty := by
  rw [aeq_eqv 1 _ _ (dat_ints ns) rfl]
  cases ns <;> rfl
theorem sh_ints (ns : List Int) : SeqAt.shaped (toD 1 (.lst (ns.map AV.int))) = true := toD_shaped (dat_ints ns) (by decide)
end Dn
set_option Elab.async false
set_option linter.all false
set_option maxRecDepth 100000
set_option maxHeartbeats 0
namespace Dn
open PySem PySem.Spec PyProof.Rows L2
inductive Itm where
  | fr (t : AV) | nl (xs : List AV) | nd
abbrev SemM := Env' → T (List Itm × Env')
def G.plusL (g : G) (N : List Addr) : G := { g with M := fun b => g.M b ∨ b ∈ N }
def G.less (g : G) (M : Addr → Prop) : G := { g with M := M }
def Mx (c0 : Gc) (A D : Addr → Prop) (H : Hp) : List Itm → List V → List Addr → Prop
  | [], vs, N => vs = [] ∧ N = []
  | .fr t :: r, vs, N => ∃ v vs', vs = v :: vs' ∧ Rep c0 A D H t v ∧ Mx c0 A D H r vs' N
  | .nl xs :: r, vs, N => ∃ a vs' N' ws, vs = .ref a :: vs' ∧ N = a :: N' ∧ H a = some (.lst ws) ∧ RepL c0 A D H xs ws ∧ Mx c0 A D H r vs' N'
  | .nd :: r, vs, N => ∃ a vs' N', vs = .ref a :: vs' ∧ N = a :: N' ∧ H a = some (.dT []) ∧ Mx c0 A D H r vs' N'
def MixOk (c0 : Gc) (g : G) (H0 H : Hp) (items : List Itm) (vs : List V) (N : List Addr) : Prop := (∀ b ∈ N, H0 b = none ∧ ¬ g.Av b) ∧ N.Nodup ∧ Mx c0 (g.plusL N).Av g.D H items vs N
def rdM (c0 : Gc) (β : BInv) (Ex : XK) (m : SemM) : TA := fun σ H Q => ∃ g ρ, Rel c0 β g ρ σ H ∧ okT c0 β Ex g H (m ρ) fun g' H' p => ∀ vs N, MixOk c0 g' H H' p.1 vs N → Rel c0 β (g'.plusL N) p.2 σ H' → Q vs H'
def JM (X : Cx) (ct : CT) (β : BInv) (Ex : XK) (es : List Expr) (m : SemM) : Prop := PA X es (rdM (gc X ct) β Ex m)
def mNil : SemM := fun ρ => .ret ([], ρ)
def mF (f : Sem) (k : SemM) : SemM := fun ρ => (f ρ).bind fun p => (frz p).bind fun q => (k q.2).bind fun r => .ret (.fr q.1 :: r.1, r.2)
def mN (f : SemN) (k : SemM) : SemM := fun ρ => (f ρ).bind fun p => (k p.2).bind fun r => .ret (.nl p.1 :: r.1, r.2)
def mD (k : SemM) : SemM := fun ρ => (k ρ).bind fun r => .ret (.nd :: r.1, r.2)
theorem plusL_av {g : G} {N : List Addr} {b : Addr} : (g.plusL N).Av b ↔ g.Av b ∨ b ∈ N := by
  unfold G.Av G.plusL
  constructor
  · rintro ((z | z) | z | z)
    · exact .inl (.inl z)
    · exact .inr z
    · exact .inl (.inr (.inl z))
    · exact .inl (.inr (.inr z))
  · rintro ((z | z | z) | z)
    · exact .inl (.inl z)
    · exact .inr (.inl z)
    · exact .inr (.inr z)
    · exact .inl (.inr z)
theorem plusL_nil {g : G} : g.plusL [] = g := by
  unfold G.plusL
  cases g
  simp
theorem plusL_cons {g : G} {a : Addr} {N : List Addr} : g.plusL (a :: N) = (g.plusL N).plus a := by
  unfold G.plusL G.plus
  congr 1
  funext b
  refine propext ⟨fun h => ?_, fun h => ?_⟩
  · rcases h with h | h
    · exact .inl (.inl h)
    · rcases List.mem_cons.mp h with h | h
      · exact .inr h
      · exact .inl (.inr h)
  · rcases h with (h | h) | h
    · exact .inl h
    · exact .inr (List.mem_cons_of_mem _ h)
    · exact .inr (by rw [h]; exact List.mem_cons_self)
section
variable {c0 : Gc} {A A' D D' : Addr → Prop} {H H' : Hp}
theorem Mx.imp (hk : ∀ a o, H a = some o → ¬ A a → H' a = some o ∧ ¬ A' a) (hd : ∀ a, D a → D' a) : ∀ {items : List Itm} {vs : List V} {N : List Addr}, (∀ a ∈ N, ∀ o, H a = some o → H' a = some o) → Mx c0 A D H items vs N → Mx c0 A' D' H' items vs N
  | [], _, _, _, h => h
  | .fr _ :: _, _, _, hN, ⟨v, vs', e, r, q⟩ => ⟨v, vs', e, r.imp hk hd, Mx.imp hk hd hN q⟩
  | .nl _ :: _, _, _, hN, ⟨a, vs', N', ws, e, e2, ho, r, q⟩ => ⟨a, vs', N', ws, e, e2, hN a (by rw [e2]; exact List.mem_cons_self) _ ho, r.imp hk hd, Mx.imp hk hd (fun b hb => hN b (by rw [e2]; exact List.mem_cons_of_mem _ hb)) q⟩
  | .nd :: _, _, _, hN, ⟨a, vs', N', e, e2, ho, q⟩ => ⟨a, vs', N', e, e2, hN a (by rw [e2]; exact List.mem_cons_self) _ ho, Mx.imp hk hd (fun b hb => hN b (by rw [e2]; exact List.mem_cons_of_mem _ hb)) q⟩
end
section
variable {X : Cx} {ct : CT} {β : BInv} {Ex : XK} {a : Expr} {es : List Expr} {f : Sem} {fn : SemN} {k : SemM}
theorem jm_nil : JM X ct β Ex [] mNil := PA.imp pa_nil fun σ H Q h => by
  obtain ⟨g, ρ, R, h⟩ := h
  exact okT_ret h [] [] ⟨fun b hb => absurd hb List.not_mem_nil, List.nodup_nil, rfl, rfl⟩ (by rw [plusL_nil]; exact R)
theorem jm_f (ha : JE X ct β Ex a f) (hr : JM X ct β Ex es k) (hs : starEach (a :: es) X.env = (false, eval a X.env) :: starEach es X.env := by rfl) : JM X ct β Ex (a :: es) (mF f k) := by
  refine PA.imp (pa_cons ha hr hs) fun σ H Q h => ?_
  obtain ⟨g, ρ, R, h⟩ := h
  refine ⟨g, ρ, R, okT_mono (okT_bind h) fun g1 H1 p e1 h1 x R1 rx => ?_⟩
  obtain ⟨g2, q, e2, R2, rq, h2⟩ := frz_ok R1 rx h1
  refine ⟨g2, q.2, R2, okT_mono (okT_bind h2) fun g3 H3 r e3 h3 vs N mix R3 => ?_⟩
  refine okT_ret h3 (x :: vs) N ⟨fun b hb => ⟨none_back e1 (mix.1 b hb).1, (mix.1 b hb).2⟩, mix.2.1, x, vs, rfl, ?_, mix.2.2⟩ R3
  refine rq.imp (fun b o q na => ⟨(e3.av q na).1, fun z => ?_⟩) e3.dsub
  rcases plusL_av.mp z with z | z
  · exact (e3.av q na).2 z
  · rw [(mix.1 b z).1] at q; cases q
theorem less_plus {g g2 : G} {a : Addr} (h : g2.M = (g.plus a).M) : (g2.less g.M).plus a = g2 := by
  cases g2
  unfold G.less G.plus at *
  simp only at h
  simp only [h]
theorem jm_n (ha : JN X ct β Ex a fn) (hr : JM X ct β Ex es k) (hs : starEach (a :: es) X.env = (false, eval a X.env) :: starEach es X.env := by rfl) : JM X ct β Ex (a :: es) (mN fn k) := by
  refine PA.imp (pa_cons ha hr hs) fun σ H Q h => ?_
  obtain ⟨g, ρ, R, h⟩ := h
  refine ⟨g, ρ, R, okT_bind0 h fun p q g1 H1 e a ws hn na ho R1 r => ?_⟩
  have q' := T.all_bind.mp q
  have lessE : ∀ {g2 : G} {H2 : Hp}, Ext (g1.plus a) g2 H1 H2 → Ext g1 (g2.less g1.M) H1 H2 := fun {g2 H2} e2 => ⟨e2.keep, e2.live, rfl, e2.bsub, e2.bnew, e2.dsub, e2.own, e2.s⟩
  refine ⟨g1.plus a, p.2, R1, T.all_mono q' (fun s qs g2 H2 e2 vs N mix R2 => ?_) fun c xs qs g2 H2 C d ws' e2 hB hm hd hl hr => ?_⟩
  · have e3 := lessE e2
    have ha1 : ∀ b ∈ N, b ≠ a := fun b hb z => by
      have := (mix.1 b hb).1
      rw [z, ho] at this
      cases this
    have haN : a ∉ N := fun z => ha1 a z rfl
    have eg : (g2.less g1.M).plus a = g2 := less_plus e2.m
    have hown : ∀ i, (g1.plus a).own i ≠ some a := fun i z => (R1.sep i a z).1 (.inr rfl)
    have hB : ¬ (g1.plus a).B a := R1.mb a (.inr rfl)
    have ho2 : H2 a = some (.lst ws) := e2.keep a _ ho hown hB
    have naL : ¬ (g2.less g1.M).Av a := by
      rintro (z | ⟨i, z⟩ | z)
      · exact na (.inl z)
      · rcases e2.own i a z with ⟨j, hj⟩ | hj
        · exact hown j hj
        · rw [ho] at hj; cases hj
      · rcases e2.bnew a z with hb | hb
        · exact hB hb
        · rw [ho] at hb; cases hb
    have ea : ((g2.less g1.M).plusL (a :: N)) = g2.plusL N := by
      rw [plusL_cons]
      conv => rhs; rw [← eg]
      unfold G.plusL G.plus G.less
      congr 1
      funext b
      refine propext ⟨fun h => ?_, fun h => ?_⟩
      · rcases h with (h | h) | h
        · exact .inl (.inl h)
        · exact .inr h
        · exact .inl (.inr h)
      · rcases h with (h | h) | h
        · exact .inl (.inl h)
        · exact .inr h
        · exact .inl (.inr h)
    refine okT_ret' (show okT (gc X ct) β Ex g H (.ret (Itm.nl p.1 :: s.1, s.2)) _ from qs) (e.trans e3) (.ref a :: vs) (a :: N) ⟨fun b hb => ?_, List.nodup_cons.mpr ⟨haN, mix.2.1⟩, a, vs, N, ws, rfl, rfl, ho2, ?_, ?_⟩ ?_
    · rcases List.mem_cons.mp hb with z | z
      · rw [z]
        exact ⟨hn, naL⟩
      · refine ⟨none_back e (mix.1 b z).1, fun y => (mix.1 b z).2 ?_⟩
        rw [← eg]
        exact plus_av.mpr (.inl y)
    · rw [ea]
      refine RepL.imp (fun b o q nb => ⟨(e2.av q nb).1, fun z => ?_⟩) e2.dsub r
      rcases plusL_av.mp z with z | z
      · exact (e2.av q nb).2 z
      · rw [(mix.1 b z).1] at q; cases q
    · rw [ea]
      exact mix.2.2
    · rw [ea]
      exact R2
  · refine qs (g2.less g1.M) H2 C d ws' (e.trans (lessE e2)) hB hm hd hl (hr.imp (fun b o q nb => ⟨q, fun z => nb ?_⟩) fun _ h => h)
    rw [← less_plus (g := g1) e2.m]
    exact plus_av.mpr (.inl z)
theorem jm_d {dpos : Pos} (hr : JM X ct β Ex es k) (hs : starEach (.Dict [] [] dpos :: es) X.env = (false, eval (.Dict [] [] dpos) X.env) :: starEach es X.env := by rfl) : JM X ct β Ex (.Dict [] [] dpos :: es) (mD k) := by
  refine PA.imp (pa_cons pe_dnewT hr hs) fun σ H Q h => ?_
  obtain ⟨g, ρ, R, h⟩ := h
  intro a hn
  have na := R.freshAv hn
  have sm := same_upd (o := .dT []) hn
  have e : Ext g g H (upd H a (.dT [])) := Ext.same sm
  have ho : upd H a (.dT []) a = some (.dT []) := upd_same
  have R1 := R.plus sm hn (by rw [ho]; exact fun z => by cases z)
  generalize upd H a (.dT []) = H1 at *
  have q' := T.all_bind.mp h
  have lessE : ∀ {g2 : G} {H2 : Hp}, Ext (g.plus a) g2 H1 H2 → Ext g (g2.less g.M) H1 H2 := fun {g2 H2} e2 => ⟨e2.keep, e2.live, rfl, e2.bsub, e2.bnew, e2.dsub, e2.own, e2.s⟩
  refine ⟨g.plus a, ρ, R1, T.all_mono q' (fun s qs g2 H2 e2 vs N mix R2 => ?_) fun c xs qs g2 H2 C d ws' e2 hB hm hd hl hr => ?_⟩
  · have e3 := lessE e2
    have ha1 : ∀ b ∈ N, b ≠ a := fun b hb z => by
      have := (mix.1 b hb).1
      rw [z, ho] at this
      cases this
    have haN : a ∉ N := fun z => ha1 a z rfl
    have eg : (g2.less g.M).plus a = g2 := less_plus e2.m
    have hown : ∀ i, (g.plus a).own i ≠ some a := fun i z => (R1.sep i a z).1 (.inr rfl)
    have hB : ¬ (g.plus a).B a := R1.mb a (.inr rfl)
    have ho2 : H2 a = some (.dT []) := e2.keep a _ ho hown hB
    have naL : ¬ (g2.less g.M).Av a := by
      rintro (z | ⟨i, z⟩ | z)
      · exact na (.inl z)
      · rcases e2.own i a z with ⟨j, hj⟩ | hj
        · exact hown j hj
        · rw [ho] at hj; cases hj
      · rcases e2.bnew a z with hb | hb
        · exact hB hb
        · rw [ho] at hb; cases hb
    have ea : ((g2.less g.M).plusL (a :: N)) = g2.plusL N := by
      rw [plusL_cons]
      conv => rhs; rw [← eg]
      unfold G.plusL G.plus G.less
      congr 1
      funext b
      refine propext ⟨fun h => ?_, fun h => ?_⟩
      · rcases h with (h | h) | h
        · exact .inl (.inl h)
        · exact .inr h
        · exact .inl (.inr h)
      · rcases h with (h | h) | h
        · exact .inl (.inl h)
        · exact .inr h
        · exact .inl (.inr h)
    refine okT_ret' (show okT (gc X ct) β Ex g H (.ret (Itm.nd :: s.1, s.2)) _ from qs) (e.trans e3) (.ref a :: vs) (a :: N) ⟨fun b hb => ?_, List.nodup_cons.mpr ⟨haN, mix.2.1⟩, a, vs, N, rfl, rfl, ho2, ?_⟩ ?_
    · rcases List.mem_cons.mp hb with z | z
      · rw [z]
        exact ⟨hn, naL⟩
      · refine ⟨none_back e (mix.1 b z).1, fun y => (mix.1 b z).2 ?_⟩
        rw [← eg]
        exact plus_av.mpr (.inl y)
    · rw [ea]
      exact mix.2.2
    · rw [ea]
      exact R2
  · refine qs (g2.less g.M) H2 C d ws' (e.trans (lessE e2)) hB hm hd hl (hr.imp (fun b o q nb => ⟨q, fun z => nb ?_⟩) fun _ h => h)
    rw [← less_plus (g := g) e2.m]
    exact plus_av.mpr (.inl z)
end
def setM : List Nat → List Itm → Env' → Option Env'
  | [], [], ρ => some ρ
  | i :: is, .fr t :: r, ρ => if i < ρ.length then setM is r (ρ.set i (.fro t)) else none
  | i :: is, .nl xs :: r, ρ => if i < ρ.length then setM is r (ρ.set i (.ml xs)) else none
  | i :: is, .nd :: r, ρ => if i < ρ.length then setM is r (ρ.set i (.md false [])) else none
  | _, _, _ => none
def setV : List Nat → List V → L2.St → L2.St
  | i :: is, v :: vs, σ => setV is vs (σ.set i (some v))
  | _, _, σ => σ
def sMix (is : List Nat) (m : SemM) : SSem := fun ρ => (m ρ).bind fun p => (lift (setM is p.1 p.2)).bind fun ρ' => .ret (.nx ρ')
section
variable {c0 : Gc} {β : BInv} {g : G} {H : Hp} {ρ : Env'} {σ : L2.St} {a : Addr}
theorem Rel.takeDT {j : Nat} (R : Rel c0 β (g.plus a) ρ σ H) (hj : j < ρ.length) (ho : H a = some (.dT [])) (na : ¬ g.Av a) : Rel c0 β (g.own1 j a) (ρ.set j (.md false [])) (σ.set j (some (.ref a))) H where
  len := by rw [List.length_set, List.length_set]; exact R.len
  sl := fun i s hs => by
    by_cases hi : i = j
    · subst hi
      rw [List.getElem?_set_self hj] at hs
      cases hs
      rw [own1_same, List.getElem?_set_self (by rw [R.len]; exact hj)]
      exact ⟨a, [], rfl, rfl, rfl, .inr ⟨[], ho, .nil, rfl⟩⟩
    · rw [List.getElem?_set_ne (Ne.symm hi)] at hs
      rw [own1_ne hi, List.getElem?_set_ne (Ne.symm hi)]
      exact slot_weak (fun b h => own1_av h) rfl rfl (R.sl i s hs)
  out := fun i hi => by
    rw [List.length_set] at hi
    rw [own1_ne (by omega)]
    exact R.out i hi
  inj := fun i k b h1 h2 => by
    have nobody : ∀ i, (g.plus a).own i ≠ some a := fun i h => na (.inr (.inl ⟨i, h⟩))
    by_cases hi : i = j
    · by_cases hk : k = j
      · rw [hi, hk]
      · subst hi
        rw [own1_same] at h1
        cases h1
        rw [own1_ne hk] at h2
        exact absurd h2 (nobody k)
    · by_cases hk : k = j
      · subst hk
        rw [own1_same] at h2
        cases h2
        rw [own1_ne hi] at h1
        exact absurd h1 (nobody i)
      · rw [own1_ne hi] at h1
        rw [own1_ne hk] at h2
        exact R.inj i k b h1 h2
  alive := fun b h => R.alive b (.inl h)
  nt := fun b h => R.nt b (.inl h)
  sep := fun i b h => by
    by_cases hi : i = j
    · subst hi
      rw [own1_same] at h
      cases h
      exact ⟨fun z => na (.inl z), fun z => na (.inr (.inr z))⟩
    · rw [own1_ne hi] at h
      exact ⟨fun z => (R.sep i b h).1 (.inl z), (R.sep i b h).2⟩
  mb := fun b h => R.mb b (.inl h)
  box := R.box
end
theorem mix_set {c0 : Gc} {β : BInv} {A D : Addr → Prop} {g0 : G} {H0 H : Hp} : ∀ {is : List Nat} {items : List Itm} {ρ ρ' : Env'} {vs : List V} {N : List Addr} {g : G} {σ : L2.St},
    Ext g0 g H0 H → (∀ b ∈ N, H0 b = none ∧ ¬ g.Av b) → N.Nodup → (∀ b, (g.plusL N).Av b → A b) → (∀ b, D b → g.D b) → Mx c0 A D H items vs N → Rel c0 β (g.plusL N) ρ σ H → setM is items ρ = some ρ' →
    ∃ g', Ext g0 g' H0 H ∧ Rel c0 β g' ρ' (setV is vs σ) H ∧ vs.length = is.length
  | [], [], ρ, ρ', vs, N, g, σ, e, hN, nd, hA, hD, hm, R, hs => by
    obtain ⟨rfl, rfl⟩ := hm
    cases hs
    rw [plusL_nil] at R
    exact ⟨g, e, R, rfl⟩
  | i :: is, .fr t :: r, ρ, ρ', vs, N, g, σ, e, hN, nd, hA, hD, hm, R, hs => by
    obtain ⟨v, vs', rfl, rv, hm⟩ := hm
    have hs : (if i < ρ.length then setM is r (ρ.set i (.fro t)) else none) = some ρ' := hs
    by_cases hi : i < ρ.length
    · rw [if_pos hi] at hs
      have rv' : RepG c0 (g.plusL N) H t v := rv.imp (fun b o q nb => ⟨q, fun z => nb (hA b z)⟩) hD
      have R1 := R.setFro rv' hi
      have nf : ∀ {b : Addr}, (g.no i).Av b → g.Av b := fun {b} z => by
        rcases z with z | ⟨k, z⟩ | z
        · exact .inl z
        · by_cases hk : k = i
          · subst hk; rw [own_no] at z; cases z
          · rw [own_no_ne hk] at z; exact .inr (.inl ⟨k, z⟩)
        · exact .inr (.inr z)
      obtain ⟨g', e', R', hl⟩ := mix_set (is := is) (g := g.no i) (e.trans (ext_no g i H)) (fun b hb => ⟨(hN b hb).1, fun z => (hN b hb).2 (nf z)⟩) nd (fun b z => hA b ((plusL_av.mp z).elim (fun z => plusL_av.mpr (.inl (nf z))) fun z => plusL_av.mpr (.inr z))) hD hm R1 hs
      exact ⟨g', e', R', by rw [List.length_cons, List.length_cons, hl]⟩
    · rw [if_neg hi] at hs
      cases hs
  | i :: is, .nl xs :: r, ρ, ρ', vs, N, g, σ, e, hN, nd, hA, hD, hm, R, hs => by
    obtain ⟨a, vs', N', ws, rfl, rfl, ho, rx, hm⟩ := hm
    have hs : (if i < ρ.length then setM is r (ρ.set i (.ml xs)) else none) = some ρ' := hs
    by_cases hi : i < ρ.length
    · rw [if_pos hi] at hs
      obtain ⟨haN, nd'⟩ := List.nodup_cons.mp nd
      have hna := (hN a List.mem_cons_self).2
      rw [plusL_cons] at R
      have nL : ¬ (g.plusL N').Av a := fun z => (plusL_av.mp z).elim hna haN
      have rx' : RepsG c0 ((g.plusL N').plus a) H xs ws := RepL.imp (fun b o q nb => ⟨q, fun z => nb (hA b (by rw [plusL_cons]; exact z))⟩) hD rx
      have R1 := R.take hi ho nL rx'
      have R1' : Rel c0 β ((g.own1 i a).plusL N') (ρ.set i (.ml xs)) (σ.set i (some (.ref a))) H := R1
      obtain ⟨g', e', R', hl⟩ := mix_set (is := is) (g := g.own1 i a) (ext_own1 e (hN a List.mem_cons_self).1) (fun b hb => ⟨(hN b (List.mem_cons_of_mem _ hb)).1, fun z => by
          rcases plus_av.mp (own1_av z) with z | z
          · exact (hN b (List.mem_cons_of_mem _ hb)).2 z
          · rw [z] at hb; exact haN hb⟩) nd' (fun b z => hA b (by
          rcases plusL_av.mp z with z | z
          · rcases plus_av.mp (own1_av z) with z | z
            · exact plusL_av.mpr (.inl z)
            · exact plusL_av.mpr (.inr (by rw [z]; exact List.mem_cons_self))
          · exact plusL_av.mpr (.inr (List.mem_cons_of_mem _ z)))) hD hm R1' hs
      exact ⟨g', e', R', by rw [List.length_cons, List.length_cons, hl]⟩
    · rw [if_neg hi] at hs
      cases hs
  | i :: is, .nd :: r, ρ, ρ', vs, N, g, σ, e, hN, nd, hA, hD, hm, R, hs => by
    obtain ⟨a, vs', N', rfl, rfl, ho, hm⟩ := hm
    have hs : (if i < ρ.length then setM is r (ρ.set i (.md false [])) else none) = some ρ' := hs
    by_cases hi : i < ρ.length
    · rw [if_pos hi] at hs
      obtain ⟨haN, nd'⟩ := List.nodup_cons.mp nd
      have hna := (hN a List.mem_cons_self).2
      rw [plusL_cons] at R
      have nL : ¬ (g.plusL N').Av a := fun z => (plusL_av.mp z).elim hna haN
      have R1 := R.takeDT hi ho nL
      have R1' : Rel c0 β ((g.own1 i a).plusL N') (ρ.set i (.md false [])) (σ.set i (some (.ref a))) H := R1
      obtain ⟨g', e', R', hl⟩ := mix_set (is := is) (g := g.own1 i a) (ext_own1 e (hN a List.mem_cons_self).1) (fun b hb => ⟨(hN b (List.mem_cons_of_mem _ hb)).1, fun z => by
          rcases plus_av.mp (own1_av z) with z | z
          · exact (hN b (List.mem_cons_of_mem _ hb)).2 z
          · rw [z] at hb; exact haN hb⟩) nd' (fun b z => hA b (by
          rcases plusL_av.mp z with z | z
          · rcases plus_av.mp (own1_av z) with z | z
            · exact plusL_av.mpr (.inl z)
            · exact plusL_av.mpr (.inr (by rw [z]; exact List.mem_cons_self))
          · exact plusL_av.mpr (.inr (List.mem_cons_of_mem _ z)))) hD hm R1' hs
      exact ⟨g', e', R', by rw [List.length_cons, List.length_cons, hl]⟩
    · rw [if_neg hi] at hs
      cases hs
  | [], .fr _ :: _, _, _, _, _, _, _, _, _, _, _, _, _, _, hs => by cases hs
  | [], .nl _ :: _, _, _, _, _, _, _, _, _, _, _, _, _, _, hs => by cases hs
  | [], .nd :: _, _, _, _, _, _, _, _, _, _, _, _, _, _, hs => by cases hs
  | _ :: _, [], _, _, _, _, _, _, _, _, _, _, _, _, _, hs => by cases hs
section
variable {X : Cx} {ct : CT} {β : BInv} {Ex : XK} {a b c : Expr} {m : SemM} {pos px py pz pt pt2 : Pos} {kt k2 : Nat} {x y z : Str} {i j l : Nat}
theorem mix_end {is : List Nat} {D : Ends} {σ : L2.St} {H : Hp} {Q : List V → Hp → Prop} (h : rdS (gc X ct) β Ex (sMix is m) D σ H) (hQ : ∀ vs H1, vs.length = is.length → (∀ H2, Same H1 H2 → D.nx (setV is vs σ) H2) → Q vs H1) : rdM (gc X ct) β Ex m σ H Q := by
  obtain ⟨g, ρ, R, h⟩ := h
  refine ⟨g, ρ, R, okT_bind0 h fun p q g1 H1 e vs N mix R1 => ?_⟩
  cases hs : setM is p.1 p.2 with
  | none =>
    rw [hs] at q
    exact (show False from q).elim
  | some ρ' =>
    rw [hs] at q
    have q' : okT (gc X ct) β Ex g H (.ret (.nx ρ')) (endOk (gc X ct) β D) := q
    have fin : ∀ H2, Same H1 H2 → D.nx (setV is vs σ) H2 ∧ vs.length = is.length := fun H2 s => by
      have hk : ∀ a o, H1 a = some o → ¬ (g1.plusL N).Av a → H2 a = some o ∧ ¬ (g1.plusL N).Av a := fun a o q na => ⟨s a o q, na⟩
      obtain ⟨g', e', R', hl⟩ := mix_set (A := (g1.plusL N).Av) (D := g1.D) (e.trans (Ext.same s)) (fun b hb => ⟨(mix.1 b hb).1, (mix.1 b hb).2⟩) mix.2.1 (fun _ h => h) (fun _ h => h) (mix.2.2.imp hk (fun _ h => h) fun a _ o q => s a o q) (R1.same s) hs
      exact ⟨okT_ret' q' e' _ R', hl⟩
    exact hQ vs H1 (fin H1 (Same.refl H1)).2 fun H2 s => (fin H2 s).1
theorem js_mix2 (i j : Nat) (hc : X.calm = true) (hN : X.N.Nodup) (ha : JM X ct β Ex [a, b] m) (hi : X.N[i]? = some x := by rfl) (hj : X.N[j]? = some y := by rfl) (hij : i ≠ j := by decide) (hx : X.env.scope.names.lookup x = some .local := by rfl) (hy : X.env.scope.names.lookup y = some .local := by rfl)
    (hw : swappedStores [.Tuple [.Name x px, .Name y py] kt pt] (.Tuple [a, b] k2 pt2) X.env = pure (some [x, y]) := by rfl) (hs : swapsWithSole [.Tuple [.Name x px, .Name y py] kt pt] (.Tuple [a, b] k2 pt2) pos.line X.env = pure false := by rfl) :
    JS X ct β Ex (.Assign [.Tuple [.Name x px, .Name y py] kt pt] (.Tuple [a, b] k2 pt2) pos) (sMix [i, j] m) := by
  refine PS.imp (ps_par hc hN hi hj hij hx hy ha hw hs) fun D σ H h => mix_end h fun vs H1 hl q => ?_
  match vs, hl with
  | [v, w], _ => exact ⟨v, w, rfl, q H1 (Same.refl H1)⟩
theorem js_mix3 (i j l : Nat) (hc : X.calm = true) (hN : X.N.Nodup) (ha : JM X ct β Ex [a, b, c] m) (hi : X.N[i]? = some x := by rfl) (hj : X.N[j]? = some y := by rfl) (hl : X.N[l]? = some z := by rfl) (hij : i ≠ j := by decide) (hil : i ≠ l := by decide) (hjl : j ≠ l := by decide) (hx : X.env.scope.names.lookup x = some .local := by rfl) (hy : X.env.scope.names.lookup y = some .local := by rfl) (hz : X.env.scope.names.lookup z = some .local := by rfl)
    (hw : swappedStores [.Tuple [.Name x px, .Name y py, .Name z pz] kt pt] (.Tuple [a, b, c] k2 pt2) X.env = pure (some [x, y, z]) := by rfl) (hs : swapsWithSole [.Tuple [.Name x px, .Name y py, .Name z pz] kt pt] (.Tuple [a, b, c] k2 pt2) pos.line X.env = pure false := by rfl) :
    JS X ct β Ex (.Assign [.Tuple [.Name x px, .Name y py, .Name z pz] kt pt] (.Tuple [a, b, c] k2 pt2) pos) (sMix [i, j, l] m) := by
  refine PS.imp (ps_par3 hc hN hi hj hl hij hil hjl hx hy hz ha hw hs) fun D σ H h => mix_end h fun vs H1 hl q => ?_
  match vs, hl with
  | [u, v, w], _ => exact ⟨u, v, w, rfl, q H1 (Same.refl H1)⟩
theorem js_mix2C (i j : Nat) (hc : X.calm = true) (hN : X.N.Nodup) (ha : JM X ct β Ex [a, b] m) (hi : X.N[i]? = some x := by rfl) (hj : X.N[j]? = some y := by rfl) (hx : Loc X.env.scope x := by first | exact Or.inl rfl | exact Or.inr rfl) (hy : Loc X.env.scope y := by first | exact Or.inl rfl | exact Or.inr rfl) (hfx : X.fn x = true ∨ X.env.scope.names.lookup x = some .local := by first | exact .inl rfl | exact .inr rfl) (hfy : X.fn y = true ∨ X.env.scope.names.lookup y = some .local := by first | exact .inl rfl | exact .inr rfl)
    (hw : swappedStores [.Tuple [.Name x px, .Name y py] kt pt] (.Tuple [a, b] k2 pt2) X.env = pure none := by rfl) (hs : swapsWithSole [.Tuple [.Name x px, .Name y py] kt pt] (.Tuple [a, b] k2 pt2) pos.line X.env = pure false := by rfl)
    (h1 : (assignEach [.Tuple [.Name x px, .Name y py] kt pt] X.env).map (·.2) = [assign (.Tuple [.Name x px, .Name y py] kt pt) X.env] := by rfl)
    (h2 : (assignEach [.Name x px, .Name y py] X.env).map (·.2) = assign (.Name x px) X.env :: (assignEach [.Name y py] X.env).map (·.2) := by rfl) (h3 : (assignEach [.Name y py] X.env).map (·.2) = assign (.Name y py) X.env :: (assignEach [] X.env).map (·.2) := by rfl)
    (h4 : (assignEach [.Name x px, .Name y py] X.env).length = 2 := by rfl) (h5 : (assignEach [.Name x px, .Name y py] X.env).findIdx? (·.1) = none := by rfl) :
    JS X ct β Ex (.Assign [.Tuple [.Name x px, .Name y py] kt pt] (.Tuple [a, b] k2 pt2) pos) (sMix [i, j] m) := by
  refine PS.imp (ps_asg (pe_tup ha) (pg_tup hc (pgs_cons (pg_name hN hi hx hfx) (pgs_cons (pg_name hN hj hy hfy) pgs_nil h3) h2) h4 h5) hs hw h1) fun D σ H h => mix_end h fun vs H1 hl q => ?_
  match vs, hl with
  | [v, w], _ => exact ⟨by show 2 ≤ sizeLine; decide, fun p hp => ⟨p, [v, w], rfl, .of upd_same, rfl, v, [w], rfl, w, [], rfl, rfl, q _ (same_upd hp)⟩⟩
end
theorem mNil_b {γ : Type} {ρ : Env'} {g : List Itm × Env' → T γ} : (mNil ρ).bind g = g ([], ρ) := rfl
theorem mF_b {γ : Type} {f : Sem} {k : SemM} {a0 : Slot} {l0 : Env'} {g : List Itm × Env' → T γ} : (mF f k (a0 :: l0)).bind g = ((f (a0 :: l0)).bind fun p => (frz p).bind fun q => (k q.2).bind fun r => g (.fr q.1 :: r.1, r.2)) := by
  show (((f _).bind _).bind g) = _
  simp only [T.bind_assoc, bind_ret']
theorem mN_b {γ : Type} {f : SemN} {k : SemM} {a0 : Slot} {l0 : Env'} {g : List Itm × Env' → T γ} : (mN f k (a0 :: l0)).bind g = ((f (a0 :: l0)).bind fun p => (k p.2).bind fun r => g (.nl p.1 :: r.1, r.2)) := by
  show (((f _).bind _).bind g) = _
  simp only [T.bind_assoc, bind_ret']
theorem mD_b {γ : Type} {k : SemM} {a0 : Slot} {l0 : Env'} {g : List Itm × Env' → T γ} : (mD k (a0 :: l0)).bind g = ((k (a0 :: l0)).bind fun r => g (.nd :: r.1, r.2)) := by
  show ((k _).bind _).bind g = _
  simp only [T.bind_assoc, bind_ret']
theorem sMix_b {γ : Type} {is : List Nat} {m : SemM} {a0 : Slot} {l0 : Env'} {g : Out → T γ} : (sMix is m (a0 :: l0)).bind g = ((m (a0 :: l0)).bind fun p => (lift (setM is p.1 p.2)).bind fun ρ' => g (.nx ρ')) := by
  show (((m _).bind _).bind g) = _
  simp only [T.bind_assoc, bind_ret']
theorem sRetDeal_b {γ : Type} {i : Nat} {f : SemN} {a0 : Slot} {l0 : Env'} {g : Out → T γ} : (sRetDeal i f (a0 :: l0)).bind g = ((f (a0 :: l0)).bind fun p => if p.1.all isNat && (isNatS p.2[i]? && decide (p.1.length ≤ 1000)) then g (.rt .box) else .bad) := by
  show (((f _).bind _).bind g) = _
  rw [T.bind_assoc]
  congr 1
  funext p
  split <;> rfl
theorem setM_nil {ρ : Env'} : setM [] [] ρ = some ρ := rfl
theorem setM_fr {i : Nat} {is : List Nat} {t : AV} {r : List Itm} {ρ : Env'} : setM (i :: is) (.fr t :: r) ρ = if i < ρ.length then setM is r (ρ.set i (.fro t)) else none := rfl
theorem setM_nd {i : Nat} {is : List Nat} {r : List Itm} {ρ : Env'} : setM (i :: is) (.nd :: r) ρ = if i < ρ.length then setM is r (ρ.set i (.md false [])) else none := rfl
theorem setM_nl {i : Nat} {is : List Nat} {xs : List AV} {r : List Itm} {ρ : Env'} : setM (i :: is) (.nl xs :: r) ρ = if i < ρ.length then setM is r (ρ.set i (.ml xs)) else none := rfl
end Dn
set_option Elab.async false
set_option linter.all false
set_option maxRecDepth 100000
set_option maxHeartbeats 0
namespace Dn
open PySem PySem.Spec PyProof.Rows L2
abbrev freshO (w : World) : Obj := { cls := .type "set", dict := none, data := .set #[] 0 (.fresh 0 0 (!w.params.followText "set-order")) }
section
variable {P : Program} {w : World} {A : Around} {E : Value → Shared → Prop} {s : Shared}
def MadeS (P : Program) (w : World) (s : Shared) (ks : List (Addr × List Int)) (r : Value) (s2 : Shared) : Prop :=
  r = .none ∧ ∃ h' tk L es ep t, s2 = { s with heap := h', toks := tk } ∧ SetTR P w h' s.heap.objs.size L es ep t ∧ Got ks ks.length L ∧ ∀ b o, s.heap.get? b = some o → h'.get? b = some o
theorem set_of_tup {u : Addr} {vs : Array Value} (ks : List (Addr × List Int)) {Q : Value → Shared → Prop} (nh : A.handled = none) (hu : s.heap.IsTuple u vs) (ev : vs.toList = ks.map fun p => Value.ref p.1)
    (tk : ∀ p ∈ ks, IsT P w s.heap p.2 p.1) (few : ks.length < 64) (un : A.units + 3 < cLine)
    (q : ∀ (h' : Heap) (n : Nat) L es ep t, SetTR P w h' s.heap.objs.size L es ep t → Got ks ks.length L → (∀ b o, s.heap.get? b = some o → h'.get? b = some o) → Q (.ref s.heap.objs.size) { s with heap := h', toks := n }) :
    wpAny (model P w) A (call (.type "set") [.ref u]) Q E s := by
  have size : vs.size = ks.length := by rw [← Array.length_toList, ev, List.length_map]
  obtain ⟨c0, cl, mro⟩ := F.called_set.mro
  have f1 := F.called_set.made; have f2 := F.called_set.sub
  refine wpAny_call (codeAny_of_tree (show wpAny _ _ (callAny (.type "set") _) _ _ _ from ?_))
  refine wpAny_pure ⟨Code.quiet_builtin _ (by decide +kernel), codeAny_builtin F.entry_type_call ?_⟩
  rw [Around.under_plain (weight_type_call_type "set" [Value.ref u] []) rfl]
  have f3 := F.called_set.notType; have f4 := F.called_set.canCreate; have f5 := F.typeCall_set_1 (.ref u)
  repeat (any_goals (first | assumption | wp_step))
  have c1 := code_set_led1 (P := P) (w := w) (A := A.in1) (s := s) (Value.ref u) (E := E) (Q₁ := fun o s1 => o = .ref s.heap.objs.size ∧ s1 = { s with heap := s.heap.push (freshO w) }) ⟨rfl, rfl⟩
  refine codeAny_mono c1 fun r s1 hr => ?_
  cases r with
  | error e => exact hr
  | ok fl =>
    cases fl with
    | ret ob =>
      obtain ⟨rfl, rfl⟩ := hr
      have at0 : (s.heap.push (freshO w)).get? s.heap.objs.size = some (freshO w) := Heap.get?_push_size _ rfl
      have ty0 : Shared.TypeIs { s with heap := s.heap.push (freshO w) } (.ref s.heap.objs.size) "set" := ⟨_, at0, rfl⟩
      have f6 := F.called_set.init.lookup; have f7 := F.called_set.init.bind (.ref s.heap.objs.size)
      repeat (any_goals (first | assumption | wp_step))
      refine codeAny_mono (codeAny_call_builtin (R := wants (MadeS P w s ks) E) F.called_set.init.plain F.entry_set_init (check_set_init_1 ty0 ?_)) fun r2 s2 hr2 => ?_
      · obtain ⟨⟨oc, od, oda, osl⟩, ho, hc, n, hd⟩ := hu
        simp only at hc hd
        subst hc hd
        have lt0 : u < s.heap.objs.size := Heap.lt_size ho
        have g1 := F.sub_tuple_set; have g2 := F.sub_tuple_frozenset
        have g3 : (Value.type "tuple" == Value.type "dict") = false := by decide
        have ho1 : (s.heap.push (freshO w)).get? u = some { cls := .type "tuple", dict := od, data := .seq vs n, slots := osl } := Heap.get?_push_of_some _ ho
        have it1 : (s.heap.push (freshO w)).IsTuple u vs := ⟨_, ho1, rfl, n, rfl⟩
        unfold Builtin.«set.__init__» noKeywords Builtin.Frozenset.updateFrom
        generalize hp : pyIter = pI
        wp_walk
        subst hp
        refine wpAny_pyIter_tuple it1 (wpAny_bind (wpAny_runValue ?_))
        have nh3 : A.in1.in1.in1.handled = none := by simp [nh]
        have sz1 : (s.heap.push (freshO w)).objs.size = s.heap.objs.size + 1 := Heap.size_push ..
        have ne1 : u ≠ (s.heap.push (freshO w)).objs.size := by
          rw [sz1]
          exact Nat.ne_of_lt (Nat.lt_succ_of_lt lt0)
        have nm1 : s.heap.objs.size ∉ [(s.heap.push (freshO w)).objs.size, u] := by
          rw [sz1, List.mem_cons, List.mem_singleton]
          rintro (z | z)
          · exact Nat.ne_of_lt (Nat.lt_succ_self _) z
          · exact Nat.ne_of_gt lt0 z
        have vals : ∀ (i : Nat) (v : Value), vs[i]? = some v → ∃ p, ks[i]? = some p ∧ v = .ref p.1 := fun i v hv => by
          have z : (ks.map fun p => Value.ref p.1)[i]? = some v := by rw [← ev, Array.getElem?_toList]; exact hv
          rw [List.getElem?_map] at z
          cases y : ks[i]? with
          | none => rw [y] at z; cases z
          | some p => rw [y] at z; cases z; exact ⟨p, rfl, rfl⟩
        have gone : ∀ b, s.heap.objs.size ≤ b → s.heap.get? b = none := fun b hb => by
          cases y : s.heap.get? b with
          | none => rfl
          | some o => exact absurd (Nat.lt_of_lt_of_le (Heap.lt_size y) hb) (Nat.lt_irrefl _)
        have at1 : ((s.heap.push (freshO w)).push { cls := .type "tuple_iterator", data := .fields #[.ref u, .int 0 0] }).get? s.heap.objs.size = some (freshO w) := Heap.get?_push_of_some _ at0
        refine set_update_tups ((Walks.tuple nh3 _ u ne1 vs).toS) s.heap.objs.size nm1 ks size few vals s.heap tk (gone _ (Nat.le_refl _)) (fun b hb => gone b ?_) un (vs.size - 0) 0 _ (by omega) (Nat.zero_le _)
          ⟨⟨_, Heap.get?_push_size _ rfl, rfl, rfl⟩, it1.push _⟩ (fun b o e => Heap.get?_push_of_some _ (Heap.get?_push_of_some _ e)) ⟨[], #[], 0, _, setTR_fresh at1, Got.zero ks⟩ fun s3 L es ep t mv st got kp => ?_
        · rw [List.mem_singleton.mp hb, sz1]
          exact Nat.le_succ _
        · rw [size] at got
          obtain ⟨h3, g3, d3, t3, o3⟩ := s3
          obtain rfl : g3 = s.gens := mv.gens
          obtain rfl : d3 = s.drawn := mv.drawn
          obtain rfl : o3 = s.os := mv.os
          show wpAny _ _ _ _ _ _
          refine wpAny_pure (show wpAny _ _ (ret Value.none) _ _ _ from wpAny_pure ?_)
          exact ⟨rfl, h3, t3, L, es, ep, t, rfl, st, got, kp⟩
      · cases r2 with
        | error e => exact hr2
        | ok fl2 =>
          cases fl2 with
          | ret r =>
            obtain ⟨rfl, h3, n, L, es, ep, t, rfl, st, got, kp⟩ := hr2
            repeat (any_goals (first | assumption | wp_step))
            exact q _ _ _ _ _ _ st got kp
          | _ => exact hr2.elim
    | _ => exact hr.elim
end
end Dn
set_option Elab.async false
set_option linter.all false
set_option maxRecDepth 100000
set_option maxHeartbeats 0
namespace Dn
open PySem PySem.Spec PyProof.Rows L2
def rSetOfU (K : PySem.W.Frag) (P : Program) (w : World) : List V → Hp → VK → Prop := fun xs H Q => ∃ (l : Addr) (ks : List (Addr × List Int)), xs = [V.ref l] ∧ (SqL K H l (ks.map fun p => V.ref p.1) ∨ SqT K H l (ks.map fun p => V.ref p.1)) ∧ (∀ p ∈ ks, SqT K H p.1 (p.2.map V.int)) ∧ ks.length < 64 ∧
  ∀ a L, H a = none → (∀ p ∈ L, p ∈ ks) → (∀ p ∈ ks, p.2 ∈ L.map (·.2)) → Q (.ref a) (upd H a (SetTO P w a L))
theorem cr_setOfU {X : Cx} (hc : X.calm = true) (hu : X.A.units + 64 < cLine) : CallR X (.type "set") (rSetOfU X.K X.prog X.w) := by
  intro pins s σ H xs us Q I r h
  obtain ⟨l, ks, rfl, hl, hk, hf, q⟩ := h
  rcases hl with hl | hl
  · exact cr_setOfT hc hu pins s σ H _ us Q I r ⟨l, ks, rfl, hl, hk, hf, q⟩
  · rw [Vals.ref1 r]
    obtain ⟨its, rv, pl, hz⟩ := I.tuple hl
    have ev : its.toArray.toList = ks.map fun p => Value.ref p.1 := by simpa using refs_of_vals rv
    refine set_of_tup (P := X.prog) (w := X.w) ks (I.ok.hd hc) pl ev (fun p hp => I.isT (hk p hp)) hf (by omega) fun h' tk L es ep t R g k => ?_
    refine ⟨.ref s.heap.objs.size, upd H s.heap.objs.size (SetTO X.prog X.w s.heap.objs.size L), I.laid (t' := tk) k (Nat.le_refl _) (setTO_new R.t0), rfl, q _ L (I.hok.fresh (Nat.le_refl _)) (fun p hp => List.mem_of_mem_take (g.sub p hp)) fun p hp => g.all p ?_⟩
    rw [List.take_length]
    exact hp
def tupInts : AV → Option (List Int)
  | .tup xs => intsOf xs
  | _ => none
def tupsInts : List AV → Option (List (List Int))
  | [] => some []
  | x :: xs => (tupInts x).bind fun k => (tupsInts xs).map fun r => k :: r
def tupV (k : List Int) : AV := .tup (k.map AV.int)
abbrev BIG : Int := 18446744073709551616
def insT (x : List Int) : List (List Int) → List (List Int)
  | [] => [x]
  | y :: r => if x = y then y :: r else if TS.code BIG x < TS.code BIG y then x :: y :: r else y :: insT x r
def srtT : List (List Int) → List (List Int)
  | [] => []
  | x :: r => insT x (srtT r)
def sameLen (d : Nat) (ks : List (List Int)) : Bool := ks.all fun k => k.length == d && k.all fun m => decide (0 ≤ m ∧ m < BIG)
def pSortSet (a : AV) : Option AV := (seqOf a).bind fun xs => (tupsInts xs).bind fun ks => if ks.length < 64 ∧ (1 ≤ (ks.headD [0]).length ∧ sameLen (ks.headD [0]).length ks = true) then some (.lst ((srtT ks).map tupV)) else none
theorem mem_insT {x z : List Int} : ∀ {l : List (List Int)}, z ∈ insT x l ↔ z = x ∨ z ∈ l
  | [] => by unfold insT; simp
  | y :: r => by
    unfold insT
    split
    · rename_i e
      rw [e]
      simp
    · split
      · simp
      · rw [List.mem_cons, mem_insT, List.mem_cons]
        constructor
        · rintro (h | h | h)
          · exact .inr (.inl h)
          · exact .inl h
          · exact .inr (.inr h)
        · rintro (h | h | h)
          · exact .inr (.inl h)
          · exact .inl h
          · exact .inr (.inr h)
theorem mem_srtT {z : List Int} : ∀ {l : List (List Int)}, z ∈ srtT l ↔ z ∈ l
  | [] => Iff.rfl
  | x :: r => by
    unfold srtT
    rw [mem_insT, mem_srtT, List.mem_cons]
theorem sameLen_iff {d : Nat} {ks : List (List Int)} : sameLen d ks = true ↔ ∀ k ∈ ks, k.length = d ∧ TS.Bd BIG k := by
  unfold sameLen
  rw [List.all_eq_true]
  refine forall_congr' fun k => forall_congr' fun _ => ?_
  rw [Bool.and_eq_true, beq_iff_eq, List.all_eq_true]
  refine and_congr_right fun _ => ⟨fun h m hm => of_decide_eq_true (h m hm), fun h m hm => decide_eq_true (h m hm)⟩
theorem code_inj {d : Nat} : ∀ {a b : List Int}, a.length = d → b.length = d → TS.Bd BIG a → TS.Bd BIG b → TS.code BIG a = TS.code BIG b → a = b := by
  induction d with
  | zero =>
    intro a b ha hb _ _ _
    rw [List.eq_nil_of_length_eq_zero ha, List.eq_nil_of_length_eq_zero hb]
  | succ d ih =>
    intro a b ha hb h1 h2 e
    cases a with
    | nil => cases ha
    | cons x a =>
      cases b with
      | nil => cases hb
      | cons y b =>
        have la : a.length = d := by simpa using ha
        have lb : b.length = d := by simpa using hb
        have l : a.length = b.length := la.trans lb.symm
        rcases Int.lt_trichotomy x y with z | z | z
        · have := TS.code_lt l h1.tail h2.tail z
          omega
        · subst z
          have q1 : ¬ TS.code BIG a < TS.code BIG b := fun q => by
            have := (TS.code_same (B := BIG) (d := x) l).mpr q
            omega
          have q2 : ¬ TS.code BIG b < TS.code BIG a := fun q => by
            have := (TS.code_same (B := BIG) (d := x) l.symm).mpr q
            omega
          rw [ih la lb h1.tail h2.tail (by omega)]
        · have := TS.code_lt l.symm h2.tail h1.tail z
          omega
abbrev ltT (a b : List Int) : Prop := TS.code BIG a < TS.code BIG b
theorem insT_sorted {d : Nat} {x : List Int} (hx : x.length = d ∧ TS.Bd BIG x) : ∀ {l : List (List Int)}, (∀ k ∈ l, k.length = d ∧ TS.Bd BIG k) → l.Pairwise ltT → (insT x l).Pairwise ltT
  | [], _, _ => List.pairwise_singleton _ _
  | y :: r, hl, h => by
    have h1 := List.pairwise_cons.mp h
    unfold insT
    split
    · exact h
    · rename_i ne
      split
      · rename_i lt
        refine List.pairwise_cons.mpr ⟨fun z hz => ?_, h⟩
        rcases List.mem_cons.mp hz with e | e
        · rw [e]
          exact lt
        · exact Int.lt_trans lt (h1.1 z e)
      · rename_i nlt
        refine List.pairwise_cons.mpr ⟨fun z hz => ?_, insT_sorted hx (fun k hk => hl k (List.mem_cons_of_mem _ hk)) h1.2⟩
        rcases mem_insT.mp hz with e | e
        · rw [e]
          have hy := hl y List.mem_cons_self
          rcases Int.lt_trichotomy (TS.code BIG x) (TS.code BIG y) with q | q | q
          · exact absurd q nlt
          · exact absurd (code_inj hx.1 hy.1 hx.2 hy.2 q) ne
          · exact q
        · exact h1.1 z e
theorem srtT_sorted {d : Nat} : ∀ {l : List (List Int)}, (∀ k ∈ l, k.length = d ∧ TS.Bd BIG k) → (srtT l).Pairwise ltT
  | [], _ => List.Pairwise.nil
  | x :: r, h => insT_sorted (h x List.mem_cons_self) (fun k hk => h k (List.mem_cons_of_mem _ (mem_srtT.mp hk))) (srtT_sorted fun k hk => h k (List.mem_cons_of_mem _ hk))
theorem ltT_uniq : ∀ {l m : List (List Int)}, l.Pairwise ltT → m.Pairwise ltT → (∀ z, z ∈ l ↔ z ∈ m) → l = m
  | [], [], _, _, _ => rfl
  | [], y :: m, _, _, h => by cases (h y).mpr List.mem_cons_self
  | x :: l, [], _, _, h => by cases (h x).mp List.mem_cons_self
  | x :: l, y :: m, h1, h2, h => by
    have a := List.pairwise_cons.mp h1
    have b := List.pairwise_cons.mp h2
    have e : x = y := by
      rcases List.mem_cons.mp ((h x).mp List.mem_cons_self) with e | e
      · exact e
      · rcases List.mem_cons.mp ((h y).mpr List.mem_cons_self) with e' | e'
        · exact e'.symm
        · have p := a.1 y e'
          have q := b.1 x e
          exact absurd (Int.lt_trans p q) (Int.lt_irrefl _)
    subst e
    rw [ltT_uniq a.2 b.2 fun z => ⟨fun hz => ?_, fun hz => ?_⟩]
    · rcases List.mem_cons.mp ((h z).mp (List.mem_cons_of_mem _ hz)) with e | e
      · have := a.1 z hz
        rw [e] at this
        exact absurd this (Int.lt_irrefl _)
      · exact e
    · rcases List.mem_cons.mp ((h z).mpr (List.mem_cons_of_mem _ hz)) with e | e
      · have := b.1 z hz
        rw [e] at this
        exact absurd this (Int.lt_irrefl _)
      · exact e
theorem tupsInts_reps {c0 : Gc} {g : G} {H : Hp} : ∀ {xs : List AV} {vs : List V} {kk : List (List Int)}, RepsG c0 g H xs vs → tupsInts xs = some kk → ∃ ks : List (Addr × List Int), vs = (ks.map fun p => V.ref p.1) ∧ ks.map (·.2) = kk ∧ ∀ p ∈ ks, SqT c0.K H p.1 (p.2.map V.int) ∧ RepG c0 g H (tupV p.2) (.ref p.1)
  | [], vs, kk, r, e => by
    cases e
    rw [RepsG, RepL] at r
    exact ⟨[], r, rfl, fun p hp => by cases hp⟩
  | x :: xs, vs, kk, r, e => by
    rw [RepsG, RepL] at r
    obtain ⟨v, vs', rfl, rx, r⟩ := r
    unfold tupsInts at e
    cases x with
    | tup ys =>
      cases e1 : intsOf ys with
      | none =>
        rw [show tupInts (.tup ys) = intsOf ys from rfl, e1] at e
        cases e
      | some k =>
        rw [show tupInts (.tup ys) = intsOf ys from rfl, e1, Option.bind_some] at e
        cases e2 : tupsInts xs with
        | none => rw [e2] at e; cases e
        | some kk' =>
          rw [e2] at e
          cases e
          obtain ⟨ks, rfl, e3, h⟩ := tupsInts_reps r e2
          have e4 := intsOf_eq e1
          subst e4
          have rx0 := rx
          rw [Rep] at rx
          obtain ⟨a, ws, rfl, q, rw'⟩ := rx
          have := reps_ints rw'
          subst this
          refine ⟨(a, k) :: ks, rfl, by rw [List.map_cons, e3], fun p hp => ?_⟩
          rcases List.mem_cons.mp hp with z | z
          · rw [z]
            exact ⟨q.sq, rx0⟩
          · exact h p z
    | _ => cases e
theorem o_sortSet {X : Cx} {ct : CT} : Op1' X ct (fun x H Q => rSetOfU X.K X.prog X.w [x] H fun y H2 => rSortedT X.K X.prog X.w [y] H2 Q) pSortSet := by
  intro g H a z x Q live ra e q
  unfold pSortSet at e
  cases e1 : seqOf a with
  | none => rw [e1] at e; cases e
  | some xs =>
    rw [e1, Option.bind_some] at e
    cases e2 : tupsInts xs with
    | none => rw [e2] at e; cases e
    | some kk =>
      rw [e2, Option.bind_some] at e
      obtain ⟨⟨h64, h1, hs⟩, rfl⟩ := ifp_some e
      obtain ⟨l, vs, rfl, hq, r⟩ := seq_sq ra e1
      obtain ⟨ks, rfl, ek, hk⟩ := tupsInts_reps r e2
      have hs' := sameLen_iff.mp hs
      have hkk : ∀ p ∈ ks, p.2 ∈ kk := fun p hp => by rw [← ek]; exact List.mem_map.mpr ⟨p, hp, rfl⟩
      refine ⟨l, ks, rfl, hq, fun p hp => (hk p hp).1, by rw [← ek, List.length_map] at h64; exact h64, fun b L nb hsub hall => ?_⟩
      have s1 := same_upd (o := SetTO X.prog X.w b L) nb
      have keepT : ∀ p ∈ L, SqT X.K (upd H b (SetTO X.prog X.w b L)) p.1 (p.2.map V.int) := fun p hp => by
        rcases (hk p (hsub p hp)).1 with h | h
        · rcases h with h | ⟨o, h⟩
          · exact .inl (.inl (s1 _ _ h))
          · exact .inl (.inr ⟨o, s1 _ _ h⟩)
        · exact .inr h
      refine ⟨b, L, (kk.headD [0]).length, BIG, rfl, upd_same, keepT, h1, fun p hp => hs' _ (hkk p (hsub p hp)), fun L' c pm nd _ pw nc => ?_⟩
      have s2 := same_upd (o := .lst (L'.map fun q => V.ref q.1)) nc
      have s := s1.trans s2
      have nc0 : H c = none := none_back (Ext.same (g := g) s1) nc
      have hL' : ∀ p ∈ L', p ∈ ks := fun p hp => hsub p (pm.mem_iff.mp hp)
      have pw' : (L'.map (·.2)).Pairwise ltT := by
        refine List.pairwise_map.mpr (List.Pairwise.imp_of_mem (fun {p q} hp hq hpq => ?_) (pw.and (List.pairwise_map.mp nd)))
        obtain ⟨hle, hne⟩ := hpq
        have b1 := hs' _ (hkk p (hL' p hp))
        have b2 := hs' _ (hkk q (hL' q hq))
        rcases Int.lt_or_eq_of_le hle with z | z
        · exact z
        · exact absurd (code_inj b1.1 b2.1 b1.2 b2.2 z) hne
      have eL : L'.map (·.2) = srtT kk := by
        refine ltT_uniq pw' (srtT_sorted hs') fun z => ?_
        rw [mem_srtT]
        constructor
        · intro hz
          obtain ⟨p, hp, rfl⟩ := List.mem_map.mp hz
          exact hkk p (hL' p hp)
        · intro hz
          rw [← ek] at hz
          obtain ⟨p, hp, rfl⟩ := List.mem_map.mp hz
          obtain ⟨p', hp', e'⟩ := List.mem_map.mp (hall p hp)
          rw [← e']
          exact List.mem_map.mpr ⟨p', pm.mem_iff.mpr hp', rfl⟩
      refine q _ _ s (rep_lst_new (fun z => live c z nc0) upd_same ?_)
      rw [← eL, List.map_map]
      have : ∀ (M : List (Addr × List Int)), (∀ p ∈ M, p ∈ ks) → RepsG (gc X ct) g (upd (upd H b (SetTO X.prog X.w b L)) c (.lst (L'.map fun q => V.ref q.1))) (M.map (tupV ∘ fun p => p.2)) (M.map fun q => V.ref q.1) := fun M => by
        induction M with
        | nil => exact fun _ => .nil
        | cons p M ih => exact fun hM => .cons ((Ext.same s).rep (hk p (hM p List.mem_cons_self)).2) (ih fun q hq => hM q (List.mem_cons_of_mem _ hq))
      exact this L' hL'
section
variable {X : Cx} {ct : CT} {β : BInv} {Ex : XK} {a : Expr} {f : Sem} {pos p pos2 p2 : Pos}
theorem j_sortSet (h64 : X.A.units + 64 < cLine) (hg : Gl X "sorted") (hm : X.mg "sorted" = none) (hg2 : Gl X "set") (hm2 : X.mg "set" = none) (ha : JE X ct β Ex a f) (hc : X.calm = true := by rfl)
    (he : starEach [a] X.env = (false, eval a X.env) :: starEach [] X.env := by rfl) (he2 : starEach [.Call (.Name "set" p2) [a] [] pos2] X.env = (false, eval (.Call (.Name "set" p2) [a] [] pos2) X.env) :: starEach [] X.env := by rfl) :
    JE X ct β Ex (.Call (.Name "sorted" p) [.Call (.Name "set" p2) [a] [] pos2] [] pos) (fUn pSortSet f) := by
  refine PE.imp (pe_callB (L2.cr_sortedT hc) hg hm (by decide +kernel) (pa_cons (pe_callTy (cr_setOfU hc h64) hg2 hm2 (by decide +kernel) (pa_cons ha pa_nil he) (by decide +kernel) (by decide +kernel) he) pa_nil he2) (by decide +kernel) (by decide +kernel) he2) fun σ H Q h => ?_
  exact fUn_ok' o_sortSet h
end
def pairInts : AV → Option (Int × Int)
  | .tup [.int i, .int j] => some (i, j)
  | _ => none
def pairsInts : List AV → Option (List (Int × Int))
  | [] => some []
  | x :: xs => (pairInts x).bind fun k => (pairsInts xs).map fun r => k :: r
def prV (p : Int × Int) : AV := .tup [.int p.1, .int p.2]
def insP (x : Int × Int) : List (Int × Int) → List (Int × Int)
  | [] => [x]
  | y :: r => if SrtO.lexB y x = false then x :: y :: r else y :: insP x r
def isortP : List (Int × Int) → List (Int × Int)
  | [] => []
  | x :: r => insP x (isortP r)
def lstOf1 : AV → Option (List AV)
  | .lst xs => some xs
  | _ => none
def pSortP (a : AV) : Option AV := (lstOf1 a).bind fun xs => (pairsInts xs).map fun ks => .lst ((isortP ks).map prV)
theorem insP_perm (x : Int × Int) : ∀ l, (insP x l).Perm (x :: l)
  | [] => List.Perm.refl _
  | y :: r => by
    unfold insP
    split
    · exact List.Perm.refl _
    · exact (List.Perm.cons y (insP_perm x r)).trans (List.Perm.swap x y r)
theorem isortP_perm : ∀ l, (isortP l).Perm l
  | [] => List.Perm.refl _
  | x :: r => (insP_perm x (isortP r)).trans (List.Perm.cons x (isortP_perm r))
abbrev leP (a b : Int × Int) : Prop := a.1 < b.1 ∨ a.1 = b.1 ∧ a.2 ≤ b.2
theorem lexB_leP {a b : Int × Int} : SrtO.lexB b a = false ↔ leP a b := by
  rw [SrtO.lexB_no]
  omega
theorem insP_sorted (x : Int × Int) : ∀ {l : List (Int × Int)}, l.Pairwise leP → (insP x l).Pairwise leP
  | [], _ => List.pairwise_singleton _ _
  | y :: r, h => by
    have h1 := List.pairwise_cons.mp h
    unfold insP
    split
    · rename_i hx
      have hx := lexB_leP.mp hx
      refine List.pairwise_cons.mpr ⟨fun z hz => ?_, h⟩
      rcases List.mem_cons.mp hz with e | e
      · rw [e]
        exact hx
      · have := h1.1 z e
        omega
    · rename_i hx
      have hx : ¬ (x.1 < y.1 ∨ x.1 = y.1 ∧ x.2 ≤ y.2) := fun q => hx (lexB_leP.mpr q)
      refine List.pairwise_cons.mpr ⟨fun z hz => ?_, insP_sorted x h1.2⟩
      rcases List.mem_cons.mp ((insP_perm x r).mem_iff.mp hz) with e | e
      · rw [e]
        show y.1 < x.1 ∨ y.1 = x.1 ∧ y.2 ≤ x.2
        omega
      · exact h1.1 z e
theorem isortP_sorted : ∀ l, (isortP l).Pairwise leP
  | [] => List.Pairwise.nil
  | x :: r => insP_sorted x (isortP_sorted r)
theorem leP_uniq : ∀ {l m : List (Int × Int)}, l.Perm m → l.Pairwise leP → m.Pairwise leP → l = m
  | [], m, p, _, _ => by rw [List.nil_perm] at p; exact p.symm
  | x :: l, [], p, _, _ => by rw [List.perm_nil] at p; exact p
  | x :: l, y :: m, p, h1, h2 => by
    have a := List.pairwise_cons.mp h1
    have b := List.pairwise_cons.mp h2
    have e : x = y := by
      have hx := p.mem_iff.mp (List.mem_cons_self (a := x) (l := l))
      have hy := p.mem_iff.mpr (List.mem_cons_self (a := y) (l := m))
      rcases List.mem_cons.mp hx with e | e
      · exact e
      · rcases List.mem_cons.mp hy with e' | e'
        · exact e'.symm
        · have := a.1 y e'
          have := b.1 x e
          exact Prod.ext (by omega) (by omega)
    subst e
    rw [leP_uniq p.cons_inv a.2 b.2]
theorem pairsInts_eq : ∀ {xs : List AV} {kk : List (Int × Int)}, pairsInts xs = some kk → xs = kk.map prV
  | [], _, e => by cases e; rfl
  | x :: xs, kk, e => by
    unfold pairsInts at e
    cases e1 : pairInts x with
    | none => rw [e1] at e; cases e
    | some k =>
      rw [e1, Option.bind_some] at e
      cases e2 : pairsInts xs with
      | none => rw [e2] at e; cases e
      | some kk' =>
        rw [e2] at e
        cases e
        rw [pairsInts_eq e2, List.map_cons]
        congr 1
        unfold pairInts at e1
        split at e1
        · cases e1; rfl
        · cases e1
theorem pairs_V {c0 : Gc} {g : G} {H : Hp} : ∀ {kk : List (Int × Int)} {vs : List V}, RepsG c0 g H (kk.map prV) vs → ∃ k : V → Int × Int, (∀ x ∈ vs, ∃ t, x = V.ref t ∧ H t = some (.tup [.int (k x).1, .int (k x).2])) ∧ vs.map k = kk ∧ ∀ x ∈ vs, RepG c0 g H (prV (k x)) x := by
  intro kk vs r
  refine ⟨fun x => match x with
    | .ref t => match H t with
      | some (.tup [.int i, .int j]) => (i, j)
      | _ => (0, 0)
    | _ => (0, 0), ?_⟩
  induction kk generalizing vs with
  | nil =>
    rw [List.map_nil, RepsG, RepL] at r
    subst r
    exact ⟨fun x hx => absurd hx List.not_mem_nil, rfl, fun x hx => absurd hx List.not_mem_nil⟩
  | cons p kk ih =>
    rw [List.map_cons, RepsG, RepL] at r
    obtain ⟨v, vs', rfl, rx, r⟩ := r
    obtain ⟨h1, h2, h3⟩ := ih r
    have rx0 := rx
    rw [prV, Rep] at rx
    obtain ⟨a, ws, rfl, q, rw'⟩ := rx
    have ew : ws = [V.int p.1, V.int p.2] := reps_ints (ns := [p.1, p.2]) rw'
    subst ew
    have hH : H a = some (.tup [V.int p.1, V.int p.2]) := by
      rcases q with ⟨_, q⟩ | ⟨_, _, _, _, _, _, _, _, z⟩
      · exact q
      · cases z
    refine ⟨fun x hx => ?_, ?_, fun x hx => ?_⟩
    · rcases List.mem_cons.mp hx with z | z
      · rw [z]
        exact ⟨a, rfl, by dsimp only; rw [hH]⟩
      · exact h1 x z
    · rw [List.map_cons, h2]
      congr 1
      dsimp only
      rw [hH]
    · rcases List.mem_cons.mp hx with z | z
      · rw [z]
        dsimp only
        rw [hH]
        exact rx0
      · exact h3 x z
theorem o_sortP {X : Cx} {ct : CT} : Op1' X ct (fun x H Q => rSortedPO X.K [x] H Q) pSortP := by
  intro g H a z x Q live ra e q
  unfold pSortP at e
  cases a with
  | lst xs =>
    rw [show lstOf1 (.lst xs) = some xs from rfl, Option.bind_some] at e
    cases e2 : pairsInts xs with
    | none => rw [e2] at e; cases e
    | some kk =>
      rw [e2] at e
      cases e
      have ex := pairsInts_eq e2
      subst ex
      obtain ⟨l, vs, rfl, hq, r⟩ := seq_sq ra (show seqOf (.lst (kk.map prV)) = some (kk.map prV) from rfl)
      obtain ⟨l', ws, e', hq', r'⟩ := ra.lst'
      cases e'
      obtain ⟨k, h1, h2, h3⟩ := pairs_V r'
      refine ⟨l, ws, k, rfl, .of hq', h1, fun ys c hs hb nc => ?_⟩
      have s := same_upd (o := .lst ys) nc
      have ey : ys.map k = isortP kk := by
        refine leP_uniq ?_ ?_ (isortP_sorted kk)
        · rw [← h2]
          exact (hb.perm.map k).trans (isortP_perm _).symm
        · exact List.pairwise_map.mpr (List.Pairwise.imp (fun {p q} h => lexB_leP.mp h) hs)
      refine q _ _ s (rep_lst_new (fun z => live c z nc) upd_same ?_)
      rw [← ey, List.map_map]
      have : ∀ (M : List V), (∀ p ∈ M, p ∈ ws) → RepsG (gc X ct) g (upd H c (.lst ys)) (M.map (prV ∘ k)) M := fun M => by
        induction M with
        | nil => exact fun _ => .nil
        | cons p M ih => exact fun hM => .cons ((Ext.same s).rep (h3 p (hM p List.mem_cons_self))) (ih fun q hq => hM q (List.mem_cons_of_mem _ hq))
      exact this ys fun p hp => hb.perm.mem_iff.mp hp
  | _ => cases e
end Dn
set_option Elab.async false
set_option linter.all false
set_option maxRecDepth 100000
set_option maxHeartbeats 0
namespace Dn
open PySem PySem.Spec PyProof.Rows L2
section
variable {P : Program} {w : World} {K : PySem.W.Frag} {mg : Str → Option Value} {base : Heap} {ct : CT} {β : BInv}
theorem init_defD {x qual : Str} {st : Stmt} {f : Addr} {fd : FuncData} {N ps : List Str} {k c : Nat} {body : SSem} {dvs : List V} {kws : List (Str × V)} (F : FunD K x qual (defArgs st) (defBody st) (defScope st) dvs kws f fd) (S : FnScope N ps (defScope st)) (hl : ps.length ≤ N.length) (hp : 0 < ps.length)
    (hb : ∀ (cdv : Value) (A : Around) (outer : List Env) (s : Shared) (H : Hp) (E : XK), Room k (A.deeper (envOfC qual (defScope st) s.heap.objs.size f cdv)) → JSs (cxOf (L2.CX P w) P w K mg base N qual (defScope st) f cdv A outer s H E) ct β E (defBody st) body) :
    FnOk P w K mg base (L2.CX P w) (k + 1) f fd ps (spI ⟨K, mg, ct⟩ β (ps.length - 1) c (fnInit (ps.length - 1) N.length c (ct c).2.length body)) := by
  refine F.ok S (fun vs H Q E h => ?_) fun cdv A outer s H vs Q E hr h => ?_
  · obtain ⟨g, ts, a, C, dx, ws, rfl, _, _, _, _, _, _, _, r, e, _⟩ := h
    rw [List.length_cons, r.length, e]
    omega
  · obtain ⟨g, ts, a, C, dx, ws, rfl, hcl, hcm, ho, hm, hmb, hbx, na, r, e, h⟩ := h
    refine ⟨_, hb cdv A outer s H E hr, g.self a, _, rel_startI hcl hcm ho hm hmb hbx na r e (by omega), ?_⟩
    unfold fnInit at h
    rw [if_pos e] at h
    refine okT_mono (okT_bind h) fun g' H' o e q => ?_
    cases o with
    | nx ρ =>
      intro σ R
      cases h0 : ρ[0]? with
      | none => simp only [outI, h0] at q; exact (show False from q).elim
      | some sl =>
        cases sl with
        | slf c' fs =>
          by_cases hc : c' = c ∧ fs.length = (ct c).2.length
          · simp only [outI, h0] at q
            rw [if_pos hc] at q
            obtain ⟨rfl, hn⟩ := hc
            obtain ⟨p, C', dx', vs, h1, h2, h3, h4, h5, h6, h7⟩ := R.sl 0 _ h0
            have hpa : p = a := by
              have z : g'.S = some a := e.s
              rw [h7] at z
              cases z
              rfl
            subst hpa
            have nx := okT_ret q
            refine nx _ rfl R.box ?_
            rw [RepG, Rep]
            refine ⟨p, C', dx', vs, rfl, fun z => ?_, h3, h4, by rw [h6.length]; exact hn, h6.imp (fun b o q nb => ⟨q, fun z => nb ?_⟩) fun _ h => h⟩
            · rcases z with z | ⟨i, z⟩ | z
              · exact (R.sep 0 p h1).1 z
              · simp only at z
                split at z
                · cases z
                · rename_i hi
                  exact hi (R.inj i 0 p z h1)
              · exact (R.sep 0 p h1).2 z
            · rcases z with z | ⟨i, z⟩ | z
              · exact .inl z
              · simp only at z
                split at z
                · cases z
                · exact .inr (.inl ⟨i, z⟩)
              · exact .inr (.inr z)
          · simp only [outI, h0] at q
            rw [if_neg hc] at q
            exact (show False from q).elim
        | _ => simp only [outI, h0] at q; exact (show False from q).elim
    | rt t => exact (show False from q).elim
    | bk ρ => exact (show False from q).elim
    | ct ρ => exact (show False from q).elim
end
def fMakeD (fn : List AV → T AV) (dts : List AV) (k : SemL) : Sem := fun ρ => (k ρ).bind fun p => (fn (p.1 ++ dts)).bind fun t => .ret (.val t, p.2)
theorem fMakeD_b {γ : Type} {fn : List AV → T AV} {dts : List AV} {k : SemL} {a0 : Slot} {l0 : Env'} {g : Hd × Env' → T γ} : (fMakeD fn dts k (a0 :: l0)).bind g = ((k (a0 :: l0)).bind fun p => (fn (p.1 ++ dts)).bind fun t => g (.val t, p.2)) := by
  show (((k _).bind _).bind g) = _
  simp only [T.bind_assoc, bind_ret']
section
variable {X : Cx} {ct : CT} {β : BInv} {Ex : XK} {e : Expr} {es : List Expr} {m : SemL} {pos p : Pos} {x : Str} {lv n c : Nat} {ps : List Str} {fn : List AV → T AV}
theorem j_makeG {C fa : Addr} {fd : FuncData} {ds : List Value} {dvs : List V} {dts : List AV} (M : Mk X.K C fa) (F : FnOk X.prog X.w X.K X.mg X.base (L2.CX X.prog X.w) lv fa fd ps (spI (gc X ct) β n c fn)) (hm : X.mg x = some (.ref C)) (nm : (ct c).1 = x) (hlen : ∀ ts : List AV, T.all (fun _ => True) (fun _ _ => True) (fn ts) → ts.length = n) (hb : Binds X.K fd ps ds) (hdv : Vals dvs ds) (hdt : Deft (gc X ct) dts dvs)
    (hr : Room (lv + 1) X.A) (hx : Passes (L2.CX X.prog X.w) X Ex) (ha : JL X ct β Ex (e :: es) m) (hg : Gl X x := by rfl) (hdb : (x == ("__debug__" : Str)) = false := by decide +kernel)
    (he : starEach (e :: es) X.env = (false, eval e X.env) :: starEach es X.env := by rfl) (hpl : (backTo pos (starEach es X.env)).any (·.1) = false := by rfl) : JE X ct β Ex (.Call (.Name x p) (e :: es) [] pos) (fMakeD fn dts m) := by
  refine PE.imp (pe_make M F hr hg hm hb hdv hx ha hdb he hpl) fun σ H Q h => ?_
  obtain ⟨g, ρ, R, h⟩ := h
  refine ⟨g, ρ, R, okT_mono (okT_bind h) fun g1 H1 q e1 h1 vs R1 rv a dx na nd hne => ?_⟩
  have h2 := okT_bind h1
  have s1 : Same H1 (upd H1 dx (.own a)) := same_upd nd
  have s2 : Same (upd H1 dx (.own a)) (upd (upd H1 dx (.own a)) a (.ins C dx [])) := same_upd (by rw [upd_ne (Ne.symm hne)]; exact na)
  have s := s1.trans s2
  have hcl : (upd (upd H1 dx (.own a)) a (.ins C dx [])) a = some (.ins C dx []) := upd_same
  generalize upd (upd H1 dx (.own a)) a (.ins C dx []) = H2 at s hcl ⊢
  have back : ∀ {b : Addr}, H2 b = none → H1 b = none := fun {b} z => none_back (Ext.same (g := g1) s) z
  have lv2 : ∀ {b : Addr}, H1 b ≠ none → H2 b ≠ none := fun {b} z y => z (back y)
  have ex : ∀ {g' : G} {H' : Hp}, Ext (g1.down.self a) g' H2 H' → Ext g1.down { g' with own := fun _ => none, S := g1.down.S } H1 H' := fun {g' H'} e => {
    keep := fun b o h hn hb => e.keep b o (s b o h) (fun i z => by
      unfold G.self at z
      simp only at z
      split at z
      · cases z; rw [na] at h; cases h
      · cases z) hb
    live := fun b h => e.live b (lv2 h)
    m := e.m
    bsub := e.bsub
    bnew := fun b h => (e.bnew b h).elim .inl fun z => .inr (back z)
    dsub := e.dsub
    own := fun i b h => by cases h
    s := rfl }
  refine ⟨g1.down, q.1 ++ dts, a, C, dx, vs ++ dvs, rfl, hcl, ?_, fun _ => rfl, fun b h => ?_, fun b h => ?_, β.frame R1.box fun b h => ?_, fun z => R1.freshAv na (down_av.mp z), ?_, hlen _ (T.all_mono h2 (fun _ _ => trivial) fun _ _ _ => trivial), ?_⟩
  · show X.mg (ct c).1 = _
    rw [nm]
    exact hm
  · have h : g1.Av b := h.elim .inl fun h => .inr (.inl h)
    refine ⟨lv2 (R1.avLive h), fun ws z => ?_⟩
    cases y : H1 b with
    | none => exact R1.avLive h y
    | some o => rw [s b o y] at z; cases z; exact R1.avNt h ws y
  · rcases h with h | ⟨i, h⟩
    · exact R1.mb b h
    · exact (R1.sep i b h).2
  · cases y : H1 b with
    | none => exact absurd y (β.live R1.box h)
    | some o => exact s b o y
  · exact reps_plus ((reps_down rv).append (hdt _ _)) s na
  · refine T.all_mono h2 (fun t z g' H' e g2 hg2 hb2 rt => ⟨rfl, ?_⟩) fun cc xs z g' H' C' d ws e hb2 hm2 hd2 hl2 rw2 => ?_
    · refine okT_ret (z _ _ (down_ext R1 (ex e))) (.ref a) (down_rel R1 (ex e) hb2) ?_
      subst hg2
      refine rt.imp (fun b o y nb => ⟨y, fun v => nb ?_⟩) fun _ h => h
      rcases v with v | ⟨i, v⟩ | v
      · exact .inl (by show g'.M b; rw [e.m]; exact .inl v)
      · exact .inl (by show g'.M b; rw [e.m]; exact .inr ⟨i, v⟩)
      · exact .inr (.inr v)
    · refine z _ _ C' d ws (down_ext R1 (ex e)) hb2 hm2 hd2 hl2 (rw2.imp (fun b o y nb => ⟨y, fun v => nb ?_⟩) fun _ h => h)
      rcases v with v | ⟨i, v⟩ | v
      · exact .inl (by rw [e.m]; exact .inl v)
      · exact .inl (by rw [e.m]; exact .inr ⟨i, v⟩)
      · exact .inr (.inr v)
structure CfD (P : Program) (w : World) (K : PySem.W.Frag) (mg : Str → Option Value) (base : Heap) (ct : CT) (β : BInv) (lv : Nat) (x : Str) (c n : Nat) (ps : List Str) (dts : List AV) (fn : List AV → T AV) : Prop where
  ex : ∃ C fa fd, Mk K C fa ∧ FnOk P w K mg base (L2.CX P w) lv fa fd ps (spI ⟨K, mg, ct⟩ β n c fn) ∧ mg x = some (.ref C) ∧ Binds K fd ps [] ∧ ∃ ds dvs, Binds K fd ps ds ∧ Vals dvs ds ∧ Deft ⟨K, mg, ct⟩ dts dvs
  nm : (ct c).1 = x
  len : ∀ ts : List AV, T.all (fun _ => True) (fun _ _ => True) (fn ts) → ts.length = n
theorem j_makeA {dts : List AV} (D : CfD X.prog X.w X.K X.mg X.base ct β lv x c n ps dts fn) (hr : Room (lv + 1) X.A) (hx : Passes (L2.CX X.prog X.w) X Ex) (ha : JL X ct β Ex (e :: es) m) (hg : Gl X x := by rfl) (hdb : (x == ("__debug__" : Str)) = false := by decide +kernel)
    (he : starEach (e :: es) X.env = (false, eval e X.env) :: starEach es X.env := by rfl) (hpl : (backTo pos (starEach es X.env)).any (·.1) = false := by rfl) : JE X ct β Ex (.Call (.Name x p) (e :: es) [] pos) (fMakeD fn [] m) := by
  obtain ⟨C, fa, fd, M, F, hm, hb, _⟩ := D.ex
  exact j_makeG M F hm D.nm D.len hb .nil deft0 hr hx ha hg hdb he hpl
end
theorem deft_unit {c0 : Gc} {a : Addr} {o : Obj} {n : Nat} (l : c0.K.lookup a = some o) (hc : o.cls = .type "tuple") (hd : o.data = .seq #[] n) : Deft c0 [.tup []] [.ref a] := fun g H => .one (by
  rw [Rep]
  exact ⟨a, [], rfl, .inr ⟨o, #[], n, l, hc, hd, Nat.zero_le _, .nil, rfl⟩, .nil⟩)
end Dn
set_option Elab.async false
set_option linter.all false
set_option maxRecDepth 100000
set_option maxHeartbeats 0
namespace Dn
open PySem PySem.Spec PyProof.Rows L2
def dkey (k : Str) : List Str → List AV → Option AV
  | k' :: ks, x :: xs => if k' = k then some x else dkey k ks xs
  | _, _ => none
def pDkey (k : Str) : AV → Option AV
  | .dic ks xs => dkey k ks xs
  | _ => none
def fDic (ks : List Str) (k : SemL) : Sem := fun ρ => (k ρ).bind fun p => if p.1.length = ks.length then .ret (.val (.dic ks p.1), p.2) else .bad
section
variable {c0 : Gc} {A D : Addr → Prop} {H : Hp}
end
section
variable {X : Cx} {ct : CT} {β : BInv} {Ex : XK} {a : Expr} {f : Sem} {m : SemL} {pos p : Pos} {k : Str} {kk : Nat}
structure JP (X : Cx) (ct : CT) (β : BInv) (Ex : XK) (pos : Pos) (ks : List Str) (keys : List (Option Expr)) (values : List Expr) (m : SemL) : Prop where
  ex : ∃ trs, PPs X pos keys values trs ∧ ∀ σ H (Q : List V → Hp → Prop) (Q2 : List (V × V) → Hp → Prop), rdL (gc X ct) β Ex m σ H Q → (∀ vs H', vs.length = ks.length → Q vs H' → Q2 ((ks.zip vs).map fun kv => (V.str kv.1, kv.2)) H') → tPairs trs σ H Q2
  al : keys.all (·.isSome) = true
  l1 : keys.length = values.length
  l2 : keys.length = ks.length
theorem mergeK_nd : ∀ (kvs acc : List (Key × V)), ((acc ++ kvs).map (·.1)).Nodup → mergeK acc kvs = acc ++ kvs
  | [], acc, _ => (List.append_nil acc).symm
  | p :: r, acc, h => by
    have h2 : ((acc ++ [p] ++ r).map (·.1)).Nodup := by rw [List.append_assoc]; exact h
    have e : putK acc p.1 p.2 = acc ++ [p] := by
      unfold putK
      rw [if_neg]
      intro z
      obtain ⟨q, hq, e⟩ := List.any_eq_true.mp z
      have e := of_decide_eq_true e
      rw [List.map_append, List.nodup_append] at h
      exact h.2.2 q.1 (List.mem_map.mpr ⟨q, hq, rfl⟩) p.1 (by simp) e
    show mergeK (putK acc p.1 p.2) r = _
    rw [e, mergeK_nd r _ h2, List.append_assoc]
    rfl
end
end Dn
set_option Elab.async false
set_option linter.all false
set_option maxRecDepth 100000
set_option maxHeartbeats 0
namespace Dn
open PySem PySem.Spec PyProof.Rows L2
end Dn
set_option Elab.async false
set_option linter.all false
set_option maxRecDepth 100000
set_option maxHeartbeats 0
namespace Dn
open PySem PySem.Spec PyProof.Rows L2
def Sz (s : Str) (n : Nat) : Prop := PyData.strOk s = true ∧ s.length ≤ n
def plainD (b : Nat) : Nat → AV → Bool
  | _, .non => true
  | _, .bl _ => true
  | _, .int i => decide (0 ≤ i ∧ i < 100000000000000000000)
  | n + 1, .tup xs => decide (xs.length ≤ b) && xs.all (plainD b n)
  | _, _ => false
def lenD (b : Nat) : Nat → Nat
  | 0 => 20
  | n + 1 => 23 + b * (lenD b n + 2)
end Dn
set_option Elab.async false
set_option linter.all false
set_option maxRecDepth 100000
set_option maxHeartbeats 0
namespace Dn
open PySem PySem.Spec PyProof.Rows L2
def fSelf (j c i : Nat) : Sem := fun ρ => match ρ[j]? with
  | some (.slf c' fs) => if c' = c then (lift fs[i]?).bind fun z => .ret (.val z, ρ) else .bad
  | _ => .bad
section
variable {X : Cx} {ct : CT} {β : BInv} {Ex : XK} {pos p : Pos} {x n : Str}
theorem j_sfld (j : Nat) {c i : Nat} (F : FldOk X ct c i n) (hv : PE X (.Name x p) (tVar j)) (hb : attributeBase (.Name x p) n X.env (eval (.Name x p) X.env) = eval (.Name x p) X.env := by rfl) : JE X ct β Ex (.Attribute (.Name x p) n pos) (fSelf j c i) := by
  refine PE.imp (pe_fld hv hb) fun σ H Q h => ?_
  obtain ⟨g, ρ, R, h⟩ := h
  cases hs : ρ[j]? with
  | none =>
    rw [show fSelf j c i ρ = .bad by unfold fSelf; rw [hs]] at h
    exact (show False from h).elim
  | some sl =>
    cases sl with
    | slf c' fs =>
      by_cases hc : c' = c
      · subst hc
        rw [show fSelf j c' i ρ = (lift fs[i]?).bind fun z => .ret (.val z, ρ) by unfold fSelf; rw [hs]; exact if_pos rfl] at h
        obtain ⟨z, ez, h2⟩ := okT_lift h
        obtain ⟨q, C, dx, vs, h1, h3, h4, h5, h6, h7, h8⟩ := R.sl j _ hs
        obtain ⟨v, ev, rv⟩ := RepL.get' h7 ez
        obtain ⟨k1, k2⟩ := F.cls C h4
        exact ⟨_, h3, q, C, dx, _, v, rfl, h5, k1, k2, lookup_zip F.nd F.at_ ev, okT_ret h2 v R rv⟩
      · rw [show fSelf j c i ρ = .bad by unfold fSelf; rw [hs]; exact if_neg hc] at h
        exact (show False from h).elim
    | _ =>
      rw [show fSelf j c i ρ = .bad by unfold fSelf; rw [hs]] at h
      exact (show False from h).elim
end
end Dn
set_option Elab.async false
set_option linter.all false
set_option maxRecDepth 100000
namespace Dn
open PySem PySem.Spec PyProof.Rows L2
open PySem.W PySem.SeqAt
def rAllD (K : PySem.W.Frag) : List V → Hp → VK → Prop := fun xs H Q => ∃ (a : Addr) (vs : List V) (ds : List PyData), xs = [.ref a] ∧ SqL K H a vs ∧ DpAll K H vs ds ∧ PyData.plainAll ds = true ∧ (∀ x ∈ ds, x.fits63) ∧ Q (.bl (ds.all PyData.truthy)) H
theorem call_allD {X : Cx} (hc : X.calm = true) : CallR X (.builtin "all") (rAllD X.K) := by
  intro pins s σ H xs us Q I r h
  obtain ⟨a, vs, ds, rfl, hs, hd, hp, hf, q⟩ := h
  obtain ⟨its, rv, hl, _⟩ := I.list hs
  rw [Vals.ref1 r]
  obtain ⟨as, rd⟩ := Dp.readsAll I ds vs its hd rv
  refine all_list_data (I.ok.hd hc) hl.isList (by simpa using rd) hp hf fun h' tk hk => ?_
  exact ⟨.bl _, H, I.kept hk, rfl, q⟩
def truA : AV → Bool
  | .bl b => b
  | .int i => i != 0
  | .lst xs => !xs.isEmpty
  | .tup xs => !xs.isEmpty
  | _ => false
def fitA : AV → Bool
  | .lst xs => decide (xs.length < 9223372036854775808)
  | .tup xs => decide (xs.length < 9223372036854775808)
  | .str _ => false
  | _ => true
def pAllD (a : AV) : Option AV := match a with
  | .lst xs => if xs.all (dat 8) && xs.all fitA then some (.bl (xs.all truA)) else none
  | _ => none
mutual
theorem plain_dat : ∀ (n : Nat) (a : AV), dat n a = true → (toD n a).plain = true
  | n, .non, _ => by cases n <;> rfl
  | n, .bl b, _ => by cases n <;> rfl
  | n, .int i, _ => by cases n <;> rfl
  | n, .str s, _ => by cases n <;> rfl
  | n + 1, .tup xs, h => plain_dats n xs h
  | n + 1, .lst xs, h => plain_dats n xs h
  | 0, .tup _, h => by cases h
  | 0, .lst _, h => by cases h
  | n, .ins _ _, h => by cases n <;> cases h
  | n, .dic _ _, h => by cases n <;> cases h
  | n, .dct _ _, h => by cases n <;> cases h
  | n, .box, h => by cases n <;> cases h
  | n, .scr _, h => by cases n <;> cases h
  | n, .any, h => by cases n <;> cases h
theorem plain_dats : ∀ (n : Nat) (xs : List AV), xs.all (dat n) = true → PyData.plainAll (xs.map (toD n)) = true
  | _, [], _ => rfl
  | n, x :: xs, h => by
    rw [List.all_cons, Bool.and_eq_true] at h
    show ((toD n x).plain && PyData.plainAll (xs.map (toD n))) = true
    rw [plain_dat n x h.1, plain_dats n xs h.2]
    rfl
end
theorem fit_dat (n : Nat) (a : AV) (h : dat (n + 1) a = true) (hf : fitA a = true) : (toD (n + 1) a).fits63 := by
  cases a with
  | lst xs =>
    show ((xs.map (toD n)).length : Int) < 2 ^ 63
    have hf : xs.length < 9223372036854775808 := of_decide_eq_true hf
    rw [List.length_map]
    omega
  | tup xs =>
    show ((xs.map (toD n)).length : Int) < 2 ^ 63
    have hf : xs.length < 9223372036854775808 := of_decide_eq_true hf
    rw [List.length_map]
    omega
  | str s => cases hf
  | non => exact trivial
  | bl b => exact trivial
  | int i => exact trivial
  | _ => cases h
theorem tru_dat (n : Nat) (a : AV) (h : dat (n + 1) a = true) (hf : fitA a = true) : (toD (n + 1) a).truthy = truA a := by
  cases a with
  | lst xs => show (!(xs.map (toD n)).isEmpty) = !xs.isEmpty; cases xs <;> rfl
  | tup xs => show (!(xs.map (toD n)).isEmpty) = !xs.isEmpty; cases xs <;> rfl
  | str s => cases hf
  | non => rfl
  | bl b => rfl
  | int i => rfl
  | _ => cases h
theorem o_allD {X : Cx} {ct : CT} : Op1' X ct (fun x H Q => rAllD X.K [x] H Q) pAllD := by
  intro g H a z x Q live ra e q
  cases a with
  | lst xs =>
    obtain ⟨h, rfl⟩ := if_some (show (if xs.all (dat 8) && xs.all fitA then some (AV.bl (xs.all truA)) else none) = some z from e)
    rw [Bool.and_eq_true] at h
    obtain ⟨p, vs, rfl, h1, r⟩ := ra.lst
    have hd := List.all_eq_true.mp h.1
    have hf := List.all_eq_true.mp h.2
    refine ⟨p, vs, _, rfl, h1, dpAll_of 8 r h.1, plain_dats 8 xs h.1, fun y hy => ?_, ?_⟩
    · obtain ⟨b, hb, rfl⟩ := List.mem_map.mp hy
      exact fit_dat 7 b (hd b hb) (hf b hb)
    · have key : ∀ ys : List AV, (∀ b ∈ ys, dat 8 b = true) → (∀ b ∈ ys, fitA b = true) → (ys.map (toD 8)).all PyData.truthy = ys.all truA := by
        intro ys
        induction ys with
        | nil => exact fun _ _ => rfl
        | cons x ys ih =>
          intro d f
          rw [List.map_cons, List.all_cons, List.all_cons, ih (fun b hb => d b (List.mem_cons_of_mem _ hb)) (fun b hb => f b (List.mem_cons_of_mem _ hb)), tru_dat 7 x (d x (by simp)) (f x (by simp))]
      rw [key xs hd hf]
      exact q _ H (Same.refl H) rep_bl
  | _ => cases e
end Dn
set_option Elab.async false
set_option linter.all false
set_option maxRecDepth 100000
namespace Dn
open PySem PySem.Spec PyProof.Rows L2
section
variable {X : Cx} {ct : CT} {β : BInv} {Ex : XK} {a : Expr} {f : Sem} {p p2 q pos : Pos}
def distN (ns : List Int) : Nat := (firstMet (fun i => ns.getD i 0) ns.length).length
def pLenSetG (a : AV) : Option AV := match a with
  | .lst xs => (intsOf xs).bind fun ns => if ns.length ≤ 1000 then some (.int (distN ns : Nat)) else none
  | _ => none
def tLenSetG (K : PySem.W.Frag) (ta : TE) : TE := fun σ H Q => ta σ H fun x H1 => ∃ (l : Addr) (ns : List Int), x = .ref l ∧ SqL K H1 l (ns.map V.int) ∧ ns.length ≤ 1000 ∧ Q (.int (distN ns : Nat)) H1
end
end Dn
set_option Elab.async false
set_option linter.all false
set_option maxRecDepth 100000
namespace Dn
open PySem PySem.Spec PyProof.Rows L2
open PySem.W PySem.SeqAt
def maxOr (d : Int) : List Int → Int
  | [] => d
  | x :: r => maxL x r
def rMaxD (K : PySem.W.Frag) : List V → List V → Hp → VK → Prop := fun xs zs H Q => ∃ (a : Addr) (ns : List Int) (d : Int), xs = [.ref a] ∧ zs = [.int d] ∧ SqL K H a (ns.map V.int) ∧ Q (.int (maxOr d ns)) H
def pMaxD (d : Int) (a : AV) : Option AV := match a with
  | .lst xs => (intsOf xs).map fun ns => .int (maxOr d ns)
  | _ => none
section
variable {X : Cx} {ct : CT} {β : BInv} {Ex : XK} {a : Expr} {f : Sem} {p p2 kp pos : Pos} {d : Int} {kk : Nat}
end
end Dn
set_option Elab.async false
set_option linter.all false
set_option maxRecDepth 100000
namespace Dn
open PySem PySem.Spec PyProof.Rows L2
def addI : Int → Int → Int := fun i j => i + j
def subI : Int → Int → Int := fun i j => i - j
def fInt (ρ : Env') (i : Nat) : Option Int := match ρ[i]? with
  | some (.fro (.int a)) => some a
  | _ => none
def sAugI (op : Int → Int → Int) (i : Nat) (f : Sem) : SSem := fun ρ => (lift (fInt ρ i)).bind fun a => (f ρ).bind fun p => (lift (rs p.1 p.2)).bind fun b => (lift (intOf b)).bind fun j => .ret (.nx (p.2.set i (.fro (.int (op a j)))))
theorem sAugI_b {γ : Type} {op : Int → Int → Int} {i : Nat} {f : Sem} {a0 : Slot} {l0 : Env'} {g : Out → T γ} : (sAugI op i f (a0 :: l0)).bind g = ((lift (fInt (a0 :: l0) i)).bind fun a => (f (a0 :: l0)).bind fun p => (lift (rs p.1 p.2)).bind fun b => (lift (intOf b)).bind fun j => .ret (.nx (p.2.set i (.fro (.int (op a j)))))).bind g := rfl
theorem fi0 {l : Env'} {a : Int} : fInt (.fro (.int a) :: l) 0 = some a := rfl
theorem fi1 {a0 : Slot} {l : Env'} {a : Int} : fInt (a0 :: .fro (.int a) :: l) 1 = some a := rfl
theorem fi2 {a0 a1 : Slot} {l : Env'} {a : Int} : fInt (a0 :: a1 :: .fro (.int a) :: l) 2 = some a := rfl
theorem fi3 {a0 a1 a2 : Slot} {l : Env'} {a : Int} : fInt (a0 :: a1 :: a2 :: .fro (.int a) :: l) 3 = some a := rfl
theorem fi4 {a0 a1 a2 a3 : Slot} {l : Env'} {a : Int} : fInt (a0 :: a1 :: a2 :: a3 :: .fro (.int a) :: l) 4 = some a := rfl
theorem fi5 {a0 a1 a2 a3 a4 : Slot} {l : Env'} {a : Int} : fInt (a0 :: a1 :: a2 :: a3 :: a4 :: .fro (.int a) :: l) 5 = some a := rfl
theorem fi6 {a0 a1 a2 a3 a4 a5 : Slot} {l : Env'} {a : Int} : fInt (a0 :: a1 :: a2 :: a3 :: a4 :: a5 :: .fro (.int a) :: l) 6 = some a := rfl
theorem fi7 {a0 a1 a2 a3 a4 a5 a6 : Slot} {l : Env'} {a : Int} : fInt (a0 :: a1 :: a2 :: a3 :: a4 :: a5 :: a6 :: .fro (.int a) :: l) 7 = some a := rfl
theorem fi8 {a0 a1 a2 a3 a4 a5 a6 a7 : Slot} {l : Env'} {a : Int} : fInt (a0 :: a1 :: a2 :: a3 :: a4 :: a5 :: a6 :: a7 :: .fro (.int a) :: l) 8 = some a := rfl
theorem fi9 {a0 a1 a2 a3 a4 a5 a6 a7 a8 : Slot} {l : Env'} {a : Int} : fInt (a0 :: a1 :: a2 :: a3 :: a4 :: a5 :: a6 :: a7 :: a8 :: .fro (.int a) :: l) 9 = some a := rfl
theorem fi10 {a0 a1 a2 a3 a4 a5 a6 a7 a8 a9 : Slot} {l : Env'} {a : Int} : fInt (a0 :: a1 :: a2 :: a3 :: a4 :: a5 :: a6 :: a7 :: a8 :: a9 :: .fro (.int a) :: l) 10 = some a := rfl
theorem fi11 {a0 a1 a2 a3 a4 a5 a6 a7 a8 a9 a10 : Slot} {l : Env'} {a : Int} : fInt (a0 :: a1 :: a2 :: a3 :: a4 :: a5 :: a6 :: a7 :: a8 :: a9 :: a10 :: .fro (.int a) :: l) 11 = some a := rfl
section
variable {X : Cx} {ct : CT} {β : BInv} {Ex : XK} {a : Expr} {f : Sem} {pos p : Pos} {x : Str}
theorem js_augI {op : Operator} {o : Int → Int → Int} (i : Nat) (hip : PIp X op (ipI o)) (ha : JE X ct β Ex a f) (hN : X.N.Nodup) (hi : X.N[i]? = some x := by rfl) (hx : Loc X.env.scope x := by first | exact Or.inl rfl | exact Or.inr rfl)
    (hf : X.fn x = true ∨ X.env.scope.names.lookup x = some .local := by first | exact .inl rfl | exact .inr rfl) : JS X ct β Ex (.AugAssign (.Name x p) op a pos) (sAugI o i f) := by
  refine PS.imp (ps_aug hN hi hx ha hip hf) fun D σ H h => ?_
  obtain ⟨g, ρ, R, h⟩ := h
  obtain ⟨k, hk, h⟩ := okT_lift h
  unfold fInt at hk
  split at hk
  · rename_i k' hs
    cases hk
    obtain ⟨_, v, e, rv⟩ := R.sl i _ hs
    refine ⟨v, e, g, ρ, R, okT_mono (okT_bind h) fun g1 H1 q e1 h1 y R1 ry => ?_⟩
    obtain ⟨b, eb, h2⟩ := okT_lift h1
    obtain ⟨j, ej, h3⟩ := okT_lift h2
    have hb : b = .int j := by
      cases b with
      | int j' => cases ej; rfl
      | _ => cases ej
    subst hb
    have hy : y = .int j := (ry.rs R1 eb).int
    have hv : v = .int k := by
      rw [RepG, Rep] at rv
      exact rv
    refine ⟨k, j, hv, hy, ?_⟩
    show D.nx (σ.set i (some (.int (o k j)))) H1
    by_cases hj : i < q.2.length
    · exact okT_ret' h3 (ext_no g1 i H1) _ (R1.setFro rep_int hj)
    · have e := okT_ret h3
      rw [set_ge hj] at e
      have : σ.set i (some (.int (o k j))) = σ := List.set_eq_of_length_le (by rw [R1.len]; omega)
      rw [this]
      exact e σ R1
  · cases hk
end
end Dn
set_option Elab.async false
set_option linter.all false
set_option maxRecDepth 100000
namespace Dn
open PySem PySem.Spec PyProof.Rows L2
def sSetIx (j : Nat) (fi fv : Sem) : SSem := fun ρ => (fv ρ).bind fun p => (frz p).bind fun q => (lift (isMl q.2 j)).bind fun _ => (fi q.2).bind fun r => (lift (rs r.1 r.2)).bind fun a => (lift (intOf a)).bind fun k => (lift (isMl r.2 j)).bind fun xs => (lift (ixN xs.length k)).bind fun n => .ret (.nx (r.2.set j (.ml (xs.set n q.1))))
theorem ixN_nat {n i : Nat} (h : i < n) : ixN n (i : Int) = some i := by
  unfold ixN
  rw [if_pos (Int.natCast_nonneg i), if_pos (by omega)]
  simp
theorem set_reps {c0 : Gc} {A D : Addr → Prop} {H : Hp} {a : AV} {v : V} (ra : Rep c0 A D H a v) : ∀ {xs : List AV} {vs : List V} (i : Nat), RepL c0 A D H xs vs → RepL c0 A D H (xs.set i a) (vs.set i v)
  | [], vs, i, r => by rw [RepL] at r; subst r; exact .nil
  | x :: xs, vs, 0, r => by
    rw [RepL] at r
    obtain ⟨w, r', rfl, _, h⟩ := r
    exact .cons ra h
  | x :: xs, vs, i + 1, r => by
    rw [RepL] at r
    obtain ⟨w, r', rfl, h1, h⟩ := r
    exact .cons h1 (set_reps ra i h)
section
variable {X : Cx} {ct : CT} {β : BInv} {Ex : XK} {a e : Expr} {fi fv : Sem} {pos p p2 : Pos} {x : Str}
end
end Dn
set_option Elab.async false
set_option linter.all false
set_option maxRecDepth 100000
namespace Dn
open PySem PySem.Spec PyProof.Rows L2
def nRep (fa : SemN) (fb : Sem) : SemN := fun ρ => (fa ρ).bind fun p => (fb p.2).bind fun q => (lift (rs q.1 q.2)).bind fun b => (lift (intOf b)).bind fun k => if (below k 62 = true ∧ p.1.length * k.toNat ≤ big) then .ret ((List.replicate k.toNat p.1).flatten, q.2) else .bad
theorem nRep_b {γ : Type} {fa : SemN} {fb : Sem} {a0 : Slot} {l0 : Env'} {g : _ → T γ} : (nRep fa fb (a0 :: l0)).bind g = ((fa (a0 :: l0)).bind fun p => (fb p.2).bind fun q => (lift (rs q.1 q.2)).bind fun b => (lift (intOf b)).bind fun k => if (below k 62 = true ∧ p.1.length * k.toNat ≤ big) then .ret ((List.replicate k.toNat p.1).flatten, q.2) else .bad).bind g := rfl
theorem flat_reps {c0 : Gc} {g : G} {H : Hp} {xs : List AV} {vs : List V} (r : RepsG c0 g H xs vs) : ∀ k : Nat, RepsG c0 g H (List.replicate k xs).flatten (List.replicate k vs).flatten
  | 0 => .nil
  | k + 1 => by
    rw [List.replicate_succ, List.replicate_succ, List.flatten_cons, List.flatten_cons]
    exact r.append (flat_reps r k)
section
variable {X : Cx} {ct : CT} {β : BInv} {Ex : XK} {a b : Expr} {fa : SemN} {fb : Sem} {pos : Pos}
theorem jn_rep (ha : JN X ct β Ex a fa) (hb : JE X ct β Ex b fb) : JN X ct β Ex (.BinOp a .Mult b pos) (nRep fa fb) := by
  refine PE.imp (pe_op op_rep ha hb) fun σ H Q h => ?_
  obtain ⟨g, ρ, R, h⟩ := h
  refine ⟨g, ρ, R, okT_bind0 h fun p q g1 H1 e l vs hn na ho R1 r => ?_⟩
  have q1 := okT_ext q e
  have rr := plus_reps r
  refine ⟨g1, p.2, R1.minus, okT_bind0 q1 fun s q2 g2 H2 e2 y R2 ry => ?_⟩
  have q3 := okT_ext q2 e2
  obtain ⟨c, ec, q4⟩ := okT_lift q3
  obtain ⟨k, ek, q5⟩ := okT_lift q4
  have hc : c = .int k := by
    cases c with
    | int j' => cases ek; rfl
    | _ => cases ek
  subst hc
  have hy : y = .int k := (ry.rs R2 ec).int
  by_cases hl : below k 62 = true ∧ p.1.length * k.toNat ≤ big
  · rw [if_pos hl] at q5
    have b62 := below62 hl.1
    have hl2 : H2 l = some (.lst vs) := e2.keep l _ ho (fun i z => na (.inr (.inl ⟨i, z⟩))) (fun z => na (.inr (.inr z)))
    refine ⟨l, k, vs, rfl, hy, hl2, by omega, by omega, by rw [rr.length]; exact Nat.le_trans hl.2 big_line, fun t ht => ?_⟩
    have s := same_upd (o := .lst (List.replicate k.toNat vs).flatten) ht
    exact okT_ret' q5 (Ext.same s) t _ (none_back (e.trans e2) ht) (R2.freshAv ht) upd_same (R2.plus s ht (by rw [upd_same]; exact fun z => by cases z)) (reps_plus (flat_reps (e2.reps rr) k.toNat) s ht)
  · rw [if_neg hl] at q5
    exact (show False from q5).elim
end
end Dn
set_option Elab.async false
set_option linter.all false
set_option maxRecDepth 100000
namespace Dn
open PySem PySem.Spec PyProof.Rows L2
def sParED (i j : Nat) (f : Sem) : SSem := fun ρ => (f ρ).bind fun p => (frz p).bind fun q => if i < q.2.length ∧ j < q.2.length then .ret (.nx ((q.2.set i (.fro q.1)).set j (.md true []))) else .bad
def fDsetd (j : Nat) (fk fv : Sem) : Sem := fun ρ => (lift (isMd ρ j)).bind fun _ => (fk ρ).bind fun r => (lift (rs r.1 r.2)).bind fun a => (lift (keyOf1 a)).bind fun k => (fv r.2).bind fun p => (frz p).bind fun q => (lift (isMd q.2 j)).bind fun kvs =>
  if kvs.length < big then .ret (.val ((dFind kvs k).getD q.1), q.2.set j (.md true (if (dFind kvs k).isSome = true then kvs else dPut kvs a k q.1))) else .bad
section
variable {X : Cx} {ct : CT} {β : BInv} {Ex : XK} {a b e : Expr} {f fk fv : Sem} {pos p p2 p3 apos cpos px py pt pt2 : Pos} {kt k2 : Nat} {x y : Str} {i j : Nat}
end
end Dn
set_option Elab.async false
set_option linter.all false
set_option maxRecDepth 100000
set_option maxHeartbeats 2000000
namespace Dn
open PySem PySem.Spec PyProof.Rows L2
def DRT (c0 : Gc) (A D : Addr → Prop) (H : Hp) : List (AV × AV) → List (List Key × V) → Prop := Paired fun a u => keyOfT a.1 = some u.1 ∧ Rep c0 A D H a.2 u.2
def dFindT (kvs : List (AV × AV)) (k : List Key) : Option AV := (kvs.find? fun q => decide (keyOfT q.1 = some k)).map (·.2)
def dPutT (kvs : List (AV × AV)) (ka : AV) (k : List Key) (v : AV) : List (AV × AV) :=
  if (kvs.any fun q => decide (keyOfT q.1 = some k)) = true then kvs.map (fun q => if keyOfT q.1 = some k then (q.1, v) else q) else kvs ++ [(ka, v)]
def dDropT (kvs : List (AV × AV)) (k : List Key) : List (AV × AV) := kvs.filter fun q => decide (keyOfT q.1 ≠ some k)
section
variable {c0 : Gc} {A D A' D' : Addr → Prop} {H H' : Hp}
theorem drT_of : ∀ {kvs : List (AV × AV)} {ws : List (AV × V)} {us : List (List Key × V)}, KVs c0 A D H kvs ws → DicT ws us → DRT c0 A D H kvs us
  | [], ws, us, h, h' => by
    have e : ws = [] := h
    subst e
    cases h'
    exact .nil
  | (ka, xa) :: r, ws, us, h, h' => by
    obtain ⟨v, ws', e, h1, h2⟩ := h
    subst e
    cases h' with
    | cons q t =>
      refine .cons ⟨q.1, ?_⟩ (drT_of h2 t)
      have e2 := q.2
      rw [← e2]
      exact h1
theorem of_drT : ∀ {kvs : List (AV × AV)} {us : List (List Key × V)}, DRT c0 A D H kvs us → ∃ ws, KVs c0 A D H kvs ws ∧ DicT ws us
  | [], us, h => by
    cases h
    exact ⟨[], rfl, .nil⟩
  | (ka, xa) :: r, us, h => by
    cases h with
    | @cons _ u _ us' q t =>
      obtain ⟨ws, h1, h2⟩ := of_drT t
      exact ⟨(ka, u.2) :: ws, ⟨u.2, ws, rfl, q.2, h1⟩, .cons ⟨q.1, rfl⟩ h2⟩
theorem DRT.length {kvs : List (AV × AV)} {us : List (List Key × V)} (h : DRT c0 A D H kvs us) : kvs.length = us.length := Paired.length h
theorem DRT.val {kvs : List (AV × AV)} {us : List (List Key × V)} (r : DRT c0 A D H kvs us) (k : List Key) : (dFindT kvs k = none ∧ valV us k = none) ∨ ∃ t v, dFindT kvs k = some t ∧ valV us k = some v ∧ Rep c0 A D H t v := by
  unfold DRT at r
  induction r with
  | nil => exact .inl ⟨rfl, rfl⟩
  | @cons q u ps us h t ih =>
    by_cases e : u.1 = k
    · refine .inr ⟨q.2, u.2, ?_, valV_pos e, h.2⟩
      unfold dFindT
      rw [List.find?_cons, show decide (keyOfT q.1 = some k) = true from decide_eq_true (by rw [h.1, e])]
      rfl
    · have e2 : dFindT (q :: ps) k = dFindT ps k := by
        unfold dFindT
        rw [List.find?_cons, show decide (keyOfT q.1 = some k) = false from decide_eq_false (by rw [h.1]; exact fun z => e (Option.some.inj z))]
      rw [e2, valV_neg e]
      exact ih
theorem dAnyT (k : List Key) : ∀ kvs : List (AV × AV), (kvs.any fun q => decide (keyOfT q.1 = some k)) = (dFindT kvs k).isSome
  | [] => rfl
  | q :: r => by
    unfold dFindT
    rw [List.any_cons, List.find?_cons]
    by_cases e : keyOfT q.1 = some k
    · rw [show decide (keyOfT q.1 = some k) = true from decide_eq_true e]; rfl
    · rw [show decide (keyOfT q.1 = some k) = false from decide_eq_false e, Bool.false_or]; exact dAnyT k r
theorem DRT.put {kvs : List (AV × AV)} {us : List (List Key × V)} {ka va : AV} {k : List Key} {v : V} (r : DRT c0 A D H kvs us) (hk : keyOfT ka = some k) (rv : Rep c0 A D H va v) : DRT c0 A D H (dPutT kvs ka k va) (putK us k v) := by
  have e : (kvs.any fun q => decide (keyOfT q.1 = some k)) = (us.any fun u => decide (u.1 = k)) := by
    rw [dAnyT, valV_any]
    rcases r.val k with ⟨h1, h2⟩ | ⟨t, w, h1, h2, _⟩
    · rw [h1, h2]; rfl
    · rw [h1, h2]; rfl
  unfold dPutT putK
  rw [e]
  by_cases q : (us.any fun u => decide (u.1 = k)) = true
  · rw [if_pos q, if_pos q]
    clear q e
    unfold DRT at r ⊢
    induction r with
    | nil => exact .nil
    | @cons q u ps us h t ih =>
      rw [List.map_cons, List.map_cons]
      refine .cons ?_ ih
      by_cases e : u.1 = k
      · rw [if_pos e, if_pos (by rw [h.1, e])]; exact ⟨h.1, rv⟩
      · rw [if_neg e, if_neg (by rw [h.1]; exact fun z => e (Option.some.inj z))]; exact h
  · rw [if_neg q, if_neg q]
    exact Paired.snoc r ⟨hk, rv⟩
theorem DRT.drop {kvs : List (AV × AV)} {us : List (List Key × V)} (k : List Key) (r : DRT c0 A D H kvs us) : DRT c0 A D H (dDropT kvs k) (dropK us k) := by
  unfold DRT at r ⊢
  unfold dDropT dropK
  induction r with
  | nil => exact .nil
  | @cons q u ps us h t ih =>
    rw [List.filter_cons, List.filter_cons]
    by_cases e : u.1 = k
    · rw [if_neg (show ¬ decide (keyOfT q.1 ≠ some k) = true by simp [h.1, e]), if_neg (show ¬ decide (u.1 ≠ k) = true by simp [e])]
      exact ih
    · rw [if_pos (show decide (keyOfT q.1 ≠ some k) = true by simp [h.1, e]), if_pos (show decide (u.1 ≠ k) = true by simp [e])]
      exact .cons h ih
end
def isMdT (ρ : Env') (j : Nat) : Option (List (AV × AV)) := match ρ[j]? with
  | some (.md false kvs) => some kvs
  | _ => none
theorem isMdT_eq {ρ : Env'} {j : Nat} {kvs : List (AV × AV)} (h : isMdT ρ j = some kvs) : ρ[j]? = some (.md false kvs) := by
  unfold isMdT at h
  split at h
  · rename_i q e
    cases h
    exact e
  · cases h
section
variable {c0 : Gc} {β : BInv} {g : G} {H : Hp} {ρ : Env'} {σ : L2.St} {a : Addr}
theorem Rel.mdT {j : Nat} {kvs : List (AV × AV)} (R : Rel c0 β g ρ σ H) (h : ρ[j]? = some (.md false kvs)) : ∃ p us, g.own j = some p ∧ σ[j]? = some (some (.ref p)) ∧ H p = some (.dT us) ∧ DRT c0 g.Av g.D H kvs us := by
  obtain ⟨p, ws, e1, e2, e3, e4⟩ := R.sl j _ h
  rcases e4 with ⟨_, _, _, e⟩ | ⟨us, e4, e5, _⟩
  · cases e
  · exact ⟨p, us, e1, e2, e4, drT_of e3 e5⟩
theorem DRT.ext {g' : G} {H' : Hp} {kvs : List (AV × AV)} {us : List (List Key × V)} (e : Ext g g' H H') (r : DRT c0 g.Av g.D H kvs us) : DRT c0 g'.Av g'.D H' kvs us := Paired.mapP r fun _ _ q => ⟨q.1, q.2.imp (fun _ _ q n => e.av q n) e.dsub⟩
theorem Rel.updDT {j : Nat} {p : Addr} {kvs : List (AV × AV)} {us : List (List Key × V)} (R : Rel c0 β g ρ σ H) (hj : j < ρ.length) (ho : g.own j = some p) (hσ : σ[j]? = some (some (.ref p))) (r : DRT c0 g.Av g.D H kvs us) : Rel c0 β g (ρ.set j (.md false kvs)) σ (L2.upd H p (.dT us)) := by
  have e : Ext g g H (L2.upd H p (.dT us)) := ext_upd ho
  refine R.put e rfl (fun _ _ => rfl) hj (fun _ _ => rfl) (fun i a o hi h1 h2 => ?_) ?_ ?_ fun a h => ?_
  · rw [upd_ne (fun z => hi (R.inj i j a h1 (by rw [z]; exact ho)))]
    exact h2
  · refine β.frame R.box fun a h => ?_
    rw [upd_ne (fun z => (R.sep j p ho).2 (by rw [← z]; exact h))]
  · obtain ⟨ws, h1, h2⟩ := of_drT (r.ext e)
    exact ⟨p, ws, ho, hσ, h1, .inr ⟨us, upd_same, h2, rfl⟩⟩
  · rw [ho] at h
    cases h
    exact ⟨(R.sep j p ho).1, (R.sep j p ho).2, fun i hi h => hi (R.inj i j p h ho)⟩
end
section
variable {X : Cx} {pins : List (Addr × Obj)} {σ : L2.St} {H : Hp} {s : Shared}
end
section
variable {X : Cx}
def tDcT (wi : TI) (g : TG) (tk tv : TE) (vs : List Nat) : TE := fun σ H Q => wi σ H fun J H1 => ∀ D, H1 D = none → ∃ (n : Nat) (W : Nat → Hp → Prop), W 0 (upd H1 D (.dT [])) ∧ ∀ i H, W i H →
  (i = n ∧ J.stop i H ∧ Q (.ref D) H) ∨ (i < n ∧ J.go i H ∧ ∀ x H', J.yld i H x H' → g x (wipe σ vs) H' fun σ2 H2 => wipe σ2 vs = wipe σ vs ∧ tk σ2 H2 fun y H3 => tv σ2 H3 fun z H4 =>
    ∃ us ks b, y = .ref b ∧ H4 b = some (.tup (ks.map kV)) ∧ H4 D = some (.dT us) ∧ us.length < sizeLine ∧ W (i + 1) (upd H4 D (.dT (putK us ks z))))
end
section
variable {X : Cx}
def sDDelT (td ty : TE) : TS := fun D σ H => td σ H fun x H1 => ty σ H1 fun y H2 => ∃ a us ks b, x = .ref a ∧ H2 a = some (.dT us) ∧ y = .ref b ∧ H2 b = some (.tup (ks.map kV)) ∧ (valV us ks).isSome = true ∧ D.nx σ (upd H2 a (.dT (dropK us ks)))
end
def keyT : AV → Option (List Key)
  | .tup (x :: xs) => keysOf (x :: xs)
  | _ => none
theorem keyT_of {t : AV} {ks : List Key} (h : keyT t = some ks) : keyOfT t = some ks := by
  cases t with
  | tup xs =>
    cases xs with
    | nil => cases h
    | cons x xs => exact h
  | _ => cases h
section
variable {c0 : Gc} {g : G} {H : Hp}
theorem keys_vals : ∀ {xs : List AV} {ks : List Key} {vs : List V}, keysOf xs = some ks → RepsG c0 g H xs vs → vs = ks.map kV
  | [], ks, vs, h, r => by
    cases h
    rw [RepsG, RepL] at r
    exact r
  | x :: xs, ks, vs, h, r => by
    rw [RepsG, RepL] at r
    obtain ⟨v, vs', rfl, h1, h2⟩ := r
    unfold keysOf at h
    cases e1 : keyOf1 x with
    | none => rw [e1] at h; cases h
    | some k =>
      cases e2 : keysOf xs with
      | none => rw [e1, e2] at h; cases h
      | some ks' =>
        rw [e1, e2] at h
        cases h
        rw [keys_vals e2 h2, key_rep e1 (.inl h1)]
        rfl
theorem key_repT {t : AV} {ks : List Key} {v : V} (h : keyT t = some ks) (r : RepR c0 g H t v) : ∃ b, v = .ref b ∧ H b = some (.tup (ks.map kV)) := by
  cases t with
  | tup xs =>
    cases xs with
    | nil => cases h
    | cons x xs =>
      have q := rep_tupR r
      rw [RepG, Rep] at q
      obtain ⟨a, vs, rfl, ta, rl⟩ := q
      have e := keys_vals h rl
      rcases ta with ⟨_, ha⟩ | ⟨_, _, _, _, _, _, _, _, e0⟩
      · exact ⟨a, rfl, by rw [← e]; exact ha⟩
      · rw [e0] at rl
        have := rl.length
        cases this
  | _ => cases h
end
def dcT (xs : List AV) (c : AV) : List (AV × AV) := xs.foldl (fun kvs x => match keyT x with
  | some ks => dPutT kvs x ks c
  | none => kvs) []
def sSetDcT (i j : Nat) (f : SemI) (b : Bool) : SSem := fun ρ => (f ρ).bind fun p => if j < p.2.length ∧ p.1.length < big ∧ (p.1.all fun x => (keyT x).isSome) = true then .ret (.nx (p.2.set i (.md false (dcT p.1 (.bl b))))) else .bad
def tDnotInT (j : Nat) (f : Sem) : SemB := fun ρ => (f ρ).bind fun p => (lift (rs p.1 p.2)).bind fun a => (lift (keyT a)).bind fun k => (lift (isMdT p.2 j)).bind fun kvs => .ret (!(dFindT kvs k).isSome, p.2)
def sDdelT (j : Nat) (fk : Sem) : SSem := fun ρ => (lift (isMdT ρ j)).bind fun _ => (fk ρ).bind fun r => (lift (rs r.1 r.2)).bind fun a => (lift (keyT a)).bind fun k => (lift (isMdT r.2 j)).bind fun kvs => (lift (dFindT kvs k)).bind fun _ => .ret (.nx (r.2.set j (.md false (dDropT kvs k))))
def fDlistT (j : Nat) : Sem := fun ρ => (lift (isMdT ρ j)).bind fun kvs => .ret (.val (.lst (kvs.map (·.1))), ρ)
section
variable {X : Cx} {ct : CT} {β : BInv} {Ex : XK} {a b e tg iter value : Expr} {f k fk fv : Sem} {fi : SemI} {pos pos' p p2 apos tpos : Pos} {x y : Str} {id : String}
end
section
variable {X : Cx} {ct : CT} {β : BInv} {Ex : XK} {a : Expr} {f fk : Sem} {pos p p2 tpos : Pos} {x : Str}
theorem DRT.isSome {c0 : Gc} {A D : Addr → Prop} {H : Hp} {kvs : List (AV × AV)} {us : List (List Key × V)} (r : DRT c0 A D H kvs us) (k : List Key) : (dFindT kvs k).isSome = (valV us k).isSome := by
  rcases r.val k with ⟨h1, h2⟩ | ⟨_, _, h1, h2, _⟩ <;> rw [h1, h2] <;> rfl
end
section
variable {γ : Type} {i j : Nat} {f fk : Sem} {fi : SemI} {b : Bool} {a0 : Slot} {l0 : Env'}
theorem imt0 {kvs : List (AV × AV)} {l : Env'} {g : List (AV × AV) → T γ} : (lift (isMdT (.md false kvs :: l : Env') 0)).bind g = g kvs := rfl
theorem imt1 {s0 : Slot} {kvs : List (AV × AV)} {l : Env'} {g : List (AV × AV) → T γ} : (lift (isMdT (s0 :: .md false kvs :: l : Env') 1)).bind g = g kvs := rfl
theorem imt2 {s0 s1 : Slot} {kvs : List (AV × AV)} {l : Env'} {g : List (AV × AV) → T γ} : (lift (isMdT (s0 :: s1 :: .md false kvs :: l : Env') 2)).bind g = g kvs := rfl
theorem imt3 {s0 s1 s2 : Slot} {kvs : List (AV × AV)} {l : Env'} {g : List (AV × AV) → T γ} : (lift (isMdT (s0 :: s1 :: s2 :: .md false kvs :: l : Env') 3)).bind g = g kvs := rfl
end
def fNotV (f : Sem) : Sem := fun ρ => (f ρ).bind fun p => (lift (rs p.1 p.2)).bind fun a => (lift (tru a)).bind fun b => .ret (.val (.bl (!b)), p.2)
def fRevL (f : Sem) : Sem := fun ρ => (f ρ).bind fun p => (lift (rs p.1 p.2)).bind fun a => (lift (lstOf a)).bind fun xs => .ret (.val (.lst xs.reverse), p.2)
end Dn
set_option Elab.async false
set_option linter.all false
set_option maxRecDepth 100000
set_option maxHeartbeats 2000000
namespace Dn
open PySem PySem.Spec PyProof.Rows L2
def rOnce (K : PySem.W.Frag) : R2 := fun x y H Q => ∃ l xs, x = .ref l ∧ y = .int 1 ∧ SqT K H l xs ∧ Q (.ref l) H
def pMulT (a b : AV) : Option AV := match a, b with
  | .tup xs, .int k => if k = 1 then some (.tup xs) else if xs.isEmpty = false ∧ 2 ≤ k ∧ k ≤ 1000 ∧ xs.length ≤ 1000 then some (.tup (List.replicate k.toNat xs).flatten) else none
  | _, _ => none
section
variable {X : Cx} {ct : CT}
end
end Dn
set_option Elab.async false
set_option linter.all false
set_option maxRecDepth 100000
set_option maxHeartbeats 2000000
namespace HN
open PySem PySem.Spec PyProof.Rows PySem.SeqAt
section
variable {M : Model} {prog : Program} {w : World} {A : Around} {E : Value → Shared → Prop} {s : Shared} {K h₀ : PySem.W.Frag} {x C f : Addr} {ox : Obj} {od : Option Obj} {b : Value}
end
end HN
namespace Dn
open PySem PySem.Spec PyProof.Rows L2
structure OwnC (K : PySem.W.Frag) (C : Addr) : Prop where
  ins : C8.InsC K C
  ne : PySem.W.findIn K (.ref C) "__ne__" = some (some (.builtin "object.__ne__"))
def rOwn (C : Addr) (sp : Sp) (E : XK) (neg : Bool) : R2 := fun x y H Q => ∃ a b dx dy fs gs, x = V.ref a ∧ y = V.ref b ∧ H a = some (.ins C dx fs) ∧ H b = some (.ins C dy gs) ∧ sp [.ref a, .ref b] H (fun z H' => ∃ v, z = .bl v ∧ Q (.bl (neg != v)) H') E
def cmpK (neg : Bool) (c : Nat) (fn : List AV → T AV) (a b : AV) (ρ : Env') : T (Hd × Env') := match a with
  | .ins c1 xs => match b with
    | .ins c2 ys => if c1 = c ∧ c2 = c then (fn [.ins c1 xs, .ins c2 ys]).bind fun t => (lift (blOf t)).bind fun v => .ret (.val (.bl (neg != v)), ρ) else .bad
    | _ => .bad
  | _ => .bad
def fCmpO (neg : Bool) (c : Nat) (fn : List AV → T AV) (fa fb : Sem) : Sem := fun ρ => (fa ρ).bind fun p => (frz p).bind fun p1 => (fb p1.2).bind fun q => (frz q).bind fun s => cmpK neg c fn p1.1 s.1 s.2
section
variable {X : Cx} {ct : CT} {β : BInv} {Ex : XK} {a b : Expr} {fa fb : Sem} {pos p p2 : Pos} {lv n c : Nat} {ps : List Str} {fn : List AV → T AV} {op : CmpOp}
def pIsC (c : Nat) (a : AV) : Option AV := match a with
  | .ins c1 _ => if c1 = c then some (.bl true) else none
  | _ => none
end
end Dn
set_option Elab.async false
set_option linter.all false
set_option maxRecDepth 100000
set_option maxHeartbeats 2000000
namespace Dn
open PySem PySem.Spec PyProof.Rows L2
def strsOf : List AV → Option (List Str)
  | [] => some []
  | .str s :: r => (strsOf r).map fun l => s :: l
  | _ :: _ => none
def pJoinA (a : Str) (t : AV) : Option AV := (seqOf t).bind fun xs => (strsOf xs).bind fun ys => if (ys.map (·.length)).sum + ys.length * a.length ≤ big then some (.str (Txt.join a ys)) else none
theorem strsOf_eq : ∀ {xs : List AV} {ys : List Str}, strsOf xs = some ys → xs = ys.map AV.str
  | [], ys, h => by cases h; rfl
  | x :: r, ys, h => by
    cases x with
    | str s =>
      unfold strsOf at h
      cases e : strsOf r with
      | none => rw [e] at h; cases h
      | some l =>
        rw [e] at h
        cases h
        rw [strsOf_eq e]
        rfl
    | _ => cases h
section
variable {X : Cx} {ct : CT} {β : BInv} {Ex : XK} {a b : Expr} {fa : Sem} {pos p p2 apos : Pos} {lv n c : Nat} {ps : List Str} {fn : List AV → T AV}
theorem reps_strs {c0 : Gc} {A D : Addr → Prop} {H : Hp} : ∀ {ys : List Str} {vs : List V}, RepL c0 A D H (ys.map AV.str) vs → vs = ys.map V.str
  | [], _, h => by simpa [RepL] using h
  | n :: ns, vs, h => by
    rw [List.map_cons, RepL] at h
    obtain ⟨v, r, e, h1, h2⟩ := h
    rw [Rep] at h1
    rw [e, h1, reps_strs h2]
    rfl
theorem j_join {sep : Str} {k : Nat} (ha : JE X ct β Ex a fa) (hs : starEach [a] X.env = [(false, eval a X.env)] := by rfl)
    (hbase : attributeBase (.Constant (.str sep) k p) "join" X.env (eval (.Constant (.str sep) k p) X.env) = eval (.Constant (.str sep) k p) X.env := by rfl) (hline : (apos.endLine == pos.line) = true := by rfl) :
    JE X ct β Ex (.Call (.Attribute (.Constant (.str sep) k p) "join" apos) [a] [] pos) (fUn (pJoinA sep) fa) := by
  refine PE.imp (pe_join pe_str ha hs hbase hline) fun σ H Q h => ?_
  refine ⟨⟨_, rfl⟩, ?_⟩
  refine fUn_ok' (r := fun x H Q => ∃ a p, ∃ ys : List Str, V.str sep = .str a ∧ [x] = [.ref p] ∧ (SqL X.K H p (ys.map V.str) ∨ SqT X.K H p (ys.map V.str)) ∧ (ys.map (·.length)).sum + ys.length * a.length ≤ 16777216 ∧ Q (.str (Txt.join a ys)) H) (fun g H a z x Q live ra e q => ?_) h
  unfold pJoinA at e
  cases e1 : seqOf a with
  | none => rw [e1] at e; cases e
  | some xs =>
    rw [e1, Option.bind_some] at e
    cases e2 : strsOf xs with
    | none => rw [e2] at e; cases e
    | some ys =>
      rw [e2, Option.bind_some] at e
      obtain ⟨h, rfl⟩ := ifp_some e
      obtain ⟨l, vs, rfl, hs, r⟩ := seq_sq ra e1
      rw [strsOf_eq e2] at r
      have ev := reps_strs r
      subst ev
      exact ⟨sep, l, ys, rfl, rfl, hs, Nat.le_trans h (by decide), q _ H (Same.refl H) (by rw [RepG, Rep])⟩
def rStrO (C : Addr) (sp : Sp) (E : XK) : List V → Hp → VK → Prop := fun xs H Q => ∃ a dx fs, xs = [V.ref a] ∧ H a = some (.ins C dx fs) ∧ sp [.ref a] H (fun z H' => ∃ y, z = .str y ∧ Q (.str y) H') E
def strOf : AV → Option Str
  | .str s => some s
  | _ => none
def strK (c : Nat) (fn : List AV → T AV) (t : AV) (ρ : Env') : T (Hd × Env') := match t with
  | .ins c' xs => if c' = c then (fn [.ins c' xs]).bind fun t => (lift (strOf t)).bind fun y => .ret (.val (.str y), ρ) else .bad
  | _ => .bad
def fStrO (c : Nat) (fn : List AV → T AV) (f : Sem) : Sem := fun ρ => (f ρ).bind fun q => (frz q).bind fun s => strK c fn s.1 s.2
def pFmt (a : AV) : Option AV := match a with
  | .str y => if y.length ≤ big then some (.str y) else none
  | .int i => if i.natAbs.log2 < 1920 then some (.str (toString i)) else none
  | _ => none
def fJs : List Sem → Str → Sem
  | [], acc, ρ => .ret (.val (.str acc), ρ)
  | f :: fs, acc, ρ => (f ρ).bind fun p => (lift (rs p.1 p.2)).bind fun a => (lift (strOf a)).bind fun y => if (acc ++ y).length ≤ big then fJs fs (acc ++ y) p.2 else .bad
inductive JJ (X : Cx) (ct : CT) (β : BInv) (Ex : XK) : List Expr → List Sem → Prop where
  | nil : JJ X ct β Ex [] []
  | cons {e : Expr} {f : Sem} {es : List Expr} {fs : List Sem} (h : JE X ct β Ex e f) (r : JJ X ct β Ex es fs) : JJ X ct β Ex (e :: es) (f :: fs)
end
end Dn
set_option Elab.async false
set_option linter.all false
set_option maxRecDepth 100000
set_option maxHeartbeats 2000000
namespace Dn
open PySem PySem.Spec PyProof.Rows L2
def spX (K : PySem.W.Frag) (C : Addr) (f : Str) : Sp := fun vs H Q _ => ∃ a y, vs = [.ref a, y] ∧ OexC K C ∧ PySem.W.findIn K (.ref C) f = some none ∧ H a = some (exo a C none) ∧ ∀ dx, H dx = none → dx ≠ a → Q .non (upd (upd H dx (exd dx [(f, y)])) a (exo a C (some dx)))
section
variable {P : Program} {w : World} {K : PySem.W.Frag} {mg : Str → Option Value} {base : Heap} {CXX : CXT}
end
def sRaise (c : Nat) (k : SemL) : SSem := fun ρ => (k ρ).bind fun p => if p.1.length = 1 then .exc c p.1 else .bad
section
variable {X : Cx} {ct : CT} {β : BInv} {Ex : XK} {e : Expr} {fk : SemL} {pos p pos' : Pos}
end
noncomputable def tryT {α γ : Type} (m : T α) (k : α → T γ) (h : Nat → List AV → T γ) : T γ := T.rec (motive := fun _ => T γ) (fun a => k a) .bad (fun c xs => h c xs) (fun n _ ih => .draw n ih) m
section
variable {c0 : Gc} {β : BInv} {Ex : XK} {g g1 : G} {H H1 : Hp} {ρ : Env'} {σ : L2.St}
end
noncomputable def sTryC (fk : SemL) (fn : List AV → T AV) (sub : Nat → Bool) (hnd : Nat → List AV → SSem) : SSem := fun ρ => (fk ρ).bind fun p => tryT (fn p.1) (fun _ => .ret (.nx p.2)) fun c xs => if sub c then hnd c xs p.2 else .exc c xs
section
variable {X : Cx} {ct : CT} {β : BInv} {Ex : XK} {e : Expr} {es : List Expr} {fk : SemL} {pos p pos' pos2 np posT : Pos} {b₀ : Stmt} {suite : List Stmt}
end
def rIsX (K : PySem.W.Frag) (cls : Value) (d : Option Addr) (a : Addr) : List V → Hp → VK → Prop := fun xs H Q => ∃ (D dd : Addr) (fs : List (Str × V)) (c : V) (cv : Value) (b : Bool), cls = .ref D ∧ d = some dd ∧ ExcC K D ∧ (PySem.W.clsIn K D).isSome = true ∧ H dd = some (.xd fs) ∧ xs = [.ref a, c] ∧ (∀ u, RelV c u → u = cv) ∧ PySem.W.kitOne K (.ref D) cv = some b ∧ Q (.bl b) H
def tXfX (K : PySem.W.Frag) (a : Addr) (cls : Value) (d : Option Addr) (f : Str) (te : TE) : TE := fun σ H Q => te σ H fun x H1 => x = .ref a ∧ ∃ (C dd : Addr) (fs : List (Str × V)) (v : V), cls = .ref C ∧ XfC K C ∧ PySem.W.findIn K (.ref C) f = some none ∧ d = some dd ∧ H1 dd = some (.xd fs) ∧ fs.lookup f = some v ∧ Q v H1
def tsE (K : PySem.W.Frag) (i j : Nat) (CA CB : Addr) (f o : Str) (a : Addr) (cls : Value) (d : Option Addr) : TS := tSeq (tAsg (tIf (tAnd (tB (tCB (rIsX K cls d a) (tCons (tVar i) (tCons (tC (.ref CA)) tNil)))) (tNot (tB (tCB (rIsX K cls d a) (tCons (tVar i) (tCons (tC (.ref CB)) tNil)))))) (tXfX K a cls d f (tVar i)) (tC (.str o))) (gName j)) tNext
def hndE (i j : Nat) (bA bB : Nat → Bool) (o : Str) (k : Nat) (xs : List AV) : SSem := fun ρ => if i < ρ.length ∧ j < ρ.length ∧ i ≠ j then (if (bA k && !bB k) = true then (match xs with
  | [t] => .ret (.nx ((ρ.set j (.fro t)).set i .un))
  | _ => .bad) else .ret (.nx ((ρ.set j (.fro (.str o))).set i .un))) else .bad
def tMakeS (C : Addr) (sp : Sp) (dvs : List V) (E : L2.St → XK) (t : TA) : TE := fun σ H Q => t σ H fun vs H1 => ∀ x dx, H1 x = none → H1 dx = none → dx ≠ x → sp (.ref x :: (vs ++ dvs)) (upd (upd H1 dx (.own x)) x (.ins C dx [])) (fun v H2 => v = .non ∧ Q (.ref x) H2) (E σ)
section
variable {X : Cx} {ct : CT} {β : BInv} {Ex : XK} {e : Expr} {es : List Expr} {fk : SemL} {pos p pos' pos2 np posT : Pos} {b₀ : Stmt} {suite : List Stmt}
end
end Dn
set_option Elab.async false
set_option linter.all false
set_option maxRecDepth 100000
set_option maxHeartbeats 2000000
namespace Dn
open PySem PySem.Spec PyProof.Rows L2
structure Er (P : Program) (w : World) (K : PySem.W.Frag) (mg : Str → Option Value) (base : Heap) (nm fld : Str) (C : Addr) : Prop where
  mgC : mg nm = some (.ref C)
  ox : OexC K C
  no : PySem.W.findIn K (.ref C) fld = some none
  mkE : ∃ fI fd pn, PySem.W.findIn K (.ref C) "__init__" = some (some (.ref fI)) ∧ PySem.W.typeIn K (.ref fI) = some (.type "function") ∧ FnOk P w K mg base (L2.CX P w) 1 fI fd ["self", pn] (spX K C fld) ∧ Binds K fd ["self", pn] []
section
variable {X : Cx} {ct : CT} {β : BInv} {Ex : XK} {e : Expr} {fk : SemL} {pos p pos' : Pos}
end
structure ErC (K : PySem.W.Frag) (mg : Str → Option Value) (nm : Str) (C : Addr) : Prop where
  mgC : mg nm = some (.ref C)
  clI : (PySem.W.clsIn K C).isSome = true
  ty : PySem.W.typeIn K (.ref C) = some (.type "type")
  exB : PySem.W.subIn K (.ref C) (.type "BaseException") = some true
structure ErX (K : PySem.W.Frag) (C : Addr) (fld : Str) : Prop where
  ex : ExcC K C
  xf : XfC K C
  no : PySem.W.findIn K (.ref C) fld = some none
abbrev TX : XK := fun _ _ _ => True
def exW (c0 : Gc) (β : BInv) (W : WX) (g : G) (H : Hp) (ρ : Env') (σ : L2.St) : Nat → List AV → Prop := fun c xs => ∀ g' H' C d us, Ext g g' H H' → Rel c0 β g' ρ σ H' → c0.mg (c0.ct c).1 = some (.ref C) → H' d = some (.xd ((c0.ct c).2.zip us)) → us.length = (c0.ct c).2.length → RepsG c0 g' H' xs us → W (.ref C) (some d) σ H'
def rdX (c0 : Gc) (β : BInv) (W : WX) (m : Env' → T AV) : TE := fun σ H Q => ∃ g ρ, Rel c0 β g ρ σ H ∧ (m ρ).all (fun t => ∀ g' H', Ext g g' H H' → ∀ v, Rel c0 β g' ρ σ H' → RepG c0 g' H' t v → Q v H') (exW c0 β W g H ρ σ)
def rdXS (c0 : Gc) (β : BInv) (W : WX) (m : Env' → T Env') : TS := fun D σ H => ∃ g ρ, Rel c0 β g ρ σ H ∧ (m ρ).all (fun ρ' => ∀ g' H', Ext g g' H H' → ∀ σ', Rel c0 β g' ρ' σ' H' → D.nx σ' H') (exW c0 β W g H ρ σ)
def JX (X : Cx) (ct : CT) (β : BInv) (e : Expr) (m : Env' → T AV) : Prop := ∀ (W : WX) (pn : List (Addr × Obj)) (xe : Value → Shared → Prop), Takes (X.tr pn xe) W → PE (X.tr pn xe) e (rdX (gc X ct) β W m)
def JB (X : Cx) (ct : CT) (β : BInv) (b : List Stmt) (m : Env' → T Env') : Prop := ∀ (W : WX) (pn : List (Addr × Obj)) (xe : Value → Shared → Prop), Takes (X.tr pn xe) W → PSs (X.tr pn xe) b (rdXS (gc X ct) β W m)
noncomputable def envB (a b : Env') : Bool := @decide (a = b) (Classical.propDecidable _)
noncomputable def mSame {α γ : Type} (q : T (α × Env')) (ρ : Env') (k : α → T γ) : T γ := q.bind fun p => if envB p.2 ρ = true then k p.1 else .bad
noncomputable def mArgs (fk : SemL) (fn : List AV → T AV) : Env' → T AV := fun ρ => mSame (fk ρ) ρ fn
noncomputable def mIfX (fc : SemB) (a b : Env' → T AV) : Env' → T AV := fun ρ => mSame (fc ρ) ρ fun c => if c = true then a ρ else b ρ
noncomputable def mIfS (fc : SemB) (a b : Env' → T Env') : Env' → T Env' := fun ρ => mSame (fc ρ) ρ fun c => if c = true then a ρ else b ρ
def mDrop (m : Env' → T AV) : Env' → T Env' := fun ρ => (m ρ).bind fun _ => .ret ρ
section
variable {X : Cx} {ct : CT} {β : BInv} {a b c e : Expr} {es : List Expr} {fk : SemL} {pos p pos' pos2 : Pos} {lv n : Nat} {ps : List Str} {fn : List AV → T AV} {x : Str}
end
noncomputable def sTryB (m : Env' → T Env') (sub : Nat → Bool) (hnd : Nat → List AV → SSem) : SSem := fun ρ => tryT (m ρ) (fun ρ' => .ret (.nx ρ')) fun c xs => if sub c then hnd c xs ρ else .exc c xs
section
variable {X : Cx} {ct : CT} {β : BInv} {Ex : XK} {pos' np posT : Pos} {b₀ : Stmt} {suite body : List Stmt}
end
def mulS (x : Str) (n : Int) : Str := if n < 1 then Str.empty else if (n == 1 || x.length == 0) = true then x else ⟨(List.replicate n.toNat x.cps).foldl (· ++ ·) #[]⟩
def pMulS (a b : AV) : Option AV := match a, b with
  | .str x, .int k => if 0 ≤ k ∧ k ≤ 1000 ∧ x.length ≤ 1000 then some (.str (mulS x k)) else none
  | _, _ => none
end Dn
set_option Elab.async false
set_option linter.all false
set_option maxRecDepth 100000
set_option maxHeartbeats 2000000
namespace Dn
open PySem PySem.Spec PyProof.Rows L2
def mSetN (i : Nat) (m : Env' → T AV) : Env' → T Env' := fun ρ => (m ρ).bind fun _ => if i < ρ.length then .ret (ρ.set i (.fro .non)) else .bad
section
variable {X : Cx} {ct : CT} {β : BInv} {a b c e : Expr} {es : List Expr} {fk : SemL} {pos p pos' p1 p2 p3 p4 apos : Pos} {lv n : Nat} {ps : List Str} {fn : List AV → T AV} {x mt : Str}
end
end Dn
set_option Elab.async false
set_option linter.all false
set_option maxRecDepth 100000
set_option maxHeartbeats 2000000
namespace Dn
open PySem PySem.Spec PyProof.Rows L2
def pIsi2O (c : Nat) (u v : String) (a : AV) : Option AV := match a with
  | .ins c' _ => if c' = c then some (.bl false) else none
  | t => pIsi2 u v t
section
variable {X : Cx} {ct : CT} {β : BInv} {Ex : XK} {a b c e : Expr} {f k : Sem} {pos p p2 p3 p4 : Pos} {x : Str} {u v : String}
end
def tMethS (C : Addr) (m : Str) (sp : Sp) (E : L2.St → XK) (ta : TE) (t : TA) : TE := fun σ H Q => ta σ H fun x H1 => ∃ a dx fs, x = .ref a ∧ H1 a = some (.ins C dx fs) ∧ fs.lookup m = none ∧ t σ H1 fun vs H2 => sp (x :: vs) H2 Q (E σ)
noncomputable def mMeth (c : Nat) (f : Sem) (fk : SemL) (fn : List AV → T AV) : Env' → T AV := fun ρ => (f ρ).bind fun q => (frz q).bind fun s => if envB s.2 ρ = true then (match s.1 with
  | .ins c' xs => if c' = c then (fk ρ).bind fun p => if envB p.2 ρ = true then fn (.ins c' xs :: p.1) else .bad else .bad
  | _ => .bad) else .bad
section
variable {X : Cx} {ct : CT} {β : BInv} {a e : Expr} {es : List Expr} {f : Sem} {fk : SemL} {pos p apos : Pos} {lv n c : Nat} {ps : List Str} {fn : List AV → T AV} {mt : Str}
end
end Dn
set_option Elab.async false
set_option linter.all false
set_option maxRecDepth 100000
set_option maxHeartbeats 2000000
namespace Dn
open PySem PySem.Spec PyProof.Rows L2
def sDputT (j : Nat) (fk fv : Sem) : SSem := fun ρ => (fv ρ).bind fun p => (frz p).bind fun q => (lift (isMdT q.2 j)).bind fun _ => (fk q.2).bind fun r => (lift (rs r.1 r.2)).bind fun a => (lift (keyT a)).bind fun k => (lift (isMdT r.2 j)).bind fun kvs =>
  if kvs.length < big then .ret (.nx (r.2.set j (.md false (dPutT kvs a k q.1)))) else .bad
theorem sDputT_b {γ : Type} {j : Nat} {fk fv : Sem} {ρ : Env'} {g : Out → T γ} : (sDputT j fk fv ρ).bind g = ((fv ρ).bind fun p => (frz p).bind fun q => (lift (isMdT q.2 j)).bind fun _ => (fk q.2).bind fun r => (lift (rs r.1 r.2)).bind fun a => (lift (keyT a)).bind fun k => (lift (isMdT r.2 j)).bind fun kvs =>
  if kvs.length < big then .ret (.nx (r.2.set j (.md false (dPutT kvs a k q.1)))) else .bad).bind g := rfl
def keysT : List (AV × AV) → Option (List (List Key))
  | [] => some []
  | q :: r => (keyOfT q.1).bind fun k => (keysT r).map fun ks => k :: ks
def dctOf (kvs : List (AV × AV)) : Option AV := (keysT kvs).map fun ks => .dct ks (kvs.map (·.2))
def lGive (j : Nat) (k : SemL) : SemL := fun ρ => (lift (isMdT ρ j)).bind fun kvs => (lift (dctOf kvs)).bind fun t => (k (ρ.set j (.fro t))).bind fun r => .ret (t :: r.1, r.2)
theorem lGive_b {γ : Type} {j : Nat} {k : SemL} {ρ : Env'} {g : List AV × Env' → T γ} : (lGive j k ρ).bind g = (lift (isMdT ρ j)).bind fun kvs => (lift (dctOf kvs)).bind fun t => (k (ρ.set j (.fro t))).bind fun r => g (t :: r.1, r.2) := by
  unfold lGive
  simp only [T.bind_assoc, bind_ret']
theorem drT_split {c0 : Gc} {A D : Addr → Prop} {H : Hp} : ∀ {kvs : List (AV × AV)} {us : List (List Key × V)}, DRT c0 A D H kvs us → ∃ ks, keysT kvs = some ks ∧ us = ks.zip (us.map (·.2)) ∧ (us.map (·.2)).length = ks.length ∧ RepL c0 A D H (kvs.map (·.2)) (us.map (·.2))
  | _, _, .nil => ⟨[], rfl, rfl, rfl, by rw [List.map_nil, List.map_nil, RepL]⟩
  | _, _, .cons (a := q) (b := u) h t => by
    obtain ⟨ks, e1, e2, e3, e4⟩ := drT_split t
    refine ⟨u.1 :: ks, ?_, ?_, ?_, ?_⟩
    · show (keyOfT q.1).bind _ = _
      rw [h.1, Option.bind_some, e1]
      rfl
    · rw [List.map_cons, List.zip_cons_cons]
      exact congrArg (List.cons u) e2
    · rw [List.map_cons, List.length_cons, List.length_cons, e3]
    · rw [List.map_cons, List.map_cons]
      exact .cons h.2 e4
section
variable {X : Cx} {ct : CT} {β : BInv} {Ex : XK} {a e value : Expr} {es : List Expr} {fk fv fi fe : Sem} {k : SemL} {pos p pos' p2 tpos : Pos} {x : Str}
theorem js_dputT (j : Nat) (hu : X.A.units + 1 < cLine) (hv : PE X (.Name x p) (tVar j)) (hk : JE X ct β Ex a fk) (he : JE X ct β Ex value fv) (hs : swapsWith value (some (.Subscript (.Name x p) a pos')) pos.line X.env = pure false := by rfl) :
    JS X ct β Ex (.Assign [.Subscript (.Name x p) a pos'] value pos) (sDputT j fk fv) := by
  refine PS.imp (ps_dput hu hv hk he hs) fun D σ H h => ?_
  obtain ⟨g, ρ, R, h⟩ := h
  refine ⟨g, ρ, R, okT_mono (okT_bind h) fun g1 H1 q e1 h1 v R1 rv => ?_⟩
  obtain ⟨g2, s, e2, R2, rs, h2⟩ := frz_ok R1 rv h1
  obtain ⟨kvs0, em0, h3⟩ := okT_lift h2
  obtain ⟨d, us0, _, hσ, hd0, _⟩ := R2.mdT (isMdT_eq em0)
  refine ⟨.ref d, hσ, g2, s.2, R2, okT_mono (okT_bind h3) fun g3 H3 r e3 h4 y R3 ry => ?_⟩
  obtain ⟨u, eu, h5⟩ := okT_lift h4
  obtain ⟨kk, ek, h6⟩ := okT_lift h5
  obtain ⟨kvs, em, h7⟩ := okT_lift h6
  obtain ⟨d', us, ho, hσ', hd, rd⟩ := R3.mdT (isMdT_eq em)
  rw [hσ] at hσ'
  cases hσ'
  obtain ⟨b, rfl, tb⟩ := key_repT ek (ry.rs R3 eu)
  by_cases hl : kvs.length < big
  · rw [if_pos hl] at h7
    refine ⟨d, _, rfl, .t hd tb (by rw [← rd.length]; exact Nat.lt_of_lt_of_le hl big_line), ?_⟩
    exact okT_ret' h7 (ext_upd ho) σ (R3.updDT (lt_of_ml (isMdT_eq em)) ho hσ (rd.put (keyT_of ek) (e3.rep rs)))
  · rw [if_neg hl] at h7
    exact (show False from h7).elim
theorem jl_give (j : Nat) (hv : PE X (.Name x p) (tVar j)) (hr : JL X ct β Ex es k) (hs : starEach (.Name x p :: es) X.env = (false, eval (.Name x p) X.env) :: starEach es X.env := by rfl) : JL X ct β Ex (.Name x p :: es) (lGive j k) := by
  refine PA.imp (pa_cons hv hr hs) fun σ H Q h => ?_
  obtain ⟨g, ρ, R, h⟩ := h
  obtain ⟨kvs, em, h2⟩ := okT_lift h
  obtain ⟨t, et, h3⟩ := okT_lift h2
  obtain ⟨d, us, ho, hσ, hd, rd⟩ := R.mdT (isMdT_eq em)
  have E := ext_no g j H
  obtain ⟨ks, k1, k2, k3, k4⟩ := drT_split rd
  have ht : t = .dct ks (kvs.map (·.2)) := by
    unfold dctOf at et
    rw [k1] at et
    cases et
    rfl
  subst ht
  have rp : RepG (gc X ct) (g.no j) H (.dct ks (kvs.map (·.2))) (.ref d) := by
    rw [RepG, Rep]
    refine ⟨d, us.map (·.2), rfl, ?_, by rw [← k2]; exact hd, k3, E.reps k4⟩
    rintro (z | ⟨i, z⟩ | z)
    · exact (R.sep j d ho).1 z
    · by_cases hi : i = j
      · subst hi; rw [own_no] at z; cases z
      · rw [own_no_ne hi] at z
        exact hi (R.inj i j d z ho)
    · exact (R.sep j d ho).2 z
  have R2 : Rel (gc X ct) β (g.no j) (ρ.set j (.fro (.dct ks (kvs.map (·.2))))) σ H := by
    refine R.put E rfl (fun _ _ => rfl) (lt_of_ml (isMdT_eq em)) (fun i hi => own_no_ne hi) (fun _ _ _ _ _ h => h) R.box ?_ fun a h => by rw [own_no] at h; cases h
    rw [own_no]
    exact ⟨rfl, .ref d, hσ, rp⟩
  refine ⟨.ref d, hσ, g.no j, _, R2, okT_mono (okT_bind (okT_ext h3 E)) fun g3 H3 r e3 h4 vs R3 rv => ?_⟩
  exact okT_ret h4 (.ref d :: vs) R3 (.cons (e3.rep rp) rv)
def rGetL : V → V → Hp → VK → Prop := fun o i H Q => ∃ p xs k j v, o = .ref p ∧ i = .int k ∧ H p = some (.lst xs) ∧ ixN xs.length k = some j ∧ xs[j]? = some v ∧ Q v H
theorem get_listL : PGet X rGetL := by
  intro pins s σ H o i ov iv Q I ro ri h
  obtain ⟨p, xs, k, j, z, rfl, rfl, hp, hj, hv, q⟩ := h
  cases ro
  obtain ⟨t, rfl⟩ := ri
  obtain ⟨its, r, pl, hz⟩ := I.list (.of hp)
  obtain ⟨h1, h2, h3, h4⟩ := ixN_seq hj
  have hl := r.length
  have hn := line63
  obtain ⟨w, ew, rw'⟩ := r.get hv
  have fin : EP X pins σ Q w s := ⟨z, H, I, rw', q⟩
  by_cases h0 : 0 ≤ k
  · have hk : k.toNat = j := by
      rw [seqIndex_of h0 h4] at h1
      exact Option.some.inj h1
    exact wpAny_getItem_list pl.isList h0 (by omega) (by rw [hk]; simpa using ew) fin
  · have hk : (k + (its.toArray.size : Int)).toNat = j := by
      rw [seqIndex_neg (by omega) h3] at h1
      rw [List.size_toArray, ← hl]
      exact Option.some.inj h1
    exact wpAny_getItem_list_neg pl.isList (by omega) (by rw [List.size_toArray] <;> omega) (by omega) (by rw [hk]; simpa using ew) fin
def sAugIx (op : Int → Int → Int) (j : Nat) (fi fe : Sem) : SSem := fun ρ => (lift (isMl ρ j)).bind fun _ => (fi ρ).bind fun r => (lift (rs r.1 r.2)).bind fun a => (lift (intOf a)).bind fun k => (lift (isMl r.2 j)).bind fun xs => (lift (ixN xs.length k)).bind fun n => (lift (xs[n]?)).bind fun y => (lift (intOf y)).bind fun u =>
  (fe r.2).bind fun s => (lift (rs s.1 s.2)).bind fun b => (lift (intOf b)).bind fun w => (lift (isMl s.2 j)).bind fun xs2 => (lift (ixN xs2.length k)).bind fun n2 => .ret (.nx (s.2.set j (.ml (xs2.set n2 (.int (op u w))))))
theorem sAugIx_b {γ : Type} {op : Int → Int → Int} {j : Nat} {fi fe : Sem} {ρ : Env'} {g : Out → T γ} : (sAugIx op j fi fe ρ).bind g = ((lift (isMl ρ j)).bind fun _ => (fi ρ).bind fun r => (lift (rs r.1 r.2)).bind fun a => (lift (intOf a)).bind fun k => (lift (isMl r.2 j)).bind fun xs => (lift (ixN xs.length k)).bind fun n => (lift (xs[n]?)).bind fun y => (lift (intOf y)).bind fun u =>
  (fe r.2).bind fun s => (lift (rs s.1 s.2)).bind fun b => (lift (intOf b)).bind fun w => (lift (isMl s.2 j)).bind fun xs2 => (lift (ixN xs2.length k)).bind fun n2 => .ret (.nx (s.2.set j (.ml (xs2.set n2 (.int (op u w))))))).bind g := rfl
theorem int_of {c0 : Gc} {g : G} {H : Hp} {a : AV} {k : Int} {v : V} (e : intOf a = some k) (r : RepR c0 g H a v) : v = .int k := by
  have hb := intOf_eq e
  subst hb
  exact r.int
theorem js_augIx {op : Operator} {o : Int → Int → Int} (j : Nat) (hpv : PE X (.Name x p) (tVar j)) (hip : PIp X op (ipI o)) (hi : JE X ct β Ex a fi) (he : JE X ct β Ex e fe)
    (ha : ∀ ov iv new, augStore a ov iv new = (do holding [new, ov, iv] (setItem ov iv new); release [new, ov, iv] []; pure .next) := by intros; rfl) : JS X ct β Ex (.AugAssign (.Subscript (.Name x p) a tpos) op e pos) (sAugIx o j fi fe) := by
  refine PS.imp (ps_augS hpv hi get_listL he hip set_list ha) fun D σ H h => ?_
  obtain ⟨g, ρ, R, h⟩ := h
  obtain ⟨xs0, e0, h1⟩ := okT_lift h
  obtain ⟨q0, vs0, hq0, hσ, ho0, _⟩ := R.ml (isMl_eq e0)
  refine ⟨.ref q0, hσ, g, ρ, R, okT_mono (okT_bind h1) fun g1 H1 r e1 h2 i R1 ri => ?_⟩
  obtain ⟨b, eb, h3⟩ := okT_lift h2
  obtain ⟨k, ek, h4⟩ := okT_lift h3
  obtain ⟨xs, ex, h5⟩ := okT_lift h4
  obtain ⟨n, en, h6⟩ := okT_lift h5
  obtain ⟨y, ey, h7⟩ := okT_lift h6
  obtain ⟨u, eu, h8⟩ := okT_lift h7
  have hi := int_of ek (ri.rs R1 eb)
  subst hi
  obtain ⟨q1, vs, hq, hσ1, ho, rr⟩ := R1.ml (isMl_eq ex)
  rw [hσ] at hσ1
  cases hσ1
  obtain ⟨w, ew, rw'⟩ := RepL.get' rr ey
  have hw := int_of eu (.inl rw')
  subst hw
  refine ⟨q0, vs, k, n, _, rfl, rfl, ho, by rw [rr.length]; exact en, ew, g1, r.2, R1, okT_mono (okT_bind h8) fun g2 H2 s e2 h9 z R2 rz => ?_⟩
  obtain ⟨c, ec, h10⟩ := okT_lift h9
  obtain ⟨l, el, h11⟩ := okT_lift h10
  obtain ⟨xs2, ex2, h12⟩ := okT_lift h11
  obtain ⟨n2, en2, h13⟩ := okT_lift h12
  have hz := int_of el (rz.rs R2 ec)
  subst hz
  refine ⟨u, l, rfl, rfl, ?_⟩
  obtain ⟨q2, vs2, hq2, hσ2, ho2, rr2⟩ := R2.ml (isMl_eq ex2)
  rw [hσ] at hσ2
  cases hσ2
  refine ⟨q0, vs2, k, n2, rfl, rfl, ho2, by rw [rr2.length]; exact en2, ?_⟩
  exact okT_ret' h13 (ext_upd hq2) _ (R2.upd (lt_of_ml (isMl_eq ex2)) hq2 hσ (set_reps (by rw [Rep]) n2 rr2))
end
def pComb (a b : AV) : Option AV := match a, b with
  | .int i, .int j => if 0 ≤ i ∧ 0 ≤ j ∧ i ≤ 18000 then some (.int (PySem.W.mcComb i j)) else none
  | _, _ => none
def rComb : List V → Hp → VK → Prop := fun vs H Q => ∃ a b : Int, vs = [.int a, .int b] ∧ (0 ≤ a ∧ a ≤ 18000) ∧ 0 ≤ b ∧ Q (.int (PySem.W.mcComb a b)) H
theorem cr_comb {X : Cx} : CallR X (.builtin "math.comb") rComb := by
  intro pins s σ H vs us Q I r h
  obtain ⟨a, b, rfl, ⟨a0, a1⟩, b0, q⟩ := h
  obtain ⟨t, u, rfl⟩ := Vals.int2 r
  exact PySem.W.mc_comb a0 b0 (by omega) (.inr a1) fun _ => ⟨.int _, H, I.tok _, ⟨_, rfl⟩, q⟩
theorem o_comb {X : Cx} {ct : CT} : Op2' X ct (fun x y H Q => rComb [x, y] H Q) pComb := by
  intro g H a b z x y Q live ra rb e q
  cases a with
  | int i =>
    cases b with
    | int j =>
      obtain ⟨h, rfl⟩ := ifp_some (show (if 0 ≤ i ∧ 0 ≤ j ∧ i ≤ 18000 then some (AV.int (PySem.W.mcComb i j)) else none) = some z from e)
      exact ⟨i, j, by rw [ra.int, rb.int], ⟨h.1, h.2.2⟩, h.2.1, q _ H (Same.refl H) rep_int⟩
    | _ => cases e
  | _ => cases e
def numOf : AV → Option Int
  | .int i => some i
  | .bl b => some (if b = true then 1 else 0)
  | _ => none
def numsOfA : List AV → Option (List Int)
  | [] => some []
  | x :: r => (numOf x).bind fun i => (numsOfA r).map fun l => i :: l
def pSumB (a : AV) : Option AV := match a with
  | .lst xs => (numsOfA xs).map fun ns => .int ns.sum
  | _ => none
def NumV (v : V) (i : Int) : Prop := v = .int i ∨ ∃ b : Bool, v = .bl b ∧ i = if b = true then 1 else 0
def rSumB (K : PySem.W.Frag) : List V → Hp → VK → Prop := fun vs H Q => ∃ (a : Addr) (xs : List V) (ns : List Int), vs = [V.ref a] ∧ SqL K H a xs ∧ Paired NumV xs ns ∧ Q (.int ns.sum) H
theorem preSum_list (ns : List Int) : ∀ n, n ≤ ns.length → preSum (fun i => ns.getD i 0) n = (ns.take n).sum
  | 0, _ => by simp [preSum]
  | n + 1, h => by
    have ih := preSum_list ns n (by omega)
    rw [List.take_succ, List.sum_append, ← ih, List.getElem?_eq_getElem (by omega)]
    simp only [preSum]
    rw [List.getD_eq_getElem?_getD, List.getElem?_eq_getElem (by omega)]
    simp
theorem paired_get {α β : Type} {R : α → β → Prop} : ∀ {xs : List α} {ys : List β} {i : Nat} {x : α}, Paired R xs ys → xs[i]? = some x → ∃ y, ys[i]? = some y ∧ R x y
  | _, _, i, x, .nil, e => by simp at e
  | _, _, 0, x, .cons h t, e => by
    simp at e
    subst e
    exact ⟨_, rfl, h⟩
  | _, _, i + 1, x, .cons h t, e => by
    obtain ⟨y, e2, h2⟩ := paired_get t (show _ = some x by simpa using e)
    exact ⟨y, by simpa using e2, h2⟩
theorem vals_get' {vs : List V} {us : List Value} (r : Vals vs us) {i : Nat} {u : Value} (e : us[i]? = some u) : ∃ v, vs[i]? = some v ∧ RelV v u := by
  have hi : i < vs.length := by
    rw [r.length]
    exact (List.getElem?_eq_some_iff.mp e).1
  obtain ⟨w, ew, rw'⟩ := r.get (List.getElem?_eq_getElem hi)
  rw [e] at ew
  cases ew
  exact ⟨_, List.getElem?_eq_getElem hi, rw'⟩
theorem cr_sumB {X : Cx} (hc : X.calm = true) : CallR X (.builtin "sum") (rSumB X.K) := by
  intro pins s σ H vs us Q I r h
  obtain ⟨a, xs, ns, rfl, hs, hn, q⟩ := h
  obtain ⟨its, rv, hl, _⟩ := I.list hs
  rw [Vals.ref1 r]
  have hla := hl.isList
  have hlt : a < s.heap.objs.size := by
    obtain ⟨o, ho, _⟩ := hla
    exact Heap.lt_size ho
  have len : ns.length = its.toArray.size := by rw [List.size_toArray, ← rv.length, hn.length]
  refine call_sum_walkAnyB (wpAny_pyIter_list hla ?_)
  refine ⟨_, _, _, _, _, _, _, fun i => ns.getD i 0, rfl, (Walks.list (A := X.A.in1) (I.ok.hd hc) s.heap.objs.size a (Nat.ne_of_lt hlt) its.toArray).toS, ⟨⟨_, Heap.get?_push_size _ rfl, rfl, rfl⟩, hla.at fun o e => Heap.get?_push_of_some _ e⟩, ?_, fun i v hv => ?_, fun s' t' hm => ?_⟩
  · intro b hb
    rcases List.mem_cons.mp hb with rfl | hb
    · show _ < (s.heap.push _).objs.size
      rw [Heap.size_push]
      exact Nat.lt_succ_self _
    · rw [List.mem_singleton.mp hb]
      show _ < (s.heap.push _).objs.size
      rw [Heap.size_push]
      exact Nat.lt_succ_of_lt hlt
  · have hv : its.toArray[i]? = some v := hv
    rw [List.getElem?_toArray] at hv
    obtain ⟨x, ex, rx⟩ := vals_get' rv hv
    obtain ⟨k, ek, hk⟩ := paired_get hn ex
    show NumOf (ns.getD i 0) v
    rw [List.getD_eq_getElem?_getD, ek]
    rcases hk with rfl | ⟨b, rfl, hb⟩
    · obtain ⟨t, rfl⟩ := rx
      exact .inl ⟨t, rfl⟩
    · have rx : v = .bool b := rx
      subst rx
      exact .inr ⟨b, rfl, hb⟩
  · obtain ⟨h', gn, dr, tk, os⟩ := s'
    have e1 := hm.gens
    have e2 := hm.drawn
    have e3 := hm.os
    have e1 : gn = s.gens := e1
    have e2 : dr = s.drawn := e2
    have e3 : os = s.os := e3
    subst e1 e2 e3
    refine ⟨.int ns.sum, H, I.kept (h' := h') (t' := tk) fun b o e => hm.heap b o (fun hb => ?_) (Heap.get?_push_of_some _ e), ⟨t', ?_⟩, q⟩
    · have := Heap.lt_size e
      rw [List.mem_singleton.mp hb] at this
      exact absurd this (Nat.lt_irrefl _)
    · rw [preSum_list ns _ (by rw [len]; exact Nat.le_refl _), ← len, List.take_length]
theorem numsOf_rep {c0 : Gc} {A D : Addr → Prop} {H : Hp} : ∀ {xs : List AV} {ns : List Int} {vs : List V}, numsOfA xs = some ns → RepL c0 A D H xs vs → Paired NumV vs ns
  | [], ns, vs, h, r => by
    cases h
    rw [RepL] at r
    subst r
    exact .nil
  | x :: xs, ns, vs, h, r => by
    rw [RepL] at r
    obtain ⟨v, r', rfl, rx, rr⟩ := r
    have h : (numOf x).bind (fun i => (numsOfA xs).map fun l => i :: l) = some ns := h
    cases e : numOf x with
    | none => rw [e] at h; cases h
    | some i =>
      rw [e, Option.bind_some] at h
      cases e2 : numsOfA xs with
      | none => rw [e2] at h; cases h
      | some l =>
        rw [e2] at h
        cases h
        refine .cons ?_ (numsOf_rep e2 rr)
        cases x with
        | int j => cases e; rw [Rep] at rx; exact .inl rx
        | bl b => cases e; rw [Rep] at rx; exact .inr ⟨b, rx, rfl⟩
        | _ => cases e
theorem o_sumB {X : Cx} {ct : CT} : Op1' X ct (fun x H Q => rSumB X.K [x] H Q) pSumB := by
  intro g H a z x Q live ra e q
  cases a with
  | lst xs =>
    cases e1 : numsOfA xs with
    | none => simp [pSumB, e1] at e
    | some ns =>
      have e : (numsOfA xs).map (fun ns => AV.int ns.sum) = some z := e
      rw [e1] at e
      cases e
      obtain ⟨p, vs, rfl, hs, r⟩ := ra.lst'
      exact ⟨p, vs, ns, rfl, .of hs, numsOf_rep e1 r, q _ H (Same.refl H) rep_int⟩
  | _ => cases e
end Dn
set_option Elab.async false
set_option linter.all false
set_option maxRecDepth 100000
set_option maxHeartbeats 2000000
namespace Dn
open PySem PySem.Spec PyProof.Rows L2
def ch : Nat → Nat → Nat
  | _, 0 => 1
  | 0, _ + 1 => 0
  | n + 1, k + 1 => ch n k + ch n (k + 1)
open PySem.Builtin.Math in
open PySem.Builtin.Math in
open PySem.Builtin.Math in
def sumN : Nat → (Nat → Nat) → Nat
  | 0, _ => 0
  | n + 1, f => sumN n f + f n
def subs {α : Type} : List α → List (List α)
  | [] => [[]]
  | x :: l => subs l ++ (subs l).map (x :: ·)
def sumL {β : Type} (l : List β) (f : β → Nat) : Nat := (l.map f).sum
section
variable {α β : Type}
end
end Dn
set_option Elab.async false
set_option linter.all false
set_option maxRecDepth 100000
set_option maxHeartbeats 2000000
namespace Dn
open PySem PySem.Spec PyProof.Rows L2
section
variable {α : Type}
abbrev Pc (α : Type) := (α → Bool) × Nat
def parB (cs : List (Pc α)) (M : List α) : Bool := cs.all fun c => decide ((M.filter c.1).length % 2 = c.2)
def cntP (P : List α) (cs : List (Pc α)) (L : Nat) : Nat := sumL (subs P) fun M => if M.length ≤ L ∧ parB cs M = true then 1 else 0
def wF (l : List (Nat × Nat)) : Nat → Nat := l.foldl (fun W c => fun p => sumN (p + 1) fun a => W a * ch c.1 (c.2 + 2 * (p - a))) (fun p => if p = 0 then 1 else 0)
def needN (l : List (Nat × Nat)) : Nat := (l.map (·.2)).sum
def sF (f j : Nat) : Nat := sumN (j + 1) (ch f)
def fN (l : List (Nat × Nat)) (f L : Nat) : Nat := if needN l ≤ L then sumN ((L - needN l) / 2 + 1) fun p => wF l p * sF f (L - needN l - 2 * p) else 0
end
end Dn
set_option Elab.async false
set_option linter.all false
set_option maxRecDepth 100000
namespace Dn
open PySem PySem.Spec PyProof.Rows L2
open PySem.W PySem.SeqAt
section
variable {prog : Program} {w : World} {A : Around} {E : Value → Shared → Prop} {s : Shared} {l : Addr} {xs : Array (Int × Tok)}
end
def rMaxT (K : PySem.W.Frag) : List V → Hp → VK → Prop := fun vs H Q => ∃ (a : Addr) (ns : List Int), vs = [V.ref a] ∧ SqT K H a (ns.map V.int) ∧ 0 < ns.length ∧ ∀ m, m ∈ ns → (∀ y, y ∈ ns → y ≤ m) → Q (.int m) H
def pMaxT (a : AV) : Option AV := match a with
  | .tup xs => match intsOf xs with
    | some (x :: r) => some (.int (maxL x r))
    | _ => none
  | _ => none
end Dn
set_option Elab.async false
set_option linter.all false
set_option maxRecDepth 100000
namespace Dn
open PySem PySem.Spec PyProof.Rows L2
open PySem.W PySem.SeqAt
def rCount (K : PySem.W.Frag) : V → List V → Hp → VK → Prop := fun x xs H Q => ∃ (a : Addr) (ns : List Int) (i : Int), x = V.ref a ∧ xs = [.int i] ∧ SqL K H a (ns.map V.int) ∧ Q (.int (ns.countP fun n => n == i : Nat)) H
section
variable {X : Cx}
end
section
variable {X : Cx} {ct : CT} {β : BInv} {Ex : XK} {a b : Expr} {f k : Sem} {pos : Pos}
def fCount (f k : Sem) : Sem := fun ρ => (f ρ).bind fun p => (lift (rs p.1 p.2)).bind fun a0 => (lift (lstOf a0)).bind fun _ => (k p.2).bind fun q => (lift (rs p.1 q.2)).bind fun a => (lift (lstOf a)).bind fun xs => (lift (rs q.1 q.2)).bind fun b => (lift (intOf b)).bind fun i =>
  (lift (intsOf xs)).bind fun ns => .ret (.val (.int (ns.countP fun n => n == i : Nat)), q.2)
end
end Dn
set_option Elab.async false
set_option linter.all false
set_option maxRecDepth 100000
namespace Dn
open PySem PySem.Spec PyProof.Rows L2
open PySem.W PySem.SeqAt
def zipA (xs ys : List AV) : List AV := List.zipWith (fun x y => AV.tup [x, y]) xs ys
def iZip (f k : Sem) : SemI := fun ρ => (f ρ).bind fun p => (frz p).bind fun q => (k q.2).bind fun p2 => (frz p2).bind fun q2 => (lift (lstOf q.1)).bind fun xs => (lift (lstOf q2.1)).bind fun ys => .ret (zipA xs ys, q2.2)
section
variable {X : Cx} {ct : CT} {β : BInv} {Ex : XK} {e e2 : Expr} {f k : Sem} {p pos tpos : Pos} {elts : List Expr} {kk : Nat}
end
end Dn
namespace Dn
open PySem PySem.Spec PyProof.Rows L2
def rZero (K : PySem.W.Frag) : R2 := fun x y H Q => ∃ l xs, x = .ref l ∧ y = .int 0 ∧ SqT K H l xs ∧ xs ≠ [] ∧ ∀ p, H p = none → Q (.ref p) (upd H p (.tup []))
def pMulZ (a b : AV) : Option AV := match a, b with
  | .tup xs, .int k => if k = 0 then (if xs.isEmpty = false then some (.tup []) else none) else pMulT (.tup xs) (.int k)
  | _, _ => none
section
variable {X : Cx} {ct : CT}
end
end Dn
set_option Elab.async false
set_option linter.all false
set_option maxRecDepth 100000
namespace Dn
open PySem PySem.Spec PyProof.Rows L2
def pIsT (a b : AV) : Option AV := match a, b with
  | .non, .bl _ => some (.bl false)
  | a, b => pIs a b
section
variable {X : Cx} {ct : CT}
end
end Dn
set_option Elab.async false
set_option linter.all false
set_option maxRecDepth 100000
namespace Dn
open PySem PySem.Spec PyProof.Rows L2
def convF (f g : Nat → Nat) (p : Nat) : Nat := sumN (p + 1) fun a => f a * g (p - a)
def ownF (c : Nat × Nat) (k : Nat) : Nat := ch c.1 (c.2 + 2 * k)
section
variable {α : Type} [DecidableEq α]
def flipC (cs : List (Pc α)) (p : α) : List (Pc α) := cs.map fun c => (c.1, if c.1 p = true then 1 - c.2 else c.2)
end
end Dn
set_option Elab.async false
set_option linter.all false
set_option maxRecDepth 100000
namespace Dn
open PySem PySem.Spec PyProof.Rows L2
def lookD : List (List Key) → List AV → List Key → Option AV
  | k :: ks, x :: xs, j => if k = j then some x else lookD ks xs j
  | _, _, _ => none
def pInD (a b : AV) : Option AV := match b with
  | .dct ks xs => (keyT a).map fun k => .bl (lookD ks xs k).isSome
  | _ => none
def pIxD (a b : AV) : Option AV := match a with
  | .dct ks xs => (keyT b).bind fun k => lookD ks xs k
  | _ => none
section
variable {X : Cx} {ct : CT}
def rInDct : R2 := fun x y H Q => ∃ a o, y = .ref a ∧ DGet H a x o ∧ Q (.bl o.isSome) H
def rIxDct : R2 := fun x y H Q => ∃ a v, x = .ref a ∧ DGet H a y (some v) ∧ Q v H
end
section
variable {X : Cx} {ct : CT} {β : BInv} {Ex : XK} {a b : Expr} {f k : Sem} {pos : Pos}
end
end Dn
set_option Elab.async false
set_option linter.all false
set_option maxRecDepth 100000
namespace Dn
open PySem PySem.Spec PyProof.Rows L2
section
variable {α : Type}
def flA (cs : List (Pc α)) (A : List α) : List (Pc α) := cs.map fun c => (c.1, (c.2 + (A.filter c.1).length) % 2)
end
def WOk (W : List Nat) (l : List (Nat × Nat)) (L : Nat) : Prop := (l = [] ∧ W = [1]) ∨ (l ≠ [] ∧ (∀ p, p < W.length → W.getD p 0 = wF l p) ∧ ∀ p, needN l + 2 * p ≤ L → p < W.length)
theorem WOk.less {W : List Nat} {l : List (Nat × Nat)} {L L' : Nat} (h : WOk W l L) (hl : L' ≤ L) : WOk W l L' := h.imp id fun ⟨a, b, c⟩ => ⟨a, b, fun p hp => c p (Nat.le_trans hp hl)⟩
section
variable {α : Type}
def goL (ok : List α → Bool) : List α → List α → List (List α)
  | _, [] => []
  | A, p :: Q => ((if ok (A ++ [p]) then [A ++ [p]] else []) ++ goL ok (A ++ [p]) Q) ++ goL ok A Q
def frL (ok : List α → Bool) (A Q : List α) : List (List α) := (if ok A then [A] else []) ++ goL ok A Q
def okC (cs : List (Pc α)) (B : Nat) (M : List α) : Bool := decide (M.length ≤ B) && parB cs M
end
end Dn
set_option Elab.async false
set_option linter.all false
set_option maxRecDepth 100000
namespace Dn
open PySem PySem.Spec PyProof.Rows L2
def pGcd (a b : AV) : Option AV := match a, b with
  | .int i, .int j => some (.int ((Nat.gcd i.natAbs j.natAbs : Nat) : Int))
  | _, _ => none
end Dn
set_option Elab.async false
set_option linter.all false
set_option maxRecDepth 100000
namespace Dn
open PySem PySem.Spec PyProof.Rows L2
def rGtD (K : PySem.W.Frag) : R2 := fun x y H Q => ∃ da db, Dp K H x da ∧ Dp K H y db ∧ PySem.W.alike da db = true ∧ da ≠ .none ∧ da.depth ≤ 12 ∧ Q (.bl (PySem.W.dataLt db da)) H
def nonD : PyData → Bool
  | .none => true
  | _ => false
def pGtD (a b : AV) : Option AV := if dat DEP a && dat DEP b && PySem.W.alike (toD DEP a) (toD DEP b) && !nonD (toD DEP a) then some (.bl (PySem.W.dataLt (toD DEP b) (toD DEP a))) else none
def prD (p : Nat × Nat) : PyData := .tuple [.int (p.1 : Int), .int (p.2 : Int)]
def ltM : List (Nat × Nat) → List (Nat × Nat) → Bool
  | [], [] => false
  | [], _ :: _ => true
  | _ :: _, [] => false
  | p :: M, q :: N => if p = q then ltM M N else decide (p.1 < q.1 ∨ p.1 = q.1 ∧ p.2 < q.2)
abbrev ltQ (p q : Nat × Nat) : Prop := p.1 < q.1 ∨ p.1 = q.1 ∧ p.2 < q.2
end Dn
set_option Elab.async false
set_option linter.all false
set_option maxRecDepth 100000
set_option maxHeartbeats 2000000
namespace Dn
open PySem PySem.Spec PyProof.Rows L2
def tsQ (K : PySem.W.Frag) (i j l : Nat) (CA CB : Addr) (f : Str) (a : Addr) (cls : Value) (d : Option Addr) : TS := tSeq (tAsg (tAndV (tOp (rEqD K) (tXfX K a cls d f (tVar i)) (tVar l)) (tAndV (tCB (rIsX K cls d a) (tCons (tVar i) (tCons (tC (.ref CA)) tNil))) (tNotV (tCB (rIsX K cls d a) (tCons (tVar i) (tCons (tC (.ref CB)) tNil)))))) (gName j)) tNext
def hndQ (i j l : Nat) (bA bB : Nat → Bool) (k : Nat) (xs : List AV) : SSem := fun ρ => if (i < ρ.length ∧ j < ρ.length) ∧ i ≠ j ∧ l ≠ i then (match xs, ρ[l]? with
  | [t], some (.fro u) => if (dat DEP t && dat DEP u) = true then .ret (.nx ((ρ.set j (.fro (.bl (aeq DEP t u && (bA k && !bB k))))).set i .un)) else .bad
  | _, _ => .bad) else .bad
end Dn
set_option Elab.async false
set_option linter.all false
set_option maxRecDepth 100000
set_option maxHeartbeats 0
namespace Dn
open PySem PySem.Spec PyProof.Rows L2
def TabI (P : Addr) (q : Str) (T : Addr → Prop) (H : Hp) : Prop := T P ∧ ∃ ps : Array Value, H P = some (.tbl ps) ∧ TriplesOk ps.toList ∧
  (∀ (pos : Pos) (cv : Value), codeAmong pos ps.toList = some cv → ∃ c, cv = .ref c ∧ T c ∧ c ≠ P) ∧ ∀ a, T a → a = P ∨ H a = some (LamX.CodeO a q)
section
variable {P : Addr} {q : Str} {T : Addr → Prop} {H H' : Hp} {a : Addr}
theorem codeO_tup {c : Addr} {vs : List V} : LamX.CodeO c q ≠ .tup vs := fun z => by
  unfold LamX.CodeO at z
  cases z
theorem TabI.find (h : TabI P q T H) (ta : T a) : (∃ ps, H a = some (.tbl ps)) ∨ H a = some (LamX.CodeO a q) := by
  obtain ⟨_, ps, e, _, _, m⟩ := h
  rcases m a ta with z | z
  · rw [z]; exact .inl ⟨ps, e⟩
  · exact .inr z
theorem TabI.some (h : TabI P q T H) (ta : T a) : ∃ o, H a = some o := by
  rcases h.find ta with ⟨ps, e⟩ | e
  · exact ⟨_, e⟩
  · exact ⟨_, e⟩
theorem TabI.frame (h : TabI P q T H) (k : ∀ a, T a → H' a = H a) : TabI P q T H' := by
  obtain ⟨tp, ps, e, tr, c, m⟩ := h
  exact ⟨tp, ps, by rw [k P tp]; exact e, tr, c, fun a ta => (m a ta).imp id fun z => by rw [k a ta]; exact z⟩
end
def BoxT (β : BInv) (P : Addr) (q : Str) : BInv where
  I := fun B D H => ∃ B1 T : Addr → Prop, (∀ a, B a ↔ B1 a ∨ T a) ∧ (∀ a, T a → ¬ B1 a) ∧ β.I B1 D H ∧ TabI P q T H
  live := fun {B D H a} h b => by
    obtain ⟨B1, T, e, _, hb, ht⟩ := h
    rcases (e a).mp b with z | z
    · exact β.live hb z
    · obtain ⟨o, eo⟩ := ht.some z
      rw [eo]
      exact fun z => by cases z
  nt := fun {B D H a} h b ws x => by
    obtain ⟨B1, T, e, _, hb, ht⟩ := h
    rcases (e a).mp b with z | z
    · exact β.nt hb z ws x
    · rcases ht.find z with ⟨ps, eo⟩ | eo
      · rw [eo] at x; cases x
      · rw [eo] at x; exact codeO_tup (Option.some.inj x)
  top := fun {B D H a} h d => by
    obtain ⟨B1, T, e, _, hb, ht⟩ := h
    exact (e a).mpr (.inl (β.top hb d))
  frame := fun {B D H H'} h k => by
    obtain ⟨B1, T, e, n, hb, ht⟩ := h
    exact ⟨B1, T, e, n, β.frame hb fun a z => k a ((e a).mpr (.inl z)), ht.frame fun a z => k a ((e a).mpr (.inr z))⟩
theorem spT {c0 : Gc} {β : BInv} {P : Addr} {q : Str} {n : Nat} {fn : List AV → T AV} {vs : List V} {H : Hp} {Q : VK} {E : XK} (h : spM c0 (BoxT β P q) n fn vs H Q E) : spM c0 β n fn vs H Q E := by
  obtain ⟨g, ts, ho, hm, hmb, ⟨B1, Tb, eB, nB, hb, ht⟩, r, hl, h⟩ := h
  let g1 : G := { g with M := fun a => g.M a ∨ Tb a, B := B1 }
  have av : ∀ a, g1.Av a ↔ g.Av a := fun a => by
    constructor
    · rintro ((z | z) | ⟨i, z⟩ | z)
      · exact .inl z
      · exact .inr (.inr ((eB a).mpr (.inr z)))
      · exact .inr (.inl ⟨i, z⟩)
      · exact .inr (.inr ((eB a).mpr (.inl z)))
    · rintro (z | ⟨i, z⟩ | z)
      · exact .inl (.inl z)
      · exact .inr (.inl ⟨i, z⟩)
      · rcases (eB a).mp z with z | z
        · exact .inr (.inr z)
        · exact .inl (.inr z)
  have back : ∀ {g' : G} {H' : Hp}, Ext g1 g' H H' → β.I g'.B g'.D H' →
      Ext g { g' with M := g.M, B := fun a => g'.B a ∨ Tb a } H H' ∧ (BoxT β P q).I (fun a => g'.B a ∨ Tb a) g'.D H' ∧ ∀ a, ({ g' with M := g.M, B := fun a => g'.B a ∨ Tb a } : G).Av a ↔ g'.Av a := fun {g' H'} e hb' => by
    have keepT : ∀ a, Tb a → H' a = H a := fun a ta => by
      obtain ⟨o, eo⟩ := ht.some ta
      rw [eo]
      exact e.keep a o eo (fun i z => by rw [show g1.own i = none from ho i] at z; cases z) (fun z => nB a ta z)
    refine ⟨⟨fun a o h1 h2 h3 => e.keep a o h1 h2 fun z => h3 ((eB a).mpr (.inl z)), e.live, rfl, fun a z => ?_, fun a z => ?_, e.dsub, e.own, e.s⟩, ⟨g'.B, Tb, fun a => Iff.rfl, fun a ta z => ?_, hb', ht.frame keepT⟩, fun a => ?_⟩
    · rcases (eB a).mp z with z | z
      · exact .inl (e.bsub a z)
      · exact .inr z
    · rcases z with z | z
      · exact (e.bnew a z).elim (fun z => .inl ((eB a).mpr (.inl z))) .inr
      · exact .inl ((eB a).mpr (.inr z))
    · rcases e.bnew a z with z | z
      · exact nB a ta z
      · obtain ⟨o, eo⟩ := ht.some ta
        rw [eo] at z
        cases z
    · have em : ∀ b, g'.M b ↔ g.M b ∨ Tb b := fun b => by rw [e.m]
      constructor
      · rintro (z | ⟨i, z⟩ | z | z)
        · exact .inl ((em a).mpr (.inl z))
        · exact .inr (.inl ⟨i, z⟩)
        · exact .inr (.inr z)
        · exact .inl ((em a).mpr (.inr z))
      · rintro (z | ⟨i, z⟩ | z)
        · rcases (em a).mp z with z | z
          · exact .inl z
          · exact .inr (.inr (.inr z))
        · exact .inr (.inl ⟨i, z⟩)
        · exact .inr (.inr (.inl z))
  refine ⟨g1, ts, ho, fun a z => ?_, fun a z => ?_, hb, r.imp (fun a o h1 h2 => ⟨h1, fun z => h2 ((av a).mp z)⟩) fun _ z => z, hl, ?_⟩
  · rcases z with z | z
    · exact hm a z
    · obtain ⟨o, eo⟩ := ht.some z
      refine ⟨by rw [eo]; exact (nomatch ·), fun ws x => ?_⟩
      rcases ht.find z with ⟨ps, e1⟩ | e1
      · rw [e1] at x; cases x
      · rw [e1] at x; exact codeO_tup (Option.some.inj x)
  · rcases z with z | z
    · exact fun y => hmb a z ((eB a).mpr (.inl y))
    · exact nB a z
  · refine T.all_mono h (fun t w g' H' e v hb' rv => ?_) fun c xs w g' H' C d us e hb' h1 h2 h3 rv => ?_
    · obtain ⟨e2, b2, a2⟩ := back e hb'
      exact w _ H' e2 v b2 (rv.imp (fun a o h1 h2 => ⟨h1, fun z => h2 ((a2 a).mp z)⟩) fun _ z => z)
    · obtain ⟨e2, b2, a2⟩ := back e hb'
      exact w _ H' C d us e2 b2 h1 h2 h3 (rv.imp (fun a o h1 h2 => ⟨h1, fun z => h2 ((a2 a).mp z)⟩) fun _ z => z)
section
variable {P : Program} {w : World} {K : PySem.W.Frag} {mg : Str → Option Value} {base : Heap} {ct : CT} {β : BInv} {lv n : Nat} {x : Str} {ps : List Str} {fn : List AV → T AV} {TP : Addr} {q : Str}
theorem fnT {cx : CXT} {fa : Addr} {fd : FuncData} (F : FnOk P w K mg base cx lv fa fd ps (spM ⟨K, mg, ct⟩ β n fn)) : FnOk P w K mg base cx lv fa fd ps (spM ⟨K, mg, ct⟩ (BoxT β TP q) n fn) := F.imp fun vs H Q E h => spT h
theorem Df.tab (D : Df P w K mg base ct β lv x n ps fn) : Df P w K mg base ct (BoxT β TP q) lv x n ps fn := by
  obtain ⟨fa, fd, F, h1, h2, h3⟩ := D.ex
  exact ⟨⟨fa, fd, fnT F, h1, h2, h3⟩, D.len⟩
end
def spLawT (K : PySem.W.Frag) (P : Addr) : Sp := fun vs H Q _ => ∃ (a : Addr) (ns : List Int), vs = [.ref a] ∧ SqL K H a (ns.map V.int) ∧ ns.length ≤ 63 ∧ H P = some (.tbl #[]) ∧ ∀ H', Q (.bl true) H'
def gT (P : Addr) : G := ⟨fun _ => False, fun _ => none, fun a => a = P, fun _ => False, none⟩
end Dn
set_option Elab.async false
set_option linter.all false
set_option maxRecDepth 100000
set_option maxHeartbeats 0
namespace Dn
open PySem PySem.Spec PyProof.Rows L2
def LamO (q : Str) (params : Arguments) (body : Expr) (scope : Scope) (f c' : Addr) : HO := .ext fun h => ∃ pm ctv, h.get? f = some (PySem.W.kla_obj "<lambda>" q params body scope [] pm c' ctv)
inductive LamH (P : Addr) (q : Str) (H : Hp) (ps : Array Value) (c' : Addr) : Hp → Prop where
  | hit (pos : Pos) (e : codeAmong pos ps.toList = some (.ref c')) : LamH P q H ps c' H
  | new (l k : Value) (n : H c' = none) (am : ∀ (pos : Pos) (cv : Value), codeAmong pos (ps ++ #[l, k, .ref c']).toList = some cv → codeAmong pos ps.toList = some cv ∨ cv = .ref c') (tr : TriplesOk (ps ++ #[l, k, .ref c']).toList) : LamH P q H ps c' (upd (upd H P (.tbl (ps ++ #[l, k, .ref c']))) c' (LamX.CodeO c' q))
section
variable {X : Cx} {pins : List (Addr × Obj)} {σ : L2.St} {H : Hp} {s : Shared}
theorem lamO_ok {P : Program} {w : World} {H : Hp} {h : Heap} {q : Str} {params : Arguments} {body : Expr} {scope : Scope} {f c' : Addr} {pm ctv : Value} (e : h.get? f = some (PySem.W.kla_obj "<lambda>" q params body scope [] pm c' ctv)) : ObjOk P w H h f (LamO q params body scope f c') :=
  ⟨⟨pm, ctv, e⟩, ⟨_, e⟩, fun h1 h2 ⟨a, b, x⟩ st => ⟨a, b, st _ x⟩⟩
theorem made {c P : Addr} {q : Str} {ps : Array Value} {params : Arguments} {body : Expr} {scope : Scope} {pos : Pos} {Er : Value → Shared → Prop} {Q : Value → Shared → Prop} (I : Inv X pins σ H s) (TB : LamX.TabB X.base X.mg c P) (hcode : X.env.code = .ref c) (hq : X.env.qual ++ "<lambda>" = q)
    (hP : H P = some (.tbl ps)) (ht : TriplesOk ps.toList) (ha : ∀ (pos : Pos) (cv : Value), codeAmong pos ps.toList = some cv → ∃ d, cv = .ref d ∧ H d = some (LamX.CodeO d q)) (hdef : defaultsOf params X.env = ([], [])) (hnf : ∀ y ∈ scope.names, y.2 ≠ .free) (hcl : cloFrom X.env.cells scope.names [] = [])
    (h : ∀ (f c' : Addr) (H1 : Hp) (s' : Shared), LamH P q H ps c' H1 → H1 f = none → H1 c' = some (LamX.CodeO c' q) → Inv X pins σ (upd H1 f (LamO q params body scope f c')) s' → Q (.ref f) s') :
    wpAny (model X.prog X.w) X.A (eval (.Lambda params body scope pos) X.env) Q Er s := by
  subst hq
  have tab : s.heap.get? P = some { cls := .none, data := .fields ps } := I.hok P _ hP
  have bu : s.heap.BuiltinsAt X.mg P := TB.bm.keeps I.bk
  have clo : closureFor scope X.env = pure [] := by
    rw [← hcl]
    exact closure_ok fun y hy e => absurd e (hnf y hy)
  refine PySem.W.kla_eval hdef ?_
  cases look : codeAmong pos ps.toList with
  | some cv =>
    obtain ⟨d, rfl, ed⟩ := ha pos cv look
    refine PySem.W.kla_makeFunctionHit (mg := X.mg) (c := c) (P := P) (ps := ps) clo I.ok.glob (I.mod.glob.keeps I.bk) hcode (TB.code.keeps I.bk) tab ht look bu fun ctv g tk kp sz => ?_
    have fn : H g.objs.size = none := I.hok.fresh sz
    exact h g.objs.size d H _ (.hit pos look) fn ed (I.laid (fun b u e => Heap.get?_push_of_some _ (kp b u e)) sz (lamO_ok (Heap.get?_push_size _ rfl)))
  | none =>
    refine PySem.W.kla_makeFunction (mg := X.mg) (c := c) (P := P) (ps := ps) clo I.ok.glob (I.mod.glob.keeps I.bk) hcode (TB.code.keeps I.bk) tab ht look TB.gP bu fun d ctv g tk but ge lt rc tb => ?_
    obtain ⟨d2, oc, us, t, e2, ho, hd, hu⟩ := rc
    cases e2
    have nd : H d = none := I.hok.fresh ge
    have eL : (ps ++ #[rawInt pos.line, rawInt pos.col, .ref d]).toList = ps.toList ++ [rawInt pos.line, rawInt pos.col, .ref d] := by simp
    have I1 := LamX.inv_table (q := X.env.qual ++ "<lambda>") (t' := tk) (more := #[rawInt pos.line, rawInt pos.col, .ref d]) (h' := g) I hP (fun b o nb e => but b o nb e) tb ge ⟨oc, us, t, ho, hd, hu⟩
    have sz : s.heap.objs.size ≤ g.objs.size := Nat.le_trans ge (Nat.le_of_lt lt)
    have n1 : g.objs.size ≠ d := Nat.ne_of_gt lt
    have n2 : g.objs.size ≠ P := Nat.ne_of_gt (Nat.lt_of_lt_of_le (Heap.lt_size tab) sz)
    refine h g.objs.size d _ _ (.new (rawInt pos.line) (rawInt pos.col) nd (fun p' cv z => ?_) ?_) (by rw [upd_ne n1, upd_ne n2]; exact I.hok.fresh sz) upd_same (I1.laid (t' := tk) (fun b u e => Heap.get?_push_of_some _ e) (Nat.le_refl _) (lamO_ok (Heap.get?_push_size _ rfl)))
    · rw [eL] at z
      exact LamX.among_app _ ht z
    · rw [eL]
      exact PySem.TriplesOk_snoc _ _ _ _ ht
def BodyK (X : Cx) (N : List Str) (q : Str) (scope : Scope) (body : Expr) (dom : V → Int → Hp → Prop) : Prop :=
  ∀ (A : Around) (outer : List Env) (s : Shared) (H : Hp) (f c' : Addr), A.handled = none → ∃ tb : TE, PE (cxOf CX0 X.prog X.w X.K X.mg X.base N q scope f (.ref c') A outer s H E0) body tb ∧ ∀ (x : V) (z : Int) (Q : VK), dom x z H → Q (.int z) H → tb (L2.start N [x]) H Q
end
end Dn
set_option Elab.async false
set_option linter.all false
set_option maxRecDepth 100000
set_option maxHeartbeats 0
namespace Dn
open PySem PySem.Spec PyProof.Rows L2
def bestBy (ks : List Int) : Nat → Nat → Bool := fun i j => decide (ks.getD i 0 > ks.getD j 0)
def rMaxK (q : Str) (params : Arguments) (body : Expr) (scope : Scope) (dom : V → Int → Hp → Prop) : List V → List V → Hp → VK → Prop := fun vs zs H Q => ∃ (a f c' : Addr) (xs : List V) (ks : List Int), vs = [.ref a] ∧ zs = [.ref f] ∧ H a = some (.lst xs) ∧ ks.length = xs.length ∧ 0 < xs.length ∧
  H f = some (LamO q params body scope f c') ∧ H c' = some (LamX.CodeO c' q) ∧ (∀ (i : Nat) (x : V) (k : Int), xs[i]? = some x → ks[i]? = some k → dom x k H) ∧ ∀ x, xs[argBest (bestBy ks) (xs.length - 1)]? = some x → Q x H
section
variable {X : Cx} {pins : List (Addr × Obj)} {σ : L2.St} {H : Hp} {s : Shared}
end
end Dn
set_option Elab.async false
set_option linter.all false
set_option maxRecDepth 100000
set_option maxHeartbeats 0
namespace Dn
open PySem PySem.Spec PyProof.Rows L2
def bestA (key : AV → Option Int) : AV → Int → List AV → Option AV
  | b, _, [] => some b
  | b, kb, x :: xs => match key x with
    | some k => if k > kb then bestA key x k xs else bestA key b kb xs
    | none => none
def pMaxBy (key : AV → Option Int) (a : AV) : Option AV := match a with
  | .lst (x :: xs) => match key x with
    | some k => bestA key x k xs
    | none => none
  | _ => none
def tLam (P : Addr) (q : Str) (params : Arguments) (body : Expr) (scope : Scope) : TE := fun σ H Q => ∃ ps : Array Value, H P = some (.tbl ps) ∧ TriplesOk ps.toList ∧ (∀ (pos : Pos) (cv : Value), codeAmong pos ps.toList = some cv → ∃ d, cv = .ref d ∧ H d = some (LamX.CodeO d q)) ∧
  ∀ (f c' : Addr) (H1 : Hp), LamH P q H ps c' H1 → H1 f = none → H1 c' = some (LamX.CodeO c' q) → Q (.ref f) (upd H1 f (LamO q params body scope f c'))
section
variable {X : Cx} {ct : CT} {β : BInv} {Ex : XK} {P : Addr} {q : Str}
end
end Dn
set_option Elab.async false
set_option linter.all false
set_option maxRecDepth 100000
set_option maxHeartbeats 0
namespace Dn
open PySem PySem.Spec PyProof.Rows L2
def domR (x : V) (z : Int) (H : Hp) : Prop := ∃ (t : Addr) (i j : Int), x = .ref t ∧ H t = some (.tup [.int i, .int j]) ∧ z = j - (if 0 > i then 0 else i)
def kRest : AV → Option Int
  | .tup [.int a, .int b] => some (b - (if 0 > a then 0 else a))
  | _ => none
section
variable {P : Program} {w : World} {K : PySem.W.Frag} {mg : Str → Option Value} {base : Heap} {ct : CT} {β : BInv}
end
section
variable {P : Program} {w : World} {K : PySem.W.Frag} {mg mb : Str → Option Value} {cx : CXT} {lv : Nat} {fa a c TP : Addr} {fd : FuncData} {x : Str} {sp : Sp} {s1 : Shared} {us : List Value} {ns : List Int}
end
end Dn
set_option Elab.async false
set_option linter.all false
set_option maxRecDepth 100000
set_option maxHeartbeats 0
namespace Dn
open PySem PySem.Spec PyProof.Rows L2
def signsOf : AV → Option (List AV)
  | .str s => some (s.cps.toList.map fun c => .str ⟨#[c]⟩)
  | _ => none
def iSigns (f : Sem) : SemI := fun ρ => (f ρ).bind fun p => (lift (rs p.1 p.2)).bind fun a => (lift (signsOf a)).bind fun xs => .ret (xs, p.2)
def pIntS (a : AV) : Option AV := match a with
  | .str s => match PySem.intText? s with
    | some n => if s.length ≤ 640 then some (.int n) else none
    | none => none
  | _ => none
section
variable {X : Cx} {ct : CT} {β : BInv} {Ex : XK} {a tg : Expr} {f : Sem}
end
end Dn
set_option Elab.async false
set_option linter.all false
set_option maxRecDepth 100000
set_option maxHeartbeats 0
namespace Dn
open PySem PySem.Spec PyProof.Rows L2
def tChain3 (r r' r'' : R2) (ta tb tc td : TE) : TE := fun σ H Q => ta σ H fun x H1 => tb σ H1 fun y H2 => r x y H2 fun z H3 => ∃ k, z = .bl k ∧
  (if k = true then tc σ H3 fun y' H4 => r' y y' H4 fun z' H5 => ∃ k', z' = .bl k' ∧ (if k' = true then td σ H5 fun w' H6 => r'' y' w' H6 Q else Q (.bl false) H5) else Q (.bl false) H3)
section
variable {X : Cx} {a b c d : Expr} {ta tb tc td : TE} {pos : Pos}
end
def fChain3 (o o' o'' : AV → AV → Option AV) (f k l r : Sem) : Sem := fun ρ => (f ρ).bind fun p => (k p.2).bind fun q => (lift (rs p.1 q.2)).bind fun a => (lift (rs q.1 q.2)).bind fun b => (lift (o a b)).bind fun z => (lift (blOf z)).bind fun d =>
  if d then (l q.2).bind fun s => (lift (rs q.1 s.2)).bind fun b' => (lift (rs s.1 s.2)).bind fun c => (lift (o' b' c)).bind fun z2 => (lift (blOf z2)).bind fun d2 =>
    if d2 then (r s.2).bind fun t => (lift (rs s.1 t.2)).bind fun c' => (lift (rs t.1 t.2)).bind fun e => (lift (o'' c' e)).bind fun z => .ret (.val z, t.2) else .ret (.val (.bl false), s.2)
  else .ret (.val (.bl false), q.2)
section
variable {X : Cx} {ct : CT} {β : BInv} {Ex : XK} {a b c d : Expr} {f k l m : Sem} {pos : Pos}
end
end Dn
set_option Elab.async false
set_option linter.all false
set_option maxRecDepth 100000
namespace PySem
namespace TrS
open PySem PySem.Spec PyProof.Rows SrtO
section
variable {prog : Program} {w : World} {A : Around} {E : Value → Shared → Prop} {s : Shared}
end
end TrS
end PySem
namespace Dn
open PySem PySem.Spec PyProof.Rows L2
def rSortedQ (K : PySem.W.Frag) : List V → Hp → VK → Prop := fun vs H Q => ∃ (a : Addr) (xs : List V) (k : V → Int × Int), vs = [V.ref a] ∧ (SqL K H a xs ∨ SqT K H a xs) ∧ (∀ x ∈ xs, ∃ t, x = V.ref t ∧ H t = some (.tup [.int (k x).1, .int (k x).2])) ∧
  ∀ ys p, SrtO.Srtd (L2.ltP k) ys → SrtO.Stb (L2.ltP k) ys xs → H p = none → Q (.ref p) (upd H p (.lst ys))
def pSortQ (a : AV) : Option AV := (seqOf a).bind fun xs => (pairsInts xs).map fun ks => .lst ((isortP ks).map prV)
end Dn
set_option linter.all false
set_option maxRecDepth 100000
namespace Dn
open PySem PySem.Spec PyProof.Rows L2
section
variable {prog : Program} {w : World} {A : Around} {E : Value → Shared → Prop} {s : Shared}
end
def SetQ (P : Program) (w : World) (a : Addr) (ns : List Int) : HO := .ext fun h => h.SetOf (PySem.intKind P w) a (fun k => ns.any (· == k)) ns.length
def rSetI (X : Cx) : List V → Hp → VK → Prop := fun vs H Q => ∃ (l : Addr) (ns : List Int), vs = [V.ref l] ∧ SqL X.K H l (ns.map V.int) ∧ ns.Nodup ∧ ns.length ≤ 1000 ∧ ∀ p, H p = none → Q (.ref p) (upd H p (SetQ X.prog X.w p ns))
def rNeSet (X : Cx) : R2 := fun x y H Q => ∃ (a b : Addr) (ns ms : List Int), x = .ref a ∧ y = .ref b ∧ H a = some (SetQ X.prog X.w a ns) ∧ H b = some (SetQ X.prog X.w b ms) ∧ ns.Perm ms ∧ Q (.bl false) H
def setOf1 (a : AV) : Option (List Int) := (lstOf a).bind fun xs => (intsOf xs).bind fun ns => if ns.Nodup ∧ ns.length ≤ 1000 then some ns else none
def pNeS (ns : List Int) (b : AV) : Option AV := (setOf1 b).bind fun ms => if isort ns = isort ms then some (.bl false) else none
def fNeSet (f k : Sem) : Sem := fun ρ => (f ρ).bind fun p => (lift (rs p.1 p.2)).bind fun a => (lift (setOf1 a)).bind fun ns => (k p.2).bind fun q => (lift (rs q.1 q.2)).bind fun b => (lift (pNeS ns b)).bind fun z => .ret (.val z, q.2)
section
variable {X : Cx} {ct : CT} {β : BInv} {Ex : XK} {a b : Expr} {f k : Sem} {pos p1 p2 q1 q2 : Pos}
end
end Dn
set_option Elab.async false
set_option linter.all false
set_option maxRecDepth 100000
namespace PySem.SeqAt
open PySem PySem.Calls PyProof.Rows
section
variable {A : Around} {s : Shared}
end
end PySem.SeqAt
namespace PySem.W
open PySem PySem.Calls PyProof.Rows PySem.SeqAt
section
variable {prog : Program} {w : World} {A : Around} {E : Value → Shared → Prop} {s : Shared}
def TupsOk (ds : List PyData) : Prop := (∀ d, d ∈ ds → ∃ x r, d = .tuple (x :: r)) ∨ ∃ r, ds = .tuple [] :: r ∧ ∀ d, d ∈ r → ∃ t, d = .tuple t
end
end PySem.W
namespace Dn
open PySem PySem.Spec PyProof.Rows L2
def rSortedL (K : PySem.W.Frag) : List V → Hp → VK → Prop := fun vs H Q => ∃ (a : Addr) (xs : List V) (ds : List PyData), vs = [V.ref a] ∧ SqL K H a xs ∧ DpAll K H xs ds ∧ PySem.W.AllAlike ds ∧ PySem.W.TupsOk ds ∧ (ds.Pairwise fun a b => PySem.W.dataLt b a = false) ∧ (∀ d, d ∈ ds → d.depth ≤ 12) ∧ ∀ p, H p = none → Q (.ref p) (upd H p (.lst xs))
def isTup1 : PyData → Bool
  | .tuple (_ :: _) => true
  | _ => false
def isTup0 : PyData → Bool
  | .tuple _ => true
  | _ => false
def tupsB : List PyData → Bool
  | .tuple [] :: r => r.all isTup0
  | ds => ds.all isTup1
def ordB : List PyData → Bool
  | [] => true
  | d :: r => (r.all fun e => !PySem.W.dataLt e d) && ordB r
def likeB (ds : List PyData) : Bool := ds.all fun d => ds.all fun e => PySem.W.alike d e
def pSortL (a : AV) : Option AV := match a with
  | .lst xs => if (xs.all (dat DEP) && likeB (xs.map (toD DEP))) && (tupsB (xs.map (toD DEP)) && ordB (xs.map (toD DEP))) then some (.lst xs) else none
  | _ => none
end Dn
set_option Elab.async false
set_option linter.all false
set_option maxRecDepth 100000
namespace Dn
open PySem PySem.Spec PyProof.Rows L2
def rLtD (K : PySem.W.Frag) : R2 := fun x y H Q => ∃ da db, Dp K H x da ∧ Dp K H y db ∧ PySem.W.alike da db = true ∧ da ≠ .none ∧ da.depth ≤ 12 ∧ Q (.bl (PySem.W.dataLt da db)) H
def pLtD (a b : AV) : Option AV := if dat DEP a && dat DEP b && PySem.W.alike (toD DEP a) (toD DEP b) && !nonD (toD DEP a) then some (.bl (PySem.W.dataLt (toD DEP a) (toD DEP b))) else none
section
variable {X : Cx} {ct : CT} {β : BInv} {Ex : XK} {a : Expr} {f : Sem} {p p2 q pos : Pos}
def pLenSetU (a : AV) : Option AV := match a with
  | .tup xs => (tupsInts xs).bind fun ks => if ks.Nodup ∧ ks.length < 64 then some (.int (ks.length : Nat)) else none
  | _ => none
def tLenSetU (K : PySem.W.Frag) (ta : TE) : TE := fun σ H Q => ta σ H fun x H1 => ∃ (l : Addr) (ks : List (Addr × List Int)), x = .ref l ∧ SqT K H1 l (ks.map fun p => V.ref p.1) ∧ (∀ p ∈ ks, SqT K H1 p.1 (p.2.map V.int)) ∧ ks.length < 64 ∧ (ks.map (·.2)).Nodup ∧ Q (.int (ks.length : Nat)) H1
end
end Dn
set_option Elab.async false
set_option linter.all false
set_option maxRecDepth 100000
namespace Dn
open PySem PySem.Spec PyProof.Rows L2
def prm {α : Type} (d : α) (ix : List Nat) (l : List α) : List α := ix.map fun i => l.getD i d
section
variable {X : Cx} {CX : CXT} {k : Nat} {f : Addr} {fd : FuncData} {ps ks : List Str} {sp : Sp} {E : XK} {x : Str} {p pos : Pos} {kws : List Keyword} {tk : TA} {g : List Value → List Value → List Value} {gV : List V → List V → List V}
def tCallN0 (m : Nat) (sp : Sp) (gV : List V → List V → List V) (E : XK) (tk : TA) : TE := fun σ H Q => tk σ H fun zs H2 => zs.length = m ∧ sp (gV [] zs) H2 Q E
end
def JK (X : Cx) (ct : CT) (β : BInv) (Ex : XK) (kws : List Keyword) (f : SemL) : Prop := PK X kws (rdL (gc X ct) β Ex f)
section
variable {X : Cx} {ct : CT} {β : BInv} {Ex : XK} {a : Expr} {f : Sem} {m : SemL} {kws : List Keyword} {nm : Option Str} {kpos p pos : Pos} {x : Str} {lv n : Nat} {ps : List Str} {fn : List AV → T AV}
theorem PK.imp {t t' : TA} (h : PK X kws t) (i : ∀ σ H Q, t' σ H Q → t σ H Q) : PK X kws t' := ⟨fun pos pins s σ H Q I q => h.run pos pins s σ H Q I (i σ H Q q)⟩
def fnP (fn : List AV → T AV) (ix : List Nat) (m : Nat) : List AV → T AV := fun ts => if ts.length = m then fn (prm .non ix ts) else .bad
structure DfK (P : Program) (w : World) (K : PySem.W.Frag) (mg : Str → Option Value) (base : Heap) (ct : CT) (β : BInv) (lv : Nat) (x : Str) (n : Nat) (ps ks : List Str) (ix : List Nat) (fn : List AV → T AV) : Prop where
  ex : ∃ fa fd, FnOk P w K mg base (L2.CX P w) lv fa fd ps (spM ⟨K, mg, ct⟩ β n fn) ∧ mg x = some (.ref fa) ∧ PySem.W.keepIn K (.ref fa) = true ∧ KBn K fd ps 0 ks (fun _ ws => prm .none ix ws) (fun _ zs => prm .non ix zs)
  len : ∀ ts : List AV, T.all (fun _ => True) (fun _ _ => True) (fn ts) → ts.length = n
end
end Dn
set_option Elab.async false
set_option linter.all false
set_option maxRecDepth 100000
namespace L2
open PySem PySem.Spec PyProof.Rows
def tStepL (K : PySem.W.Frag) (te tk : TE) : TE := fun σ H Q => te σ H fun x H1 => tPart tk σ H1 fun o H2 => ∃ a xs zs i, x = .ref a ∧ o = some i ∧ SqL K H2 a xs ∧ (i = 1 ∧ zs = xs ∨ i = -1 ∧ zs = xs.reverse) ∧ ∀ p, H2 p = none → Q (.ref p) (upd H2 p (.lst zs))
section
variable {X : Cx}
end
end L2
namespace Dn
open PySem PySem.Spec PyProof.Rows L2
def fStepL (f k : Sem) : Sem := fun ρ => (f ρ).bind fun p => (frz p).bind fun p1 => (k p1.2).bind fun q => (lift (rs q.1 q.2)).bind fun b => (lift (lstOf p1.1)).bind fun xs => match b with
  | .int i => if i = 1 then .ret (.val (.lst xs), q.2) else if i = -1 then .ret (.val (.lst xs.reverse), q.2) else .bad
  | _ => .bad
end Dn
set_option Elab.async false
set_option linter.all false
set_option maxRecDepth 100000
set_option maxHeartbeats 2000000
namespace Dn
open PySem PySem.Spec PyProof.Rows L2
abbrev TSE := Addr → Value → Option Addr → TS
def endI (i : Nat) (D : Ends) : Ends := { nx := fun m G => D.nx (m.set i none) G, rt := D.rt, bk := fun m G => D.bk (m.set i none) G, ct := fun m G => D.ct (m.set i none) G }
def wAsL (K : PySem.W.Frag) (i : Nat) (Wo : WX) (D : Ends) : List (Value × TSE) → WX
  | [] => Wo
  | p :: r => fun q d m G => ∃ b, PySem.W.exmOne K q p.1 = some b ∧ (b = true → ∀ a, G a = none → p.2 a q d (endI i D) (m.set i (some (.ref a))) G) ∧ (b = false → wAsL K i Wo D r q d m G)
inductive AsOk (X : Cx) (n : Str) : List ExceptHandler → List (Value × TSE) → Prop
  | nil : AsOk X n [] []
  | cons {x : Str} {C : Value} {ts : TSE} {b0 : Stmt} {su : List Stmt} {p1 p2 : Pos} {hs : List ExceptHandler} {l : List (Value × TSE)} : Names X x C → (∀ (a : Addr) (ox : Obj) (q : Value) (d : Option Addr) (pn : List (Addr × Obj)), Zc q d ox → (∃ us, ox.data = .fields us) → PSs (X.suite a ((a, ox) :: pn)) (b0 :: su) (ts a q d)) → AsOk X n hs l → AsOk X n (.ExceptHandler (some (.Name x p1)) (some n) (b0 :: su) p2 :: hs) ((C, ts) :: l)
end Dn
set_option Elab.async false
set_option linter.all false
set_option maxRecDepth 100000
set_option maxHeartbeats 2000000
namespace Dn
open PySem PySem.Spec PyProof.Rows L2
def kIs : Option Int → Value → Bool
  | some i, v => Value.isInt i v
  | none, .none => true
  | none, _ => false
theorem kIs_shape {k : Option Int} {v : Value} (h : kIs k v = true) : (∃ i t, k = some i ∧ v = .int i t) ∨ (k = none ∧ v = .none) := by
  cases k with
  | some i => obtain ⟨t, rfl⟩ := Value.isInt_shape h; exact .inl ⟨i, t, rfl, rfl⟩
  | none => cases v <;> first | exact .inr ⟨rfl, rfl⟩ | cases h
def kHash : Option Int → Int
  | some i => hashInt i
  | none => 0xFCA86420
section
variable {prog : Program} {w : World} {A : Around} {E : Value → Shared → Prop} {s : Shared}
theorem pyHash_none {Q : Int → Shared → Prop} (h : Q 0xFCA86420 { s with toks := s.toks + 1 }) : wpAny (model prog w) A (pyHash .none) Q E s := by
  have ty : s.TypeIs .none "NoneType" := rfl
  unfold pyHash pyHashByItsType
  refine wpAny_bind ?_
  rw [cRoomFor, if_neg (by decide)]
  refine wpAny_pure ?_
  refine wpAny_bind (wpAny_specialOf ty PySem.F.slot_NoneType_hash.lookup ?_)
  show wpAny _ _ (if (some (Value.builtin "NoneType.__hash__") == some Value.none) = true then _ else _) Q E s
  rw [if_neg (by decide)]
  refine wpAny_bind (wpAny_specialOf ty PySem.F.slot_NoneType_hash.lookup ?_)
  show wpAny _ _ (callSpecialIfBoundUnlessNone? .none "__hash__" _ >>= _) Q E s
  refine wpAny_bind (wpAny_callSpecialIfBoundUnlessNone?_slot ty PySem.F.slot_NoneType_hash (wpAny_call_entry PySem.F.slot_NoneType_hash ty PySem.F.entry_NoneType_hash (show wpAny _ _ (do ret (← mkInt 0xFCA86420)) _ _ s from wpAny_ret_mkInt ?_) (PySem.F.args_NoneType_hash_1 _)))
  show wpAny _ _ (if (decide (-(2 : Int) ^ 63 ≤ 0xFCA86420) && decide ((0xFCA86420 : Int) < 2 ^ 63)) = true then _ else _) Q E _
  rw [if_pos (by decide)]
  exact wpAny_pure h
theorem eqBool_none {Q : Bool → Shared → Prop} (h : Q true s) : wpAny (model prog w) A (eqBool .none .none) Q E s := by
  unfold eqBool
  refine wpAny_holding ?_
  rw [if_pos (by decide)]
  exact wpAny_bind (wpAny_rule (wpAny_pure h))
end
def nonKind (prog : Program) (w : World) : PySem.KeyKind prog w (Option Int) where
  is := kIs
  hash := kHash
  inj := fun v a b ha hb => by
    rcases kIs_shape ha with ⟨i, t, rfl, rfl⟩ | ⟨rfl, rfl⟩
    · rcases kIs_shape hb with ⟨j, u, rfl, e⟩ | ⟨rfl, e⟩
      · injection e with e1 _; rw [e1]
      · exact nomatch e
    · rcases kIs_shape hb with ⟨j, u, rfl, e⟩ | ⟨rfl, e⟩
      · exact nomatch e
      · rfl
  byValue := fun k v h => by rcases kIs_shape h with ⟨i, t, rfl, rfl⟩ | ⟨rfl, rfl⟩ <;> rfl
  pyHash := fun hv h => by
    rcases kIs_shape hv with ⟨i, t, rfl, rfl⟩ | ⟨rfl, rfl⟩
    · exact wpAny_pyHash_int h
    · exact pyHash_none h
  eqBool := fun {A E s a b u v Q} hu hv h => by
    rcases kIs_shape hu with ⟨i, t, rfl, rfl⟩ | ⟨rfl, rfl⟩
    · rcases kIs_shape hv with ⟨j, y, rfl, rfl⟩ | ⟨rfl, rfl⟩
      · refine wpAny_eqBool_int ?_
        have e : decide (some i = some j) = (i == j) := by
          by_cases z : i = j
          · subst z; simp
          · simp [z]
        rwa [e] at h
      · exact SeqAt.EqAt.int_none i t _ _ _ _ (by simpa using h)
    · rcases kIs_shape hv with ⟨j, y, rfl, rfl⟩ | ⟨rfl, rfl⟩
      · exact SeqAt.EqAt.none_int j y _ _ _ _ (by simpa using h)
      · exact eqBool_none (by simpa using h)
  «strs» := fun k x t v h => by rcases kIs_shape h with ⟨i, u, rfl, e⟩ | ⟨rfl, e⟩ <;> exact nomatch e
abbrev Tb := List (Option Int × Str)
def lkTb (tb : Tb) (k : Option Int) : Option Str := (tb.find? fun p => decide (p.1 = k)).map (·.2)
def kN : Option Int → V
  | some i => .int i
  | none => .non
def TabAt (P : Program) (w : World) (tb : Tb) (a : Addr) (h : Heap) : Prop := ∃ f, h.MapOf (nonKind P w) a f ∧ ∀ k x, lkTb tb k = some x → ∃ t, f k = some (.str x t)
def TbO (P : Program) (w : World) (tb : Tb) (a : Addr) : HO := .ext fun h => TabAt P w tb a h
theorem tabAt_stay {P : Program} {w : World} {tb : Tb} {a : Addr} {h1 h2 : Heap} (p : TabAt P w tb a h1) (k : ∀ o, h1.get? a = some o → h2.get? a = some o) : TabAt P w tb a h2 := by
  obtain ⟨f, ⟨o, es, ep, ho, r⟩, q⟩ := p
  exact ⟨f, ⟨o, es, ep, k o ho, r⟩, q⟩
theorem tbO_new {P : Program} {w : World} {tb : Tb} {H : Hp} {h : Heap} {a : Addr} (R : TabAt P w tb a h) : ObjOk P w H h a (TbO P w tb a) := by
  have ⟨_, ⟨o, _, _, ho, _⟩, _⟩ := R
  exact ⟨R, ⟨o, ho⟩, fun h1 h2 p k => tabAt_stay p k⟩
theorem merged_nd {κ : Type} [DecidableEq κ] : ∀ (kvs acc : List (κ × Value)), ((acc ++ kvs).map (·.1)).Nodup → merged acc kvs = acc ++ kvs
  | [], acc, _ => (List.append_nil acc).symm
  | p :: r, acc, h => by
    have h2 : ((acc ++ [p] ++ r).map (·.1)).Nodup := by rw [List.append_assoc]; exact h
    have e : PySem.stored acc p.1 p.2 = acc ++ [p] := by
      unfold PySem.stored
      rw [if_neg]
      intro z
      obtain ⟨q, hq, e⟩ := List.any_eq_true.mp z
      have e := of_decide_eq_true e
      rw [List.map_append, List.nodup_append] at h
      exact h.2.2 q.1 (List.mem_map.mpr ⟨q, hq, rfl⟩) p.1 (by simp) e
    show merged (PySem.stored acc p.1 p.2) r = _
    rw [e, merged_nd r _ h2, List.append_assoc]
    rfl
theorem tb_carries {P : Program} {w : World} : ∀ {tb : Tb} {ws : List (Value × Value)}, VV (tb.map fun p => (kN p.1, V.str p.2)) ws → ∃ rs, Carries (nonKind P w) ws rs ∧ rs.map (·.1) = tb.map (·.1) ∧ ∀ k x, lkTb tb k = some x → ∃ t, valueAt rs k = some (.str x t)
  | [], _, r => by rw [List.map_nil] at r; cases r; exact ⟨[], True.intro, rfl, fun k x h => by cases h⟩
  | p :: tb, _, r => by
    rw [List.map_cons] at r
    cases r with
    | @cons a b as bs h t =>
      obtain ⟨rs, c, e, q⟩ := tb_carries (P := P) (w := w) t
      obtain ⟨b1, b2⟩ := b
      obtain ⟨h1, h2⟩ := h
      obtain ⟨tk, rfl⟩ : ∃ tk, b2 = .str p.2 tk := h2
      have hk : (nonKind P w).is p.1 b1 = true := by
        show kIs p.1 b1 = true
        cases e1 : p.1 with
        | some i => rw [e1] at h1; obtain ⟨tk', rfl⟩ : ∃ tk', b1 = .int i tk' := h1; simp [kIs, Value.isInt]
        | none => rw [e1] at h1; obtain rfl : b1 = .none := h1; rfl
      refine ⟨(p.1, .str p.2 tk) :: rs, ⟨hk, rfl, c⟩, by rw [List.map_cons, List.map_cons, e], fun k x hl => ?_⟩
      by_cases z : p.1 = k
      · have : lkTb (p :: tb) k = some p.2 := by simp [lkTb, List.find?_cons, z]
        rw [this] at hl
        cases hl
        exact ⟨tk, by simp [valueAt, List.find?_cons, z]⟩
      · have e1 : lkTb (p :: tb) k = lkTb tb k := by simp [lkTb, List.find?_cons, z]
        rw [e1] at hl
        obtain ⟨t', ht⟩ := q k x hl
        exact ⟨t', by simpa [valueAt, List.find?_cons, z] using ht⟩
def EmO (P : Program) (w : World) (a : Addr) : HO := .ext fun h => h.DictOf (nonKind P w) a []
theorem emO_new {P : Program} {w : World} {H : Hp} {h : Heap} {a : Addr} (R : h.DictOf (nonKind P w) a []) : ObjOk P w H h a (EmO P w a) := by
  have ⟨o, _, _, ho, _⟩ := R
  refine ⟨R, ⟨o, ho⟩, fun h1 h2 p k => ?_⟩
  have ⟨o, es, ep, ho, r⟩ := (show h1.DictOf (nonKind P w) a [] from p)
  exact ⟨o, es, ep, k o ho, r⟩
def tDispN (P : Program) (w : World) (tb : Tb) : TE := fun σ H Q => ∀ p, H p = none → Q (.ref p) (upd H p (TbO P w tb p))
theorem pe_dispN {X : Cx} {pos : Pos} {keys : List (Option Expr)} {values : List Expr} {trs : List (TE × TE)} {tb : Tb} (h : PPs X pos keys values trs) (ht : ∀ σ H (Q : List (V × V) → Hp → Prop), Q (tb.map fun p => (kN p.1, V.str p.2)) H → tPairs trs σ H Q)
    (hall : keys.all (·.isSome) = true) (hl : keys.length = values.length) (h0 : keys ≠ []) (h15 : keys.length ≤ 15) (nd : (tb.map (·.1)).Nodup) : PE X (.Dict keys values pos) (tDispN X.prog X.w tb) := by
  constructor
  intro pins s σ H Q I q
  have nH := I.hok.fresh (Nat.le_refl s.heap.objs.size)
  have em : (s.heap.push { cls := .type "dict", data := .dict #[] }).DictOf (nonKind X.prog X.w) s.heap.objs.size [] := Heap.DictOf.new _
  have I1 := I.laid (o := EmO X.prog X.w s.heap.objs.size) (t' := s.toks) (fun _ _ q => Heap.get?_push_of_some _ q) (Nat.le_refl _) (emO_new em)
  refine wpAny_Dict_walk (knd := nonKind X.prog X.w) hall hl h0 h15 (thn (h.run pins _ σ _ (fun ps H2 => ps = (tb.map fun p => (kN p.1, V.str p.2)) ∧ H2 = upd H s.heap.objs.size (EmO X.prog X.w s.heap.objs.size)) I1 (ht σ _ _ ⟨rfl, rfl⟩)) fun ws s2 ⟨ps, H2, I2, rel, e1, e2⟩ => ?_)
  subst e1 e2
  obtain ⟨rs, c, ek, hv⟩ := tb_carries (P := X.prog) (w := X.w) rel
  have dd : s2.heap.DictOf (nonKind X.prog X.w) s.heap.objs.size [] := (I2.hok _ _ upd_same).1
  refine ⟨rs, c, dd, fun h' dd' hs => ⟨.ref s.heap.objs.size, upd (upd H s.heap.objs.size (EmO X.prog X.w s.heap.objs.size)) s.heap.objs.size (TbO X.prog X.w tb s.heap.objs.size), ?_, rfl, ?_⟩⟩
  · rw [merged_nd rs [] (by rw [List.nil_append, ek]; exact nd), List.nil_append] at dd'
    have he : ∃ q, h'.get? s.heap.objs.size = some q := let ⟨q, _, _, hq, _⟩ := dd'; ⟨q, hq⟩
    exact I2.write (by rw [upd_same]; trivial) (.inl rfl) (fun b u hb hu => (hs.2 b hb).trans hu) he (tbO_new ⟨_, dd'.mapOf, hv⟩)
  · rw [upd_upd]
    exact q _ nH
def tLk (P : Program) (w : World) (tb : Tb) (ty : TE) : TE := fun σ H Q => ∀ p, H p = none → ty σ (upd H p (TbO P w tb p)) fun y H2 => H2 p = some (TbO P w tb p) ∧ ∃ k x, y = kN k ∧ lkTb tb k = some x ∧ Q (.str x) H2
theorem pe_lk {X : Cx} {o e : Expr} {tb : Tb} {ty : TE} {pos : Pos} (ho : PE X o (tDispN X.prog X.w tb)) (he : PE X e ty) (hs : NoSl e) : PE X (.Subscript o e pos) (tLk X.prog X.w tb ty) := by
  constructor
  intro pins s σ H Q I h
  refine subD_of PySem.F.slot_dict_getitem.lookup hs (thn (ho.run pins s σ H (fun x H1 => ∃ p, x = .ref p ∧ H p = none ∧ H1 = upd H p (TbO X.prog X.w tb p)) I fun p np => ⟨p, rfl, np, rfl⟩) fun u s1 ⟨x, H1, I1, rx, p, ex, np, eH⟩ => ?_)
  subst ex eH
  obtain rfl : u = Value.ref p := rx
  refine thn (he.run pins s1 σ _ _ I1 (h p np)) fun iv s2 ⟨y, H2, I2, ry, hp, k, x, ey, el, q⟩ => ?_
  obtain ⟨f, hm, hf⟩ := (show TabAt X.prog X.w tb p s2.heap from (I2.hok p _ hp).1)
  subst ey
  obtain ⟨t, ht⟩ := hf k x el
  have hk : (nonKind X.prog X.w).is k iv = true := by
    show kIs k iv = true
    cases k with
    | some i => obtain ⟨t', rfl⟩ : ∃ t', iv = .int i t' := ry; simp [kIs, Value.isInt]
    | none => obtain rfl : iv = .none := ry; rfl
  exact ⟨hm.typeIs, wpAny_getItem_of hk hm ht ⟨.str x, H2, I2.tok _, ⟨t, rfl⟩, q⟩⟩
def pLk (tb : Tb) : AV → Option AV
  | .int i => (lkTb tb (some i)).map AV.str
  | .non => (lkTb tb none).map AV.str
  | _ => none
theorem j_lk {X : Cx} {ct : CT} {β : BInv} {Ex : XK} {e : Expr} {f : Sem} {tb : Tb} {pos pos2 : Pos} {keys : List (Option Expr)} {values : List Expr} {trs : List (TE × TE)} (h : PPs X pos2 keys values trs) (ht : ∀ σ H (Q : List (V × V) → Hp → Prop), Q (tb.map fun p => (kN p.1, V.str p.2)) H → tPairs trs σ H Q) (ha : JE X ct β Ex e f) (hs : NoSl e := by intro _ _; rfl)
    (hall : keys.all (·.isSome) = true := by rfl) (hl : keys.length = values.length := by rfl) (h0 : keys ≠ [] := by exact fun z => by cases z) (h15 : keys.length ≤ 15 := by decide) (nd : (tb.map (·.1)).Nodup := by decide) : JE X ct β Ex (.Subscript (.Dict keys values pos2) e pos) (fUn (pLk tb) f) := by
  refine PE.imp (pe_lk (pe_dispN h ht hall hl h0 h15 nd) ha hs) fun σ H Q h => ?_
  intro p np
  obtain ⟨g, ρ, R, h⟩ := h
  have s1 := same_upd (o := TbO X.prog X.w tb p) np
  refine ⟨g, ρ, R.same s1, okT_mono (okT_bind (okT_ext h (Ext.same s1))) fun g2 H2 q e2 h2 v R2 rv => ?_⟩
  have hp : H2 p = some (TbO X.prog X.w tb p) := e2.keep p _ upd_same (fun i z => R.ownLive z np) fun z => β.live R.box z np
  refine ⟨hp, ?_⟩
  obtain ⟨a, ea, h3⟩ := okT_lift h2
  obtain ⟨z, ez, h4⟩ := okT_lift h3
  have ra := rv.rs R2 ea
  have fin : ∀ x, z = .str x → Q (.str x) H2 := fun x e => by
    subst e
    exact okT_ret' h4 (Ext.refl _ _) _ R2 (show RepG (gc X ct) g2 H2 (.str x) (.str x) by rw [RepG, Rep])
  cases a with
  | int i =>
    have ev : v = .int i := by
      rcases ra with h | ⟨_, _, _, h, _⟩
      · rw [RepG, Rep] at h; exact h
      · cases h
    obtain ⟨x, ex, e⟩ := Option.map_eq_some_iff.mp (show (lkTb tb (some i)).map AV.str = some z from ez)
    exact ⟨some i, x, ev, ex, fin x e.symm⟩
  | non =>
    have ev : v = .non := by
      rcases ra with h | ⟨_, _, _, h, _⟩
      · rw [RepG, Rep] at h; exact h
      · cases h
    obtain ⟨x, ex, e⟩ := Option.map_eq_some_iff.mp (show (lkTb tb none).map AV.str = some z from ez)
    exact ⟨none, x, ev, ex, fin x e.symm⟩
  | _ => cases ez
abbrev TbT := List (Str × Str)
def lkT (tb : TbT) (k : Str) : Option Str := (tb.find? fun p => decide (p.1 = k)).map (·.2)
def pLkT (tb : TbT) : AV → Option AV
  | .str k => (lkT tb k).map AV.str
  | _ => none
def tbK (tb : TbT) : List (Key × V) := tb.map fun p => (Sum.inr p.1, V.str p.2)
theorem lkT_val (tb : TbT) (k : Str) : valV (tbK tb) (Sum.inr k) = (lkT tb k).map V.str := by
  induction tb with
  | nil => rfl
  | cons p tb ih =>
    by_cases z : p.1 = k
    · have e1 : valV (tbK (p :: tb)) (Sum.inr k) = some (V.str p.2) := valV_pos (p := ((Sum.inr p.1 : Key), V.str p.2)) (by rw [z])
      rw [e1]
      simp [lkT, List.find?_cons, z]
    · have e1 : valV (tbK (p :: tb)) (Sum.inr k) = valV (tbK tb) (Sum.inr k) := valV_neg (p := ((Sum.inr p.1 : Key), V.str p.2)) (fun y => z (Sum.inr.inj y))
      rw [e1, ih]
      simp [lkT, List.find?_cons, z]
theorem j_lkT {X : Cx} {ct : CT} {β : BInv} {Ex : XK} {e : Expr} {f : Sem} {tb : TbT} {pos pos2 : Pos} {keys : List (Option Expr)} {values : List Expr} {trs : List (TE × TE)} (h : PPs X pos2 keys values trs) (ht : ∀ σ H (Q : List (V × V) → Hp → Prop), Q (tb.map fun p => (V.str p.1, V.str p.2)) H → tPairs trs σ H Q) (ha : JE X ct β Ex e f) (hu : X.A.units + 1 < cLine) (hs : NoSl e := by intro _ _; rfl)
    (hall : keys.all (·.isSome) = true := by rfl) (hl : keys.length = values.length := by rfl) (h0 : keys ≠ [] := by exact fun z => by cases z) (h15 : keys.length ≤ 15 := by decide) (l15 : tb.length ≤ 15 := by decide) (nd : (tb.map (·.1)).Nodup := by decide) : JE X ct β Ex (.Subscript (.Dict keys values pos2) e pos) (fUn (pLkT tb) f) := by
  refine PE.imp (pe_dget hu (pe_disp h hall hl h0 h15) ha hs) fun σ H Q h => ?_
  intro p np
  refine ht σ _ _ ⟨upd_same, tbK tb, by rw [tbK, List.map_map]; rfl, ?_⟩
  have em : mergeK [] (tbK tb) = tbK tb := by
    rw [mergeK_nd (tbK tb) [] ?_, List.nil_append]
    rw [List.nil_append, tbK, List.map_map]
    have := List.pairwise_map.mp nd
    exact List.pairwise_map.mpr (this.imp fun {a b} h z => h (Sum.inr.inj z))
  rw [em, upd_upd]
  obtain ⟨g, ρ, R, h⟩ := h
  have s1 := same_upd (o := HO.dK (tbK tb)) np
  refine ⟨by rw [tbK, List.length_map]; exact l15, ?_⟩
  refine ⟨g, ρ, R.same s1, okT_mono (okT_bind (okT_ext h (Ext.same s1))) fun g2 H2 q e2 h2 v R2 rv => ?_⟩
  have hp : H2 p = some (.dK (tbK tb)) := e2.keep p _ upd_same (fun i z => R.ownLive z np) fun z => β.live R.box z np
  obtain ⟨a, ea, h3⟩ := okT_lift h2
  obtain ⟨z, ez, h4⟩ := okT_lift h3
  have ra := rv.rs R2 ea
  cases a with
  | str k =>
    have ev : v = .str k := ra.str
    obtain ⟨x, ex, e⟩ := Option.map_eq_some_iff.mp (show (lkT tb k).map AV.str = some z from ez)
    subst e
    refine ⟨p, .str x, rfl, .inl ⟨_, .inr k, .inl hp, ev, ?_⟩, okT_ret' h4 (Ext.refl _ _) _ R2 (show RepG (gc X ct) g2 H2 (.str x) (.str x) by rw [RepG, Rep])⟩
    rw [lkT_val, ex]
    rfl
  | _ => cases ez
end Dn
set_option Elab.async false
set_option linter.all false
set_option maxRecDepth 100000
set_option maxHeartbeats 0
namespace K30
open PySem PySem.Spec PyProof.Rows L2 Dn
structure Bl (mg : Str → Option Value) : Prop where
  n_abs : mg "abs" = none
  n_all : mg "all" = none
  n_any : mg "any" = none
  n_bool : mg "bool" = none
  n_comb : mg "comb" = some (.builtin "math.comb")
  n_enumerate : mg "enumerate" = none
  n_int : mg "int" = none
  n_isinstance : mg "isinstance" = none
  n_len : mg "len" = none
  n_list : mg "list" = none
  n_max : mg "max" = none
  n_min : mg "min" = none
  n_range : mg "range" = none
  n_set : mg "set" = none
  n_sorted : mg "sorted" = none
  n_sum : mg "sum" = none
  n_tuple : mg "tuple" = none
def CT0 : CT := fun
  | 0 => ("Rota", ["places", "rows"])
  | 1 => ("Season", ["rota", "days", "budget", "looks", "wheels", "turnings", "due"])
  | 2 => ("Course", ["stretch_of", "stretches", "ways", "sums", "left"])
  | _ => ("", [])
structure Tx_Rota (K : PySem.W.Frag) (mg : Str → Option Value) (C : Addr) : Prop where
  mgC : mg "Rota" = some (.ref C)
  cl : Cls K C
  n_places : NoAttr K C "places"
  n_rows : NoAttr K C "rows"
theorem fc_Rota {X : Cx} {C : Addr} {f : Str} (Z : Tx_Rota X.K X.mg C) (h : NoAttr X.K C f) : ∀ C', X.mg (CT0 0).1 = some (.ref C') → Cls X.K C' ∧ NoAttr X.K C' f := fun C' e => by
  have e2 : some (Value.ref C) = some (Value.ref C') := Z.mgC.symm.trans e
  cases e2
  exact ⟨Z.cl, h⟩
theorem fld_Rota_places {X : Cx} {C : Addr} (Z : Tx_Rota X.K X.mg C) : FldOk X CT0 0 0 "places" := ⟨rfl, by decide +kernel, fc_Rota Z Z.n_places⟩
theorem fld_Rota_rows {X : Cx} {C : Addr} (Z : Tx_Rota X.K X.mg C) : FldOk X CT0 0 1 "rows" := ⟨rfl, by decide +kernel, fc_Rota Z Z.n_rows⟩
structure Tx_Season (K : PySem.W.Frag) (mg : Str → Option Value) (C : Addr) : Prop where
  mgC : mg "Season" = some (.ref C)
  cl : Cls K C
  n_rota : NoAttr K C "rota"
  n_days : NoAttr K C "days"
  n_budget : NoAttr K C "budget"
  n_looks : NoAttr K C "looks"
  n_wheels : NoAttr K C "wheels"
  n_turnings : NoAttr K C "turnings"
  n_due : NoAttr K C "due"
theorem fc_Season {X : Cx} {C : Addr} {f : Str} (Z : Tx_Season X.K X.mg C) (h : NoAttr X.K C f) : ∀ C', X.mg (CT0 1).1 = some (.ref C') → Cls X.K C' ∧ NoAttr X.K C' f := fun C' e => by
  have e2 : some (Value.ref C) = some (Value.ref C') := Z.mgC.symm.trans e
  cases e2
  exact ⟨Z.cl, h⟩
theorem fld_Season_rota {X : Cx} {C : Addr} (Z : Tx_Season X.K X.mg C) : FldOk X CT0 1 0 "rota" := ⟨rfl, by decide +kernel, fc_Season Z Z.n_rota⟩
theorem fld_Season_days {X : Cx} {C : Addr} (Z : Tx_Season X.K X.mg C) : FldOk X CT0 1 1 "days" := ⟨rfl, by decide +kernel, fc_Season Z Z.n_days⟩
theorem fld_Season_budget {X : Cx} {C : Addr} (Z : Tx_Season X.K X.mg C) : FldOk X CT0 1 2 "budget" := ⟨rfl, by decide +kernel, fc_Season Z Z.n_budget⟩
theorem fld_Season_looks {X : Cx} {C : Addr} (Z : Tx_Season X.K X.mg C) : FldOk X CT0 1 3 "looks" := ⟨rfl, by decide +kernel, fc_Season Z Z.n_looks⟩
theorem fld_Season_wheels {X : Cx} {C : Addr} (Z : Tx_Season X.K X.mg C) : FldOk X CT0 1 4 "wheels" := ⟨rfl, by decide +kernel, fc_Season Z Z.n_wheels⟩
theorem fld_Season_turnings {X : Cx} {C : Addr} (Z : Tx_Season X.K X.mg C) : FldOk X CT0 1 5 "turnings" := ⟨rfl, by decide +kernel, fc_Season Z Z.n_turnings⟩
theorem fld_Season_due {X : Cx} {C : Addr} (Z : Tx_Season X.K X.mg C) : FldOk X CT0 1 6 "due" := ⟨rfl, by decide +kernel, fc_Season Z Z.n_due⟩
structure Tx_Course (K : PySem.W.Frag) (mg : Str → Option Value) (C : Addr) : Prop where
  mgC : mg "Course" = some (.ref C)
  cl : Cls K C
  n_stretch_of : NoAttr K C "stretch_of"
  n_stretches : NoAttr K C "stretches"
  n_ways : NoAttr K C "ways"
  n_sums : NoAttr K C "sums"
  n_left : NoAttr K C "left"
theorem fc_Course {X : Cx} {C : Addr} {f : Str} (Z : Tx_Course X.K X.mg C) (h : NoAttr X.K C f) : ∀ C', X.mg (CT0 2).1 = some (.ref C') → Cls X.K C' ∧ NoAttr X.K C' f := fun C' e => by
  have e2 : some (Value.ref C) = some (Value.ref C') := Z.mgC.symm.trans e
  cases e2
  exact ⟨Z.cl, h⟩
theorem fld_Course_stretch_of {X : Cx} {C : Addr} (Z : Tx_Course X.K X.mg C) : FldOk X CT0 2 0 "stretch_of" := ⟨rfl, by decide +kernel, fc_Course Z Z.n_stretch_of⟩
theorem fld_Course_stretches {X : Cx} {C : Addr} (Z : Tx_Course X.K X.mg C) : FldOk X CT0 2 1 "stretches" := ⟨rfl, by decide +kernel, fc_Course Z Z.n_stretches⟩
theorem fld_Course_ways {X : Cx} {C : Addr} (Z : Tx_Course X.K X.mg C) : FldOk X CT0 2 2 "ways" := ⟨rfl, by decide +kernel, fc_Course Z Z.n_ways⟩
theorem fld_Course_sums {X : Cx} {C : Addr} (Z : Tx_Course X.K X.mg C) : FldOk X CT0 2 3 "sums" := ⟨rfl, by decide +kernel, fc_Course Z Z.n_sums⟩
theorem fld_Course_left {X : Cx} {C : Addr} (Z : Tx_Course X.K X.mg C) : FldOk X CT0 2 4 "left" := ⟨rfl, by decide +kernel, fc_Course Z Z.n_left⟩
abbrev BB : BInv := BoxC
abbrev f_law_draw : List AV → T AV := fDraw
abbrev FUEL : Nat := 1000
noncomputable section
variable {P : Program} {w : World} {K : PySem.W.Frag} {mg : Str → Option Value} {base : Heap}
abbrev N_law_deal : List Str := ["_law_script", "_law_base", "_law_cells", "_law_blend", "_law_cell"]
def C0_law_deal : SemN := nLc [4] (iSeq (fSl (fVar 0) (some (fVar 1)) (some (fC (.int 57))))) (tgName 4) fYes (fUn pAbs (fVar 4))
def S2f0_law_deal : SSem := (sSet 3 (fBin pMod (fUn pInt (fBin pAdd (fBin pAdd (fBin pMul (fVar 3) (fC (.int 40487))) (fBin pMod (fUn pInt (fVar 4)) (fC (.int 2147483549)))) (fC (.int 23)))) (fC (.int 2147483647))))
def K2f0_law_deal : SSem := sSeq S2f0_law_deal sNil
theorem U2f0_law_deal {a : Dn.Slot} {l : Env'} : K2f0_law_deal (a :: l) = sSeq S2f0_law_deal sNil (a :: l) := rfl
def C1_law_deal : SemN := nLc [4] (iSeq (fVar 2)) (tgName 4) (fBlT (fBin pGe (fVar 4) (fBin pPow (fC (.int 10)) (fC (.int 18))))) (fVar 4)
def S0_law_deal : SSem := (sSet 2 (fNew C0_law_deal))
def S1_law_deal : SSem := (sSet 3 (fBin pAdd (fC (.int 67867979)) (fBin pMul (fC (.int 43)) (fVar 1))))
def S2_law_deal : SSem := (sFor (iSeq (fVar 2)) (tgName 4) K2f0_law_deal)
def S3_law_deal : SSem := (sRetDeal 3 C1_law_deal)
def K3_law_deal : SSem := sSeq S3_law_deal sNil
theorem U3_law_deal {a : Dn.Slot} {l : Env'} : K3_law_deal (a :: l) = sSeq S3_law_deal sNil (a :: l) := rfl
def K2_law_deal : SSem := sSeq S2_law_deal K3_law_deal
theorem U2_law_deal {a : Dn.Slot} {l : Env'} : K2_law_deal (a :: l) = sSeq S2_law_deal K3_law_deal (a :: l) := rfl
def K1_law_deal : SSem := sSeq S1_law_deal K2_law_deal
theorem U1_law_deal {a : Dn.Slot} {l : Env'} : K1_law_deal (a :: l) = sSeq S1_law_deal K2_law_deal (a :: l) := rfl
def K0_law_deal : SSem := sSeq S0_law_deal K1_law_deal
theorem U0_law_deal {a : Dn.Slot} {l : Env'} : K0_law_deal (a :: l) = sSeq S0_law_deal K1_law_deal (a :: l) := rfl
def b_law_deal : SSem := K0_law_deal
def f_law_deal : List AV → T AV := fnOf 2 5 b_law_deal
theorem S_law_deal : FnScope N_law_deal ["_law_script", "_law_base"] (defScope s_law_deal) := ⟨rfl, rfl, rfl, by decide +kernel, rfl, by decide +kernel, by decide +kernel⟩
theorem l_law_deal {C_Rota : Addr} {C_Season : Addr} {C_Course : Addr} (T : Bl mg) (Z_Rota : Tx_Rota K mg C_Rota) (Z_Season : Tx_Season K mg C_Season) (Z_Course : Tx_Course K mg C_Course) {f : Addr} {cdv : Value} {A : Around} {outer : List Env} {s : Shared} {H : Hp} {E : XK} (hr : Room 0 (A.deeper (envOfC "_law_deal" (defScope s_law_deal) s.heap.objs.size f cdv))) :
  JSs (cxOf (L2.CX P w) P w K mg base N_law_deal "_law_deal" (defScope s_law_deal) f cdv A outer s H E) CT0 BB E (defBody s_law_deal) b_law_deal := by
  have S := S_law_deal
  have h64 : (A.deeper (envOfC "_law_deal" (defScope s_law_deal) s.heap.objs.size f cdv)).units + 64 < cLine := by
    have := hr.un
    omega
  have h65 : (A.deeper (envOfC "_law_deal" (defScope s_law_deal) s.heap.objs.size f cdv)).units + 65 < cLine := by
    have := hr.un
    omega
  have h1 : (A.deeper (envOfC "_law_deal" (defScope s_law_deal) s.heap.objs.size f cdv)).units + 1 < cLine := by
    have := hr.un
    omega
  refine js_cons ?_ (js_cons ?_ (js_cons ?_ (js_cons ?_ js_nil)))
  · exact (js_setLc 2 (own := [("_law_cell", 4)]) (by rfl) S.nd (blkOk_by (N := N_law_deal) (sc := defScope s_law_deal) (by decide +kernel)) (by decide) (ji_seq (j_sl (j_var 0) (jo_some (j_var 1)) (jo_some j_int))) (fun _ _ _ _ _ => (jg_name 4 S.nd)) (fun _ _ _ _ _ => jts_nil) (fun _ _ _ _ _ => (j_callB call_abs o_abs (by rfl) T.n_abs (by decide +kernel) (j_var 4))))
  · exact (js_set 3 (j_bin' op_addA o_add j_int (j_bin' op_mulA o_mul j_int (j_var 1))) S.nd)
  · refine js_for passOwnB (by rfl) (ji_seq (j_var 2)) (jg_name 4 S.nd) ?_
    refine js_cons ?_ js_nil
    · exact (js_set 3 (j_bin op_mod o_mod (j_callTy call_int1 o_int (by rfl) T.n_int (by decide +kernel) (j_bin' op_addA o_add (j_bin' op_addA o_add (j_bin' op_mulA o_mul (j_var 3) j_int) (j_bin op_mod o_mod (j_callTy call_int1 o_int (by rfl) T.n_int (by decide +kernel) (j_var 4)) j_int)) j_int)) j_int) S.nd)
  · exact (js_retDeal 3 (jn_lc (own := [("_law_cell", 4)]) (by rfl) S.nd (blkOk_by (N := N_law_deal) (sc := defScope s_law_deal) (by decide +kernel)) (by decide) (ji_seq (j_var 2)) (fun _ _ _ _ _ => (jg_name 4 S.nd)) (fun _ _ _ _ _ => (jts_one (jt_cmp op_ge o_ge.op (j_var 4) (j_bin op_pow o_pow j_int j_int) (nomark _)))) (fun _ _ _ _ _ => (j_var 4))) (pv 3))
theorem d_law_deal {C_Rota : Addr} {C_Season : Addr} {C_Course : Addr} {fa : Addr} {fd : FuncData} (F : Fun K "_law_deal" "_law_deal" s_law_deal fa fd) (h1 : mg "_law_deal" = some (.ref fa)) (h2 : PySem.W.keepIn K (.ref fa) = true) (b : Binds K fd ["_law_script", "_law_base"] []) (T : Bl mg) (Z_Rota : Tx_Rota K mg C_Rota) (Z_Season : Tx_Season K mg C_Season) (Z_Course : Tx_Course K mg C_Course) : Df P w K mg base CT0 BB 1 "_law_deal" 2 ["_law_script", "_law_base"] f_law_deal :=
  ⟨⟨fa, fd, fn_def (N := N_law_deal) (ps := ["_law_script", "_law_base"]) (k := 0) (body := b_law_deal) F S_law_deal (by decide) fun _ _ _ _ _ _ hr => l_law_deal T Z_Rota Z_Season Z_Course  hr, h1, h2, b⟩, fnOf_len⟩
abbrev N_is_integer : List Str := ["value"]
def b_is_integer : SSem := (sSeq (sRet (fAnd (fUn (pIsi "int") (fVar 0)) (fNot (fUn (pIsi "bool") (fVar 0)))))
  sNil)
def f_is_integer : List AV → T AV := fnOf 1 1 b_is_integer
theorem S_is_integer : FnScope N_is_integer ["value"] (defScope s_is_integer) := ⟨rfl, rfl, rfl, by decide +kernel, rfl, by decide +kernel, by decide +kernel⟩
theorem l_is_integer {C_Rota : Addr} {C_Season : Addr} {C_Course : Addr} (T : Bl mg) (Z_Rota : Tx_Rota K mg C_Rota) (Z_Season : Tx_Season K mg C_Season) (Z_Course : Tx_Course K mg C_Course) {f : Addr} {cdv : Value} {A : Around} {outer : List Env} {s : Shared} {H : Hp} {E : XK} (hr : Room 0 (A.deeper (envOfC "is_integer" (defScope s_is_integer) s.heap.objs.size f cdv))) :
  JSs (cxOf (L2.CX P w) P w K mg base N_is_integer "is_integer" (defScope s_is_integer) f cdv A outer s H E) CT0 BB E (defBody s_is_integer) b_is_integer := by
  have S := S_is_integer
  have h64 : (A.deeper (envOfC "is_integer" (defScope s_is_integer) s.heap.objs.size f cdv)).units + 64 < cLine := by
    have := hr.un
    omega
  have h65 : (A.deeper (envOfC "is_integer" (defScope s_is_integer) s.heap.objs.size f cdv)).units + 65 < cLine := by
    have := hr.un
    omega
  have h1 : (A.deeper (envOfC "is_integer" (defScope s_is_integer) s.heap.objs.size f cdv)).units + 1 < cLine := by
    have := hr.un
    omega
  refine js_cons ?_ js_nil
  · exact (js_ret (j_and (j_isi kinds_int (by rfl) T.n_isinstance (by rfl) T.n_int (by decide +kernel) (j_var 0)) (j_one (j_not (j_isi kinds_bool (by rfl) T.n_isinstance (by rfl) T.n_bool (by decide +kernel) (j_var 0))))))
theorem d_is_integer {C_Rota : Addr} {C_Season : Addr} {C_Course : Addr} {fa : Addr} {fd : FuncData} (F : Fun K "is_integer" "is_integer" s_is_integer fa fd) (h1 : mg "is_integer" = some (.ref fa)) (h2 : PySem.W.keepIn K (.ref fa) = true) (b : Binds K fd ["value"] []) (T : Bl mg) (Z_Rota : Tx_Rota K mg C_Rota) (Z_Season : Tx_Season K mg C_Season) (Z_Course : Tx_Course K mg C_Course) : Df P w K mg base CT0 BB 1 "is_integer" 1 ["value"] f_is_integer :=
  ⟨⟨fa, fd, fn_def (N := N_is_integer) (ps := ["value"]) (k := 0) (body := b_is_integer) F S_is_integer (by decide) fun _ _ _ _ _ _ hr => l_is_integer T Z_Rota Z_Season Z_Course  hr, h1, h2, b⟩, fnOf_len⟩
abbrev N_is_whole : List Str := ["value", "least"]
def b_is_whole : SSem := (sSeq (sRet (fAnd (fCall f_is_integer [] (lCons (fVar 0) lNil)) (fBin pGe (fVar 0) (fVar 1))))
  sNil)
def f_is_whole : List AV → T AV := fnOf 2 2 b_is_whole
theorem S_is_whole : FnScope N_is_whole ["value", "least"] (defScope s_is_whole) := ⟨rfl, rfl, rfl, by decide +kernel, rfl, by decide +kernel, by decide +kernel⟩
theorem l_is_whole {C_Rota : Addr} {C_Season : Addr} {C_Course : Addr} (T : Bl mg) (Z_Rota : Tx_Rota K mg C_Rota) (Z_Season : Tx_Season K mg C_Season) (Z_Course : Tx_Course K mg C_Course) (D_is_integer : Df P w K mg base CT0 BB 1 "is_integer" 1 ["value"] f_is_integer) {f : Addr} {cdv : Value} {A : Around} {outer : List Env} {s : Shared} {H : Hp} {E : XK} (hr : Room 1 (A.deeper (envOfC "is_whole" (defScope s_is_whole) s.heap.objs.size f cdv))) :
  JSs (cxOf (L2.CX P w) P w K mg base N_is_whole "is_whole" (defScope s_is_whole) f cdv A outer s H E) CT0 BB E (defBody s_is_whole) b_is_whole := by
  have S := S_is_whole
  have h64 : (A.deeper (envOfC "is_whole" (defScope s_is_whole) s.heap.objs.size f cdv)).units + 64 < cLine := by
    have := hr.un
    omega
  have h65 : (A.deeper (envOfC "is_whole" (defScope s_is_whole) s.heap.objs.size f cdv)).units + 65 < cLine := by
    have := hr.un
    omega
  have h1 : (A.deeper (envOfC "is_whole" (defScope s_is_whole) s.heap.objs.size f cdv)).units + 1 < cLine := by
    have := hr.un
    omega
  refine js_cons ?_ js_nil
  · exact (js_ret (j_and (j_callD (lv := 1) D_is_integer (hr.mono (by decide)) passB (jl_cons (j_var 0) jl_nil)) (j_one (j_cmp op_ge o_ge.op (j_var 0) (j_var 1) (nomark _)))))
theorem d_is_whole {C_Rota : Addr} {C_Season : Addr} {C_Course : Addr} {fa : Addr} {fd : FuncData} (F : Fun K "is_whole" "is_whole" s_is_whole fa fd) (h1 : mg "is_whole" = some (.ref fa)) (h2 : PySem.W.keepIn K (.ref fa) = true) (b : Binds K fd ["value", "least"] []) (T : Bl mg) (Z_Rota : Tx_Rota K mg C_Rota) (Z_Season : Tx_Season K mg C_Season) (Z_Course : Tx_Course K mg C_Course) (D_is_integer : Df P w K mg base CT0 BB 1 "is_integer" 1 ["value"] f_is_integer) : Df P w K mg base CT0 BB 2 "is_whole" 2 ["value", "least"] f_is_whole :=
  ⟨⟨fa, fd, fn_def (N := N_is_whole) (ps := ["value", "least"]) (k := 1) (body := b_is_whole) F S_is_whole (by decide) fun _ _ _ _ _ _ hr => l_is_whole T Z_Rota Z_Season Z_Course D_is_integer hr, h1, h2, b⟩, fnOf_len⟩
abbrev N_is_sequence : List Str := ["value"]
def S0_is_sequence : SSem := (sRet (fUn (pIsi2 "list" "tuple") (fVar 0)))
def K0_is_sequence : SSem := sSeq S0_is_sequence sNil
def b_is_sequence : SSem := K0_is_sequence
def f_is_sequence : List AV → T AV := fnOf 1 1 b_is_sequence
theorem S_is_sequence : FnScope N_is_sequence ["value"] (defScope s_is_sequence) := ⟨rfl, rfl, rfl, by decide +kernel, rfl, by decide +kernel, by decide +kernel⟩
theorem l_is_sequence {C_Rota : Addr} {C_Season : Addr} {C_Course : Addr} (T : Bl mg) (Z_Rota : Tx_Rota K mg C_Rota) (Z_Season : Tx_Season K mg C_Season) (Z_Course : Tx_Course K mg C_Course) {f : Addr} {cdv : Value} {A : Around} {outer : List Env} {s : Shared} {H : Hp} {E : XK} (hr : Room 0 (A.deeper (envOfC "is_sequence" (defScope s_is_sequence) s.heap.objs.size f cdv))) :
  JSs (cxOf (L2.CX P w) P w K mg base N_is_sequence "is_sequence" (defScope s_is_sequence) f cdv A outer s H E) CT0 BB E (defBody s_is_sequence) b_is_sequence := by
  have S := S_is_sequence
  have h64 : (A.deeper (envOfC "is_sequence" (defScope s_is_sequence) s.heap.objs.size f cdv)).units + 64 < cLine := by
    have := hr.un
    omega
  have h65 : (A.deeper (envOfC "is_sequence" (defScope s_is_sequence) s.heap.objs.size f cdv)).units + 65 < cLine := by
    have := hr.un
    omega
  have h1 : (A.deeper (envOfC "is_sequence" (defScope s_is_sequence) s.heap.objs.size f cdv)).units + 1 < cLine := by
    have := hr.un
    omega
  refine js_cons ?_ js_nil
  · exact (js_ret (j_isi2 kinds_list kinds_tuple (by rfl) T.n_isinstance (by rfl) T.n_list (by decide +kernel) (by rfl) T.n_tuple (by decide +kernel) (j_var 0)))
theorem d_is_sequence {C_Rota : Addr} {C_Season : Addr} {C_Course : Addr} {fa : Addr} {fd : FuncData} (F : Fun K "is_sequence" "is_sequence" s_is_sequence fa fd) (h1 : mg "is_sequence" = some (.ref fa)) (h2 : PySem.W.keepIn K (.ref fa) = true) (b : Binds K fd ["value"] []) (T : Bl mg) (Z_Rota : Tx_Rota K mg C_Rota) (Z_Season : Tx_Season K mg C_Season) (Z_Course : Tx_Course K mg C_Course) : Df P w K mg base CT0 BB 1 "is_sequence" 1 ["value"] f_is_sequence :=
  ⟨⟨fa, fd, fn_def (N := N_is_sequence) (ps := ["value"]) (k := 0) (body := b_is_sequence) F S_is_sequence (by decide) fun _ _ _ _ _ _ hr => l_is_sequence T Z_Rota Z_Season Z_Course  hr, h1, h2, b⟩, fnOf_len⟩
abbrev N_is_below : List Str := ["value", "many"]
def b_is_below : SSem := (sSeq (sRet (fAnd (fCall f_is_whole [] (lCons (fVar 0) (lCons (fC (.int 0)) lNil))) (fBin pLt (fVar 0) (fVar 1))))
  sNil)
def f_is_below : List AV → T AV := fnOf 2 2 b_is_below
theorem S_is_below : FnScope N_is_below ["value", "many"] (defScope s_is_below) := ⟨rfl, rfl, rfl, by decide +kernel, rfl, by decide +kernel, by decide +kernel⟩
theorem l_is_below {C_Rota : Addr} {C_Season : Addr} {C_Course : Addr} (T : Bl mg) (Z_Rota : Tx_Rota K mg C_Rota) (Z_Season : Tx_Season K mg C_Season) (Z_Course : Tx_Course K mg C_Course) (D_is_whole : Df P w K mg base CT0 BB 2 "is_whole" 2 ["value", "least"] f_is_whole) {f : Addr} {cdv : Value} {A : Around} {outer : List Env} {s : Shared} {H : Hp} {E : XK} (hr : Room 2 (A.deeper (envOfC "is_below" (defScope s_is_below) s.heap.objs.size f cdv))) :
  JSs (cxOf (L2.CX P w) P w K mg base N_is_below "is_below" (defScope s_is_below) f cdv A outer s H E) CT0 BB E (defBody s_is_below) b_is_below := by
  have S := S_is_below
  have h64 : (A.deeper (envOfC "is_below" (defScope s_is_below) s.heap.objs.size f cdv)).units + 64 < cLine := by
    have := hr.un
    omega
  have h65 : (A.deeper (envOfC "is_below" (defScope s_is_below) s.heap.objs.size f cdv)).units + 65 < cLine := by
    have := hr.un
    omega
  have h1 : (A.deeper (envOfC "is_below" (defScope s_is_below) s.heap.objs.size f cdv)).units + 1 < cLine := by
    have := hr.un
    omega
  refine js_cons ?_ js_nil
  · exact (js_ret (j_and (j_callD (lv := 2) D_is_whole (hr.mono (by decide)) passB (jl_cons (j_var 0) (jl_cons j_int jl_nil))) (j_one (j_cmp op_lt o_lt.op (j_var 0) (j_var 1) (nomark _)))))
theorem d_is_below {C_Rota : Addr} {C_Season : Addr} {C_Course : Addr} {fa : Addr} {fd : FuncData} (F : Fun K "is_below" "is_below" s_is_below fa fd) (h1 : mg "is_below" = some (.ref fa)) (h2 : PySem.W.keepIn K (.ref fa) = true) (b : Binds K fd ["value", "many"] []) (T : Bl mg) (Z_Rota : Tx_Rota K mg C_Rota) (Z_Season : Tx_Season K mg C_Season) (Z_Course : Tx_Course K mg C_Course) (D_is_whole : Df P w K mg base CT0 BB 2 "is_whole" 2 ["value", "least"] f_is_whole) : Df P w K mg base CT0 BB 3 "is_below" 2 ["value", "many"] f_is_below :=
  ⟨⟨fa, fd, fn_def (N := N_is_below) (ps := ["value", "many"]) (k := 2) (body := b_is_below) F S_is_below (by decide) fun _ _ _ _ _ _ hr => l_is_below T Z_Rota Z_Season Z_Course D_is_whole hr, h1, h2, b⟩, fnOf_len⟩
abbrev N_are_spots : List Str := ["spots", "places", "spot"]
def C0_are_spots : SemN := nLc [2] (iSeq (fVar 0)) (tgName 2) fYes (fCall f_is_below [] (lCons (fVar 2) (lCons (fVar 1) lNil)))
def S0t0_are_spots : SSem := (sRet (fC (.bl false)))
def K0t0_are_spots : SSem := sSeq S0t0_are_spots sNil
def S0_are_spots : SSem := (sIf (fOrT (fNotT (fTru (fCall f_is_sequence [] (lCons (fVar 0) lNil)))) (fNotT (fTru (fUn pAll (fNew C0_are_spots))))) K0t0_are_spots sNil)
def S1_are_spots : SSem := (sRet (fBin pEq (fUn pLenSet (fVar 0)) (fUn pLen (fVar 0))))
def K1_are_spots : SSem := sSeq S1_are_spots sNil
def K0_are_spots : SSem := sSeq S0_are_spots K1_are_spots
def b_are_spots : SSem := K0_are_spots
def f_are_spots : List AV → T AV := fnOf 2 3 b_are_spots
theorem S_are_spots : FnScope N_are_spots ["spots", "places"] (defScope s_are_spots) := ⟨rfl, rfl, rfl, by decide +kernel, rfl, by decide +kernel, by decide +kernel⟩
theorem l_are_spots {C_Rota : Addr} {C_Season : Addr} {C_Course : Addr} (T : Bl mg) (Z_Rota : Tx_Rota K mg C_Rota) (Z_Season : Tx_Season K mg C_Season) (Z_Course : Tx_Course K mg C_Course) (D_is_sequence : Df P w K mg base CT0 BB 1 "is_sequence" 1 ["value"] f_is_sequence) (D_is_below : Df P w K mg base CT0 BB 3 "is_below" 2 ["value", "many"] f_is_below) {f : Addr} {cdv : Value} {A : Around} {outer : List Env} {s : Shared} {H : Hp} {E : XK} (hr : Room 3 (A.deeper (envOfC "are_spots" (defScope s_are_spots) s.heap.objs.size f cdv))) :
  JSs (cxOf (L2.CX P w) P w K mg base N_are_spots "are_spots" (defScope s_are_spots) f cdv A outer s H E) CT0 BB E (defBody s_are_spots) b_are_spots := by
  have S := S_are_spots
  have h64 : (A.deeper (envOfC "are_spots" (defScope s_are_spots) s.heap.objs.size f cdv)).units + 64 < cLine := by
    have := hr.un
    omega
  have h65 : (A.deeper (envOfC "are_spots" (defScope s_are_spots) s.heap.objs.size f cdv)).units + 65 < cLine := by
    have := hr.un
    omega
  have h1 : (A.deeper (envOfC "are_spots" (defScope s_are_spots) s.heap.objs.size f cdv)).units + 1 < cLine := by
    have := hr.un
    omega
  refine js_cons ?_ (js_cons ?_ js_nil)
  · refine js_if (jw_pt (jw_or (jt_not (jt_truth (j_callD (lv := 1) D_is_sequence (hr.mono (by decide)) passB (jl_cons (j_var 0) jl_nil)))) (jw_or1 (jt_not (jt_truth (j_callB (cr_all rfl) o_all (by rfl) T.n_all (by decide +kernel) (j_new (jn_lc (own := [("spot", 2)]) (by rfl) S.nd (blkOk_by (N := N_are_spots) (sc := defScope s_are_spots) (by decide +kernel)) (by decide) (ji_seq (j_var 0)) (fun _ _ _ _ _ => (jg_name 2 S.nd)) (fun _ _ _ _ _ => jts_nil) (fun _ _ _ _ _ => (j_callD (lv := 3) D_is_below (hr.mono (by decide)) passE0 (jl_cons (j_var 2) (jl_cons (j_var 1) jl_nil)))))))))))) ?_ ?_
    · refine js_cons ?_ js_nil
      · exact (js_ret j_bl)
    · exact js_nil
  · exact (js_ret (j_cmp (op_eqD h64) o_eq.op (j_lenSet (by rfl) T.n_len (by rfl) T.n_set (j_var 0)) (j_callB call_len o_len (by rfl) T.n_len (by decide +kernel) (j_var 0)) (nomark _)))
theorem d_are_spots {C_Rota : Addr} {C_Season : Addr} {C_Course : Addr} {fa : Addr} {fd : FuncData} (F : Fun K "are_spots" "are_spots" s_are_spots fa fd) (h1 : mg "are_spots" = some (.ref fa)) (h2 : PySem.W.keepIn K (.ref fa) = true) (b : Binds K fd ["spots", "places"] []) (T : Bl mg) (Z_Rota : Tx_Rota K mg C_Rota) (Z_Season : Tx_Season K mg C_Season) (Z_Course : Tx_Course K mg C_Course) (D_is_sequence : Df P w K mg base CT0 BB 1 "is_sequence" 1 ["value"] f_is_sequence) (D_is_below : Df P w K mg base CT0 BB 3 "is_below" 2 ["value", "many"] f_is_below) : Df P w K mg base CT0 BB 4 "are_spots" 2 ["spots", "places"] f_are_spots :=
  ⟨⟨fa, fd, fn_def (N := N_are_spots) (ps := ["spots", "places"]) (k := 3) (body := b_are_spots) F S_are_spots (by decide) fun _ _ _ _ _ _ hr => l_are_spots T Z_Rota Z_Season Z_Course D_is_sequence D_is_below hr, h1, h2, b⟩, fnOf_len⟩
abbrev N_is_row : List Str := ["row", "places", "turned", "moves"]
def S0t0_is_row : SSem := (sRet (fC (.bl false)))
def K0t0_is_row : SSem := sSeq S0t0_is_row sNil
def S0_is_row : SSem := (sIf (fOrT (fNotT (fTru (fUn (pIsi "tuple") (fVar 0)))) (fBlT (fBin pNe (fUn pLen (fVar 0)) (fC (.int 2))))) K0t0_is_row sNil)
def S1_is_row : SSem := (sAsg (fVar 0) (tgTup 2 (tgCons (tgName 2) (tgCons (tgName 3) tgNil))))
def S2_is_row : SSem := (sRet (fAnd (fCall f_are_spots [] (lCons (fVar 2) (lCons (fVar 1) lNil))) (fAnd (fCall f_are_spots [] (lCons (fVar 3) (lCons (fVar 1) lNil))) (fBin pEq (fUn pLen (fVar 3)) (fVar 1)))))
def K2_is_row : SSem := sSeq S2_is_row sNil
def K1_is_row : SSem := sSeq S1_is_row K2_is_row
def K0_is_row : SSem := sSeq S0_is_row K1_is_row
def b_is_row : SSem := K0_is_row
def f_is_row : List AV → T AV := fnOf 2 4 b_is_row
theorem S_is_row : FnScope N_is_row ["row", "places"] (defScope s_is_row) := ⟨rfl, rfl, rfl, by decide +kernel, rfl, by decide +kernel, by decide +kernel⟩
theorem l_is_row {C_Rota : Addr} {C_Season : Addr} {C_Course : Addr} (T : Bl mg) (Z_Rota : Tx_Rota K mg C_Rota) (Z_Season : Tx_Season K mg C_Season) (Z_Course : Tx_Course K mg C_Course) (D_are_spots : Df P w K mg base CT0 BB 4 "are_spots" 2 ["spots", "places"] f_are_spots) {f : Addr} {cdv : Value} {A : Around} {outer : List Env} {s : Shared} {H : Hp} {E : XK} (hr : Room 4 (A.deeper (envOfC "is_row" (defScope s_is_row) s.heap.objs.size f cdv))) :
  JSs (cxOf (L2.CX P w) P w K mg base N_is_row "is_row" (defScope s_is_row) f cdv A outer s H E) CT0 BB E (defBody s_is_row) b_is_row := by
  have S := S_is_row
  have h64 : (A.deeper (envOfC "is_row" (defScope s_is_row) s.heap.objs.size f cdv)).units + 64 < cLine := by
    have := hr.un
    omega
  have h65 : (A.deeper (envOfC "is_row" (defScope s_is_row) s.heap.objs.size f cdv)).units + 65 < cLine := by
    have := hr.un
    omega
  have h1 : (A.deeper (envOfC "is_row" (defScope s_is_row) s.heap.objs.size f cdv)).units + 1 < cLine := by
    have := hr.un
    omega
  refine js_cons ?_ (js_cons ?_ (js_cons ?_ js_nil))
  · refine js_if (jw_pt (jw_or (jt_not (jt_truth (j_isi kinds_tuple (by rfl) T.n_isinstance (by rfl) T.n_tuple (by decide +kernel) (j_var 0)))) (jw_or1 (jt_cmp (op_neD h64) o_ne.op (j_callB call_len o_len (by rfl) T.n_len (by decide +kernel) (j_var 0)) j_int (nomark _))))) ?_ ?_
    · refine js_cons ?_ js_nil
      · exact (js_ret j_bl)
    · exact js_nil
  · exact (js_asg (j_var 0) (jg_tup (by rfl) (jg_cons (jg_name 2 S.nd) (jg_cons (jg_name 3 S.nd) jg_nil))))
  · exact (js_ret (j_and (j_callD (lv := 4) D_are_spots (hr.mono (by decide)) passB (jl_cons (j_var 2) (jl_cons (j_var 1) jl_nil))) (j_and (j_callD (lv := 4) D_are_spots (hr.mono (by decide)) passB (jl_cons (j_var 3) (jl_cons (j_var 1) jl_nil))) (j_one (j_cmp (op_eqD h64) o_eq.op (j_callB call_len o_len (by rfl) T.n_len (by decide +kernel) (j_var 3)) (j_var 1) (nomark _))))))
theorem d_is_row {C_Rota : Addr} {C_Season : Addr} {C_Course : Addr} {fa : Addr} {fd : FuncData} (F : Fun K "is_row" "is_row" s_is_row fa fd) (h1 : mg "is_row" = some (.ref fa)) (h2 : PySem.W.keepIn K (.ref fa) = true) (b : Binds K fd ["row", "places"] []) (T : Bl mg) (Z_Rota : Tx_Rota K mg C_Rota) (Z_Season : Tx_Season K mg C_Season) (Z_Course : Tx_Course K mg C_Course) (D_are_spots : Df P w K mg base CT0 BB 4 "are_spots" 2 ["spots", "places"] f_are_spots) : Df P w K mg base CT0 BB 5 "is_row" 2 ["row", "places"] f_is_row :=
  ⟨⟨fa, fd, fn_def (N := N_is_row) (ps := ["row", "places"]) (k := 4) (body := b_is_row) F S_is_row (by decide) fun _ _ _ _ _ _ hr => l_is_row T Z_Rota Z_Season Z_Course D_are_spots hr, h1, h2, b⟩, fnOf_len⟩
abbrev N_are_rows : List Str := ["rows", "places", "row"]
def C0_are_rows : SemN := nLc [2] (iSeq (fVar 0)) (tgName 2) fYes (fCall f_is_row [] (lCons (fVar 2) (lCons (fVar 1) lNil)))
def S0_are_rows : SSem := (sRet (fAnd (fCall f_is_sequence [] (lCons (fVar 0) lNil)) (fAnd (fBin pGt (fUn pLen (fVar 0)) (fC (.int 0))) (fUn pAll (fNew C0_are_rows)))))
def K0_are_rows : SSem := sSeq S0_are_rows sNil
def b_are_rows : SSem := K0_are_rows
def f_are_rows : List AV → T AV := fnOf 2 3 b_are_rows
theorem S_are_rows : FnScope N_are_rows ["rows", "places"] (defScope s_are_rows) := ⟨rfl, rfl, rfl, by decide +kernel, rfl, by decide +kernel, by decide +kernel⟩
theorem l_are_rows {C_Rota : Addr} {C_Season : Addr} {C_Course : Addr} (T : Bl mg) (Z_Rota : Tx_Rota K mg C_Rota) (Z_Season : Tx_Season K mg C_Season) (Z_Course : Tx_Course K mg C_Course) (D_is_sequence : Df P w K mg base CT0 BB 1 "is_sequence" 1 ["value"] f_is_sequence) (D_is_row : Df P w K mg base CT0 BB 5 "is_row" 2 ["row", "places"] f_is_row) {f : Addr} {cdv : Value} {A : Around} {outer : List Env} {s : Shared} {H : Hp} {E : XK} (hr : Room 5 (A.deeper (envOfC "are_rows" (defScope s_are_rows) s.heap.objs.size f cdv))) :
  JSs (cxOf (L2.CX P w) P w K mg base N_are_rows "are_rows" (defScope s_are_rows) f cdv A outer s H E) CT0 BB E (defBody s_are_rows) b_are_rows := by
  have S := S_are_rows
  have h64 : (A.deeper (envOfC "are_rows" (defScope s_are_rows) s.heap.objs.size f cdv)).units + 64 < cLine := by
    have := hr.un
    omega
  have h65 : (A.deeper (envOfC "are_rows" (defScope s_are_rows) s.heap.objs.size f cdv)).units + 65 < cLine := by
    have := hr.un
    omega
  have h1 : (A.deeper (envOfC "are_rows" (defScope s_are_rows) s.heap.objs.size f cdv)).units + 1 < cLine := by
    have := hr.un
    omega
  refine js_cons ?_ js_nil
  · exact (js_ret (j_and (j_callD (lv := 1) D_is_sequence (hr.mono (by decide)) passB (jl_cons (j_var 0) jl_nil)) (j_and (j_cmp op_gt o_gt.op (j_callB call_len o_len (by rfl) T.n_len (by decide +kernel) (j_var 0)) j_int (nomark _)) (j_one (j_callB (cr_all rfl) o_all (by rfl) T.n_all (by decide +kernel) (j_new (jn_lc (own := [("row", 2)]) (by rfl) S.nd (blkOk_by (N := N_are_rows) (sc := defScope s_are_rows) (by decide +kernel)) (by decide) (ji_seq (j_var 0)) (fun _ _ _ _ _ => (jg_name 2 S.nd)) (fun _ _ _ _ _ => jts_nil) (fun _ _ _ _ _ => (j_callD (lv := 5) D_is_row (hr.mono (by decide)) passE0 (jl_cons (j_var 2) (jl_cons (j_var 1) jl_nil)))))))))))
theorem d_are_rows {C_Rota : Addr} {C_Season : Addr} {C_Course : Addr} {fa : Addr} {fd : FuncData} (F : Fun K "are_rows" "are_rows" s_are_rows fa fd) (h1 : mg "are_rows" = some (.ref fa)) (h2 : PySem.W.keepIn K (.ref fa) = true) (b : Binds K fd ["rows", "places"] []) (T : Bl mg) (Z_Rota : Tx_Rota K mg C_Rota) (Z_Season : Tx_Season K mg C_Season) (Z_Course : Tx_Course K mg C_Course) (D_is_sequence : Df P w K mg base CT0 BB 1 "is_sequence" 1 ["value"] f_is_sequence) (D_is_row : Df P w K mg base CT0 BB 5 "is_row" 2 ["row", "places"] f_is_row) : Df P w K mg base CT0 BB 6 "are_rows" 2 ["rows", "places"] f_are_rows :=
  ⟨⟨fa, fd, fn_def (N := N_are_rows) (ps := ["rows", "places"]) (k := 5) (body := b_are_rows) F S_are_rows (by decide) fun _ _ _ _ _ _ hr => l_are_rows T Z_Rota Z_Season Z_Course D_is_sequence D_is_row hr, h1, h2, b⟩, fnOf_len⟩
abbrev N_Rota_init : List Str := ["self", "places", "rows", "turned", "moves"]
def S0t0_Rota_init : SSem := sBad
def K0t0_Rota_init : SSem := sSeq S0t0_Rota_init sNil
def S1t0_Rota_init : SSem := sBad
def K1t0_Rota_init : SSem := sSeq S1t0_Rota_init sNil
def C0_Rota_init : SemN := nLc [3, 4] (iSeq (fVar 2)) (tgTup 2 (tgCons (tgName 3) (tgCons (tgName 4) tgNil))) fYes (fTup (lCons (fUn pTuple (fUn pSorted (fVar 3))) (lCons (fUn pTuple (fVar 4)) lNil)))
def S0_Rota_init : SSem := (sIf (fNotT (fTru (fCall f_is_whole [] (lCons (fVar 1) (lCons (fC (.int 1)) lNil))))) K0t0_Rota_init sNil)
def S1_Rota_init : SSem := (sIf (fNotT (fTru (fCall f_are_rows [] (lCons (fVar 2) (lCons (fVar 1) lNil))))) K1t0_Rota_init sNil)
def S2_Rota_init : SSem := (sFldSet 0 0 0 (fVar 1))
def S3_Rota_init : SSem := (sFldSet 0 0 1 (fUn pTuple (fNew C0_Rota_init)))
def K3_Rota_init : SSem := sSeq S3_Rota_init sNil
def K2_Rota_init : SSem := sSeq S2_Rota_init K3_Rota_init
def K1_Rota_init : SSem := sSeq S1_Rota_init K2_Rota_init
def K0_Rota_init : SSem := sSeq S0_Rota_init K1_Rota_init
def b_Rota : SSem := K0_Rota_init
def f_Rota : List AV → T AV := fnInit 2 5 0 2 b_Rota
theorem S_Rota : FnScope N_Rota_init ["self", "places", "rows"] (defScope s_Rota_init) := ⟨rfl, rfl, rfl, by decide +kernel, rfl, by decide +kernel, by decide +kernel⟩
theorem l_Rota {C_Rota : Addr} {C_Season : Addr} {C_Course : Addr} (T : Bl mg) (Z_Rota : Tx_Rota K mg C_Rota) (Z_Season : Tx_Season K mg C_Season) (Z_Course : Tx_Course K mg C_Course) (D_is_whole : Df P w K mg base CT0 BB 2 "is_whole" 2 ["value", "least"] f_is_whole) (D_are_rows : Df P w K mg base CT0 BB 6 "are_rows" 2 ["rows", "places"] f_are_rows) {f : Addr} {cdv : Value} {A : Around} {outer : List Env} {s : Shared} {H : Hp} {E : XK} (hr : Room 6 (A.deeper (envOfC "Rota.__init__" (defScope s_Rota_init) s.heap.objs.size f cdv))) :
  JSs (cxOf (L2.CX P w) P w K mg base N_Rota_init "Rota.__init__" (defScope s_Rota_init) f cdv A outer s H E) CT0 BB E (defBody s_Rota_init) b_Rota := by
  have S := S_Rota
  have h64 : (A.deeper (envOfC "Rota.__init__" (defScope s_Rota_init) s.heap.objs.size f cdv)).units + 64 < cLine := by
    have := hr.un
    omega
  have h65 : (A.deeper (envOfC "Rota.__init__" (defScope s_Rota_init) s.heap.objs.size f cdv)).units + 65 < cLine := by
    have := hr.un
    omega
  have h1 : (A.deeper (envOfC "Rota.__init__" (defScope s_Rota_init) s.heap.objs.size f cdv)).units + 1 < cLine := by
    have := hr.un
    omega
  refine js_cons ?_ (js_cons ?_ (js_cons ?_ (js_cons ?_ js_nil)))
  · refine js_if (jt_not (jt_truth (j_callD (lv := 2) D_is_whole (hr.mono (by decide)) passB (jl_cons (j_var 1) (jl_cons j_int jl_nil))))) ?_ ?_
    · refine js_cons ?_ js_nil
      · exact js_bad
    · exact js_nil
  · refine js_if (jt_not (jt_truth (j_callD (lv := 6) D_are_rows (hr.mono (by decide)) passB (jl_cons (j_var 2) (jl_cons (j_var 1) jl_nil))))) ?_ ?_
    · refine js_cons ?_ js_nil
      · exact js_bad
    · exact js_nil
  · exact (js_fld 0 (fld_Rota_places Z_Rota) (j_var 1) (by decide))
  · exact (js_fld 0 (fld_Rota_rows Z_Rota) (j_callTy call_tuple_of o_tuple (by rfl) T.n_tuple (by decide +kernel) (j_new (jn_lc (own := [("turned", 3), ("moves", 4)]) (by rfl) S.nd (blkOk_by (N := N_Rota_init) (sc := defScope s_Rota_init) (by decide +kernel)) (by decide) (ji_seq (j_var 2)) (fun _ _ _ _ _ => (jg_tup (by rfl) (jg_cons (jg_name 3 S.nd) (jg_cons (jg_name 4 S.nd) jg_nil)))) (fun _ _ _ _ _ => jts_nil) (fun _ _ _ _ _ => (j_tup (jl_cons (j_callTy call_tuple_of o_tuple (by rfl) T.n_tuple (by decide +kernel) (j_callB cr_sortedA o_sorted (by rfl) T.n_sorted (by decide +kernel) (j_var 3))) (jl_cons (j_callTy call_tuple_of o_tuple (by rfl) T.n_tuple (by decide +kernel) (j_var 4)) jl_nil))))))) (by decide))
theorem d_Rota {C_Rota : Addr} {C_Season : Addr} {C_Course : Addr} {fa : Addr} {fd : FuncData} (F : Fun K "__init__" "Rota.__init__" s_Rota_init fa fd) (M : Mk K C_Rota fa) (b : Binds K fd ["self", "places", "rows"] []) (T : Bl mg) (Z_Rota : Tx_Rota K mg C_Rota) (Z_Season : Tx_Season K mg C_Season) (Z_Course : Tx_Course K mg C_Course) (D_is_whole : Df P w K mg base CT0 BB 2 "is_whole" 2 ["value", "least"] f_is_whole) (D_are_rows : Df P w K mg base CT0 BB 6 "are_rows" 2 ["rows", "places"] f_are_rows) : Cf P w K mg base CT0 BB 7 "Rota" 0 2 ["self", "places", "rows"] f_Rota :=
  ⟨⟨C_Rota, fa, fd, M, init_def F S_Rota (by decide) (by decide) fun _ _ _ _ _ _ hr => l_Rota T Z_Rota Z_Season Z_Course D_is_whole D_are_rows hr, Z_Rota.mgC, b⟩, rfl, fnInit_len⟩
theorem scDraw : FnScope ["_law_deal_here", "_law_bound", "_law_rest"] ["_law_deal_here", "_law_bound"] (defScope s_law_draw) := ⟨rfl, rfl, rfl, by decide +kernel, rfl, by decide +kernel, by decide +kernel⟩
theorem ok_draw {f : Addr} {fd : FuncData} (F : Fun K "_law_draw" "_law_draw" s_law_draw f fd) (T : Bl mg) : FnOk P w K mg base CX0 1 f fd ["_law_deal_here", "_law_bound"] spDrawC := by
  refine F.ok scDraw (fun vs H Q E h => ?_) (fun cdv A outer s H vs Q E hr h => ?_)
  · obtain ⟨D, i, b, c, rfl, _⟩ := h
    rfl
  · obtain ⟨D, i, b, c, rfl, hD, hc, ⟨ns0, hI, hl0, hn0⟩, hb, hb2, q⟩ := h
    have h64 : (A.deeper (envOfC "_law_draw" (defScope s_law_draw) s.heap.objs.size f cdv)).units + 64 < cLine := by
      have := hr.un
      omega
    have hbp : (0 : Int) < b := by omega
    refine ⟨_, pss_cons (PS.imp (t' := fun D' σ' H' => σ' = [some (.ref D), some (.int b), none] ∧ H' = H ∧ ∀ (H2 : Hp) (ns : List Int), H2 D = some (.lst [.ref i, .int c]) → H2 i = some (.lst (ns.map V.int)) → ns.length ≤ 1000 → (∀ n ∈ ns, 0 ≤ n) → (∀ a o, H a = some o → a ≠ D → a ≠ i → H2 a = some o) → D'.nx [some (.ref D), some (.int b), none] H2)
        (ps_while PassesOwn.never (PW.pt (pw_and (pt_cmpR (op_neD h64) (pe_ix ix_list (pv 0) pe_int (fun _ _ => rfl)) (pe_lst pa_nil) (nomark _)) (pw_and1 (pt_cmpR (op_eqD h64) (pe_ix ix_list (pe_ix ix_list (pv 0) pe_int (fun _ _ => rfl)) (pe_un un_neg pe_int) (fun _ _ => rfl)) pe_int (nomark _)))))
        (pss_one (ps_expr (pe_bm0 PySem.F.plainAttrs_list PySem.F.slot_list_pop PySem.F.type_list_pop mt_pop (pe_ix ix_list (pv 0) pe_int (fun _ _ => rfl)))))) ?lp)
      (pss_cons (ps_if (pt_cmpR (op_neD h64) (pe_ix ix_list (pv 0) pe_int (fun _ _ => rfl)) (pe_lst pa_nil) (nomark _))
        (pss_cons (ps_set (i := 2) scDraw.nd rfl (.inl rfl) (pe_bm0 PySem.F.plainAttrs_list PySem.F.slot_list_pop PySem.F.type_list_pop mt_pop (pe_ix ix_list (pv 0) pe_int (fun _ _ => rfl))))
        (pss_cons (ps_expr (pe_bm PySem.F.plainAttrs_list PySem.F.slot_list_append PySem.F.type_list_append mt_append (pe_ix ix_list (pv 0) pe_int (fun _ _ => rfl)) (pa_cons (pe_op op_fdivW (pv 2) (pv 1)) pa_nil)))
        (pss_one (ps_ret (pe_op op_mod (pe_callTy call_int1 (by rfl) T.n_int (by decide +kernel) (pa_cons (pv 2) pa_nil)) (pv 1)))))) pss_nil)
      (pss_cons (ps_asg (pe_op op_mod (pe_callTy call_int1 (by rfl) T.n_int (by decide +kernel) (pa_cons (pe_op op_add (pe_op op_mul (pe_ix ix_list (pv 0) pe_int (fun _ _ => rfl)) pe_int) pe_int) pa_nil)) pe_int) (pg_sub (pv 0) pe_int set_list))
      (pss_one (ps_ret (pe_op op_mod (pe_callTy call_int1 (by rfl) T.n_int (by decide +kernel) (pa_cons (pe_op op_fdiv (pe_ix ix_list (pv 0) pe_int (fun _ _ => rfl)) pe_int) pa_nil)) (pv 1)))))), rfl, rfl, fun H2 ns hD2 hI2 hl hn keep => ?_⟩
    case lp =>
      rintro D' σ' H' ⟨rfl, rfl, ex⟩
      refine ⟨fun m σ H2 => ∃ ns : List Int, σ = [some (.ref D), some (.int b), none] ∧ ns.length = m ∧ H2 D = some (.lst [.ref i, .int c]) ∧ H2 i = some (.lst (ns.map V.int)) ∧ ns.length ≤ 1000 ∧ (∀ n ∈ ns, 0 ≤ n) ∧ ∀ a o, H' a = some o → a ≠ D → a ≠ i → H2 a = some o, ⟨_, ns0, rfl, rfl, hD, hI, hl0, hn0, fun a o h _ _ => h⟩, ?_⟩
      rintro m σ H1 ⟨ns, rfl, hm, hD1, hI1, hl1, hn1, keep⟩
      refine ⟨_, rfl, D, [.ref i, .int c], 0, .ref i, rfl, rfl, SqL.of hD1, rfl, Nat.zero_le _, fun p np => ?_⟩
      have nD : D ≠ p := fun z => by rw [z, np] at hD1; cases hD1
      have nI : i ≠ p := fun z => by rw [z, np] at hI1; cases hI1
      have hD2 : (upd H1 p (.lst [])) D = some (.lst [.ref i, .int c]) := by rw [upd_ne nD]; exact hD1
      have hI2 : (upd H1 p (.lst [])) i = some (.lst (ns.map V.int)) := by rw [upd_ne nI]; exact hI1
      have hP2 : (upd H1 p (.lst [])) p = some (.lst (([] : List Int).map V.int)) := upd_same
      have keep2 : ∀ a o, H' a = some o → a ≠ D → a ≠ i → (upd H1 p (.lst [])) a = some o := fun a o h x y => by
        have z := keep a o h x y
        rw [upd_ne (fun e => by rw [e, np] at z; cases z)]
        exact z
      refine ⟨_, _, dp_ints (mg := mg) hI2, dp_ints (mg := mg) hP2, sh_ints ns, sh_ints [], !ns.isEmpty, by rw [show (([] : List Int).map AV.int) = [] from rfl, ne_nil_ints], ?_⟩
      rcases List.eq_nil_or_concat ns with rfl | ⟨l, z, rfl⟩
      · exact iteF (iteF (ex _ [] hD2 hI2 hl1 hn1 keep2))
      · have e0 : (!(l.concat z).isEmpty) = true := by cases l <;> rfl
        rw [List.concat_eq_append] at *
        rw [e0]
        have hI3 : (upd H1 p (.lst [])) i = some (.lst (l.map V.int ++ [V.int z])) := by rw [hI2, List.map_append]; rfl
        refine iteT ⟨_, rfl, D, [.ref i, .int c], 0, .ref i, rfl, rfl, SqL.of hD2, rfl, 1, rfl, i, _, -1, .int z, rfl, rfl, SqL.of hI3, atI_last _ _, .int z, .int 0, .int z, .int 0, rfl, rfl, PyData.eqv (.int z) (.int 0), rfl, ?_⟩
        cases hz : PyData.eqv (.int z) (.int 0) with
        | false => exact iteF (ex _ _ hD2 hI2 hl1 hn1 keep2)
        | true =>
          refine iteT ⟨fun σ' H' => ∃ m', m' < m ∧ _, fun _ _ h => h, _, rfl, D, [.ref i, .int c], 0, .ref i, rfl, rfl, SqL.of hD2, rfl, .inl ⟨rfl, _, SqL.of hI3⟩, i, _, .int z, rfl, rfl, hI3, ?_, ?_⟩
          · rw [List.length_append, List.length_singleton, Nat.add_sub_cancel, List.getElem?_append_right (Nat.le_refl _), Nat.sub_self]
            rfl
          · have hDi : D ≠ i := fun e => by
              rw [e, hI3] at hD2
              cases l with
              | nil => cases hD2
              | cons n ns => cases hD2
            refine ⟨l.length, by rw [← hm, List.length_append, List.length_singleton]; omega, l, rfl, rfl, ?_, ?_, ?_, fun n hn => hn1 n (List.mem_append_left _ hn), fun a o h x y => ?_⟩
            · rw [upd_ne hDi]
              exact hD2
            · rw [upd_same, List.dropLast_concat]
            · rw [List.length_append, List.length_singleton] at hl1
              omega
            · rw [upd_ne y]
              exact keep2 a o h x y
    refine ⟨_, rfl, D, [.ref i, .int c], 0, .ref i, rfl, rfl, SqL.of hD2, rfl, Nat.zero_le _, fun p np => ?_⟩
    have nD : D ≠ p := fun z => by rw [z, np] at hD2; cases hD2
    have nI : i ≠ p := fun z => by rw [z, np] at hI2; cases hI2
    have hD3 : (upd H2 p (.lst [])) D = some (.lst [.ref i, .int c]) := by rw [upd_ne nD]; exact hD2
    have hI3 : (upd H2 p (.lst [])) i = some (.lst (ns.map V.int)) := by rw [upd_ne nI]; exact hI2
    have hP3 : (upd H2 p (.lst [])) p = some (.lst (([] : List Int).map V.int)) := upd_same
    have keep3 : ∀ a o, H a = some o → a ≠ D → a ≠ i → (upd H2 p (.lst [])) a = some o := fun a o h x y => by
      have z := keep a o h x y
      rw [upd_ne (fun e => by rw [e, np] at z; cases z)]
      exact z
    refine ⟨_, _, dp_ints (mg := mg) hI3, dp_ints (mg := mg) hP3, sh_ints ns, sh_ints [], !ns.isEmpty, by rw [show (([] : List Int).map AV.int) = [] from rfl, ne_nil_ints], ?_⟩
    rcases List.eq_nil_or_concat ns with rfl | ⟨l, z, rfl⟩
    · refine iteF ?_
      have r0 := Int.emod_nonneg (c * 40487 + 47) (by decide : (2147483647 : Int) ≠ 0)
      have r1 := Int.emod_lt_of_pos (c * 40487 + 47) (by decide : (0 : Int) < 2147483647)
      refine ⟨_, rfl, D, [.ref i, .int c], 1, .int c, rfl, rfl, SqL.of hD3, rfl, _, _, rfl, rfl, .inr ⟨by decide, by decide⟩, _, _, rfl, rfl, .inl ⟨_, rfl, _, _, rfl, rfl, (by decide : (0 : Int) < 2147483647), ?_⟩⟩
      refine ⟨_, rfl, D, [.ref i, .int c], 1, 1, rfl, rfl, hD3, rfl, ?_⟩
      have h2 : (upd (upd H2 p (.lst [])) D (.lst ([V.ref i, V.int c].set 1 (.int ((c * 40487 + 47) % 2147483647))))) D = some (.lst [.ref i, .int ((c * 40487 + 47) % 2147483647)]) := upd_same
      have hiD : i ≠ D := fun e => by
        rw [e, hD3] at hI3
        cases hI3
      refine ⟨_, rfl, D, [.ref i, .int ((c * 40487 + 47) % 2147483647)], 1, .int ((c * 40487 + 47) % 2147483647), rfl, rfl, SqL.of h2, rfl, _, _, rfl, rfl, ⟨by decide, by decide⟩, .inl ⟨_, rfl, _, rfl, _, _, rfl, rfl, hbp, ?_⟩⟩
      refine q _ _ (Int.emod_nonneg _ (by omega)) (Int.emod_lt_of_pos _ hbp) (fun a o h x y => ?_) ⟨_, h2, r0⟩ ⟨[], ?_, by decide, fun n hn => absurd hn List.not_mem_nil⟩
      · rw [upd_ne x]
        exact keep3 a o h x y
      · rw [upd_ne hiD]
        exact hI3
    · have e0 : (!(l.concat z).isEmpty) = true := by cases l <;> rfl
      rw [List.concat_eq_append] at *
      rw [e0]
      have hI4 : (upd H2 p (.lst [])) i = some (.lst (l.map V.int ++ [V.int z])) := by rw [hI3, List.map_append]; rfl
      have hDi : D ≠ i := fun e => by
        rw [e, hI4] at hD3
        cases l with
        | nil => cases hD3
        | cons n ns => cases hD3
      rw [List.length_append, List.length_singleton] at hl
      refine iteT ⟨_, rfl, D, [.ref i, .int c], 0, .ref i, rfl, rfl, SqL.of hD3, rfl, .inl ⟨rfl, _, SqL.of hI4⟩, i, _, .int z, rfl, rfl, hI4, ?_, ?_⟩
      · rw [List.length_append, List.length_singleton, Nat.add_sub_cancel, List.getElem?_append_right (Nat.le_refl _), Nat.sub_self]
        rfl
      · have hD5 : (upd (upd H2 p (.lst [])) i (.lst (l.map V.int ++ [V.int z]).dropLast)) D = some (.lst [.ref i, .int c]) := by
          rw [upd_ne hDi]
          exact hD3
        have hI5 : (upd (upd H2 p (.lst [])) i (.lst (l.map V.int ++ [V.int z]).dropLast)) i = some (.lst (l.map V.int)) := by
          rw [upd_same, List.dropLast_concat]
        refine ⟨_, rfl, D, [.ref i, .int c], 0, .ref i, rfl, rfl, SqL.of hD5, rfl, .inl ⟨rfl, _, SqL.of hI5⟩, _, rfl, _, rfl, _, _, rfl, rfl, wide_div (b := 64) hbp (by omega) (by decide) (by decide), i, _, .int (z / b), rfl, rfl, hI5, ?_, ?_⟩
        · rw [List.length_map]
          exact Nat.lt_of_lt_of_le (show l.length < 1000000 by omega) big_line
        · refine ⟨_, rfl, .inl ⟨_, rfl, _, rfl, _, _, rfl, rfl, hbp, ?_⟩⟩
          refine q _ _ (Int.emod_nonneg _ (by omega)) (Int.emod_lt_of_pos _ hbp) (fun a o h x y => ?_) ⟨c, ?_, hc⟩ ⟨l ++ [z / b], ?_, ?_, fun n hn' => ?_⟩
          · rw [upd_ne y, upd_ne y]
            exact keep3 a o h x y
          · rw [upd_ne hDi]
            exact hD5
          · rw [upd_same, List.map_append]
            rfl
          · rw [List.length_append, List.length_singleton]
            exact hl
          · rcases List.mem_append.mp hn' with e | e
            · exact hn n (List.mem_append_left _ e)
            · rw [List.mem_singleton.mp e]
              exact Int.ediv_nonneg (hn z (List.mem_append_right _ (List.mem_singleton_self z))) (by omega)
abbrev N_law_mixed : List Str := ["_law_deal_here", "_law_some", "_law_rest", "_law_found"]
def S1w0_law_mixed : SSem := (sExpr (fAppend 3 (fPopAt 2 (fCall f_law_draw [] (lCons (fVar 0) (lCons (fUn pLen (fVar 2)) lNil))))))
def K1w0_law_mixed : SSem := sSeq S1w0_law_mixed sNil
theorem U1w0_law_mixed {a : Dn.Slot} {l : Env'} : K1w0_law_mixed (a :: l) = sSeq S1w0_law_mixed sNil (a :: l) := rfl
def S0_law_mixed : SSem := (sParN 2 3 (nList (fVar 1)))
def S1_law_mixed : SSem := (whileL (fBlT (fBin pNe (fVar 2) (fNew (nLst lNil)))) K1w0_law_mixed FUEL)
def S2_law_mixed : SSem := (sRet (fVar 3))
def K2_law_mixed : SSem := sSeq S2_law_mixed sNil
theorem U2_law_mixed {a : Dn.Slot} {l : Env'} : K2_law_mixed (a :: l) = sSeq S2_law_mixed sNil (a :: l) := rfl
def K1_law_mixed : SSem := sSeq S1_law_mixed K2_law_mixed
theorem U1_law_mixed {a : Dn.Slot} {l : Env'} : K1_law_mixed (a :: l) = sSeq S1_law_mixed K2_law_mixed (a :: l) := rfl
def K0_law_mixed : SSem := sSeq S0_law_mixed K1_law_mixed
theorem U0_law_mixed {a : Dn.Slot} {l : Env'} : K0_law_mixed (a :: l) = sSeq S0_law_mixed K1_law_mixed (a :: l) := rfl
def b_law_mixed : SSem := K0_law_mixed
def f_law_mixed : List AV → T AV := fnOf 2 4 b_law_mixed
theorem S_law_mixed : FnScope N_law_mixed ["_law_deal_here", "_law_some"] (defScope s_law_mixed) := ⟨rfl, rfl, rfl, by decide +kernel, rfl, by decide +kernel, by decide +kernel⟩
theorem l_law_mixed {C_Rota : Addr} {C_Season : Addr} {C_Course : Addr} (T : Bl mg) (Z_Rota : Tx_Rota K mg C_Rota) (Z_Season : Tx_Season K mg C_Season) (Z_Course : Tx_Course K mg C_Course) (D_law_draw : Df P w K mg base CT0 BB 1 "_law_draw" 2 ["_law_deal_here", "_law_bound"] f_law_draw) {f : Addr} {cdv : Value} {A : Around} {outer : List Env} {s : Shared} {H : Hp} {E : XK} (hr : Room 1 (A.deeper (envOfC "_law_mixed" (defScope s_law_mixed) s.heap.objs.size f cdv))) :
  JSs (cxOf (L2.CX P w) P w K mg base N_law_mixed "_law_mixed" (defScope s_law_mixed) f cdv A outer s H E) CT0 BB E (defBody s_law_mixed) b_law_mixed := by
  have S := S_law_mixed
  have h64 : (A.deeper (envOfC "_law_mixed" (defScope s_law_mixed) s.heap.objs.size f cdv)).units + 64 < cLine := by
    have := hr.un
    omega
  have h65 : (A.deeper (envOfC "_law_mixed" (defScope s_law_mixed) s.heap.objs.size f cdv)).units + 65 < cLine := by
    have := hr.un
    omega
  have h1 : (A.deeper (envOfC "_law_mixed" (defScope s_law_mixed) s.heap.objs.size f cdv)).units + 1 < cLine := by
    have := hr.un
    omega
  refine js_cons ?_ (js_cons ?_ (js_cons ?_ js_nil))
  · exact (js_par2 (i := 2) (j := 3) (by rfl) S.nd (pa_cons (jn_list (by rfl) T.n_list (j_var 1)) (pa_cons (pe_lst pa_nil) pa_nil)) wants_N rfl rfl (by decide) rfl rfl (mono_E (es := []) mono_rdN) rfl rfl)
  · refine js_while FUEL passOwnB (jt_cmp (op_neD h64) o_ne.op (j_var 2) (j_new (jn_lst jl_nil)) (nomark _)) ?_
    refine js_cons ?_ js_nil
    · exact (js_expr (j_append 3 (j_popAt 2 (j_callD (lv := 1) D_law_draw (hr.mono (by decide)) passB (jl_cons (j_var 0) (jl_cons (j_callB call_len o_len (by rfl) T.n_len (by decide +kernel) (j_var 2)) jl_nil))) (fun te he => pe_bm PySem.F.plainAttrs_list PySem.F.slot_list_pop PySem.F.type_list_pop mt_popAt (pv 2) (pa_cons he pa_nil))) (fun te he => pe_bm PySem.F.plainAttrs_list PySem.F.slot_list_append PySem.F.type_list_append mt_append (pv 3) (pa_cons he pa_nil))))
  · exact (js_ret (j_var 3))
theorem d_law_mixed {C_Rota : Addr} {C_Season : Addr} {C_Course : Addr} {fa : Addr} {fd : FuncData} (F : Fun K "_law_mixed" "_law_mixed" s_law_mixed fa fd) (h1 : mg "_law_mixed" = some (.ref fa)) (h2 : PySem.W.keepIn K (.ref fa) = true) (b : Binds K fd ["_law_deal_here", "_law_some"] []) (T : Bl mg) (Z_Rota : Tx_Rota K mg C_Rota) (Z_Season : Tx_Season K mg C_Season) (Z_Course : Tx_Course K mg C_Course) (D_law_draw : Df P w K mg base CT0 BB 1 "_law_draw" 2 ["_law_deal_here", "_law_bound"] f_law_draw) : Df P w K mg base CT0 BB 2 "_law_mixed" 2 ["_law_deal_here", "_law_some"] f_law_mixed :=
  ⟨⟨fa, fd, fn_def (N := N_law_mixed) (ps := ["_law_deal_here", "_law_some"]) (k := 1) (body := b_law_mixed) F S_law_mixed (by decide) fun _ _ _ _ _ _ hr => l_law_mixed T Z_Rota Z_Season Z_Course D_law_draw hr, h1, h2, b⟩, fnOf_len⟩
abbrev N_law_cases : List Str := ["_law_found"]
def S0_law_cases : SSem := (sSetN 0 (nLst (lCons (fTup (lCons (fC (.int 0)) (lCons (fNew (nLst lNil)) (lCons (fC (.int 0)) (lCons (fC (.str "0101010")) (lCons (fC (.str "MMMMMM")) (lCons (fC (.int 1)) lNil))))))) (lCons (fTup (lCons (fC (.int 1)) (lCons (fNew (nLst lNil)) (lCons (fC (.int 0)) (lCons (fC (.str "0??????")) (lCons (fC (.str "??????")) (lCons (fC (.int 7)) lNil))))))) lNil))))
def S1_law_cases : SSem := (sExpr (fAppend 0 (fTup (lCons (fC (.int 1)) (lCons (fNew (nLst (lCons (fTup (lCons (fC (.int 6)) (lCons (fC (.int 0)) (lCons (fC (.int 0)) lNil)))) lNil))) (lCons (fC (.int 0)) (lCons (fC (.str "0101010")) (lCons (fC (.str "MMMMMM")) (lCons (fC (.int 1)) lNil)))))))))
def S2_law_cases : SSem := (sExpr (fAppend 0 (fTup (lCons (fC (.int 2)) (lCons (fNew (nLst (lCons (fTup (lCons (fC (.int 6)) (lCons (fC (.int 0)) (lCons (fC (.int 0)) lNil)))) lNil))) (lCons (fC (.int 0)) (lCons (fC (.str "0?????0")) (lCons (fC (.str "??????")) (lCons (fC (.int 16)) lNil)))))))))
def S3_law_cases : SSem := (sExpr (fAppend 0 (fTup (lCons (fC (.int 1)) (lCons (fNew (nLst (lCons (fTup (lCons (fC (.int 6)) (lCons (fC (.int 0)) (lCons (fC (.int 1)) lNil)))) lNil))) (lCons (fC (.int 1)) (lCons (fC (.str "0?????1")) (lCons (fC (.str "??????")) (lCons (fC (.int 6)) lNil)))))))))
def S4_law_cases : SSem := (sExpr (fAppend 0 (fTup (lCons (fC (.int 1)) (lCons (fNew (nLst (lCons (fTup (lCons (fC (.int 1)) (lCons (fC (.int 0)) (lCons (fC (.int 0)) lNil)))) lNil))) (lCons (fC (.int 1)) (lCons (fC (.str "0010101")) (lCons (fC (.str "XMMMMM")) (lCons (fC (.int 1)) lNil)))))))))
def S5_law_cases : SSem := (sExpr (fAppend 0 (fTup (lCons (fC (.int 1)) (lCons (fNew (nLst (lCons (fTup (lCons (fC (.int 2)) (lCons (fC (.int 0)) (lCons (fC (.int 1)) lNil)))) lNil))) (lCons (fC (.int 1)) (lCons (fC (.str "0?10101")) (lCons (fC (.str "??MMMM")) (lCons (fC (.int 2)) lNil)))))))))
def S6_law_cases : SSem := (sExpr (fAppend 0 (fTup (lCons (fC (.int 2)) (lCons (fNew (nLst (lCons (fTup (lCons (fC (.int 2)) (lCons (fC (.int 0)) (lCons (fC (.int 1)) lNil)))) (lCons (fTup (lCons (fC (.int 4)) (lCons (fC (.int 0)) (lCons (fC (.int 1)) lNil)))) lNil)))) (lCons (fC (.int 1)) (lCons (fC (.str "0?101??")) (lCons (fC (.str "??MM??")) (lCons (fC (.int 6)) lNil)))))))))
def S7_law_cases : SSem := (sExpr (fAppend 0 (fTup (lCons (fC (.int 3)) (lCons (fNew (nLst (lCons (fTup (lCons (fC (.int 2)) (lCons (fC (.int 0)) (lCons (fC (.int 1)) lNil)))) (lCons (fTup (lCons (fC (.int 4)) (lCons (fC (.int 0)) (lCons (fC (.int 1)) lNil)))) lNil)))) (lCons (fC (.int 1)) (lCons (fC (.str "0?1?1??")) (lCons (fC (.str "??????")) (lCons (fC (.int 10)) lNil)))))))))
def S8_law_cases : SSem := (sExpr (fAppend 0 (fTup (lCons (fC (.int 9)) (lCons (fNew (nLst (lCons (fTup (lCons (fC (.int 3)) (lCons (fC (.int 0)) (lCons (fC (.int 1)) lNil)))) (lCons (fTup (lCons (fC (.int 3)) (lCons (fC (.int 0)) (lCons (fC (.int 0)) lNil)))) lNil)))) (lCons (fC (.int 9)) (lCons (fC (.str "")) (lCons (fC (.str "")) (lCons (fC (.int 0)) lNil)))))))))
def S9_law_cases : SSem := (sExpr (fAppend 0 (fTup (lCons (fC (.int 0)) (lCons (fNew (nLst (lCons (fTup (lCons (fC (.int 3)) (lCons (fC (.int 0)) (lCons (fC (.int 0)) lNil)))) lNil))) (lCons (fC (.int 1)) (lCons (fC (.str "")) (lCons (fC (.str "")) (lCons (fC (.int 0)) lNil)))))))))
def S10_law_cases : SSem := (sExpr (fAppend 0 (fTup (lCons (fC (.int 3)) (lCons (fNew (nLst (lCons (fTup (lCons (fC (.int 1)) (lCons (fC (.int 0)) (lCons (fC (.int 0)) lNil)))) (lCons (fTup (lCons (fC (.int 2)) (lCons (fC (.int 0)) (lCons (fC (.int 0)) lNil)))) (lCons (fTup (lCons (fC (.int 3)) (lCons (fC (.int 0)) (lCons (fC (.int 0)) lNil)))) lNil))))) (lCons (fC (.int 3)) (lCons (fC (.str "0000101")) (lCons (fC (.str "XXXMMM")) (lCons (fC (.int 1)) lNil)))))))))
def S11_law_cases : SSem := (sRet (fVar 0))
def K11_law_cases : SSem := sSeq S11_law_cases sNil
def K10_law_cases : SSem := sSeq S10_law_cases K11_law_cases
def K9_law_cases : SSem := sSeq S9_law_cases K10_law_cases
def K8_law_cases : SSem := sSeq S8_law_cases K9_law_cases
def K7_law_cases : SSem := sSeq S7_law_cases K8_law_cases
def K6_law_cases : SSem := sSeq S6_law_cases K7_law_cases
def K5_law_cases : SSem := sSeq S5_law_cases K6_law_cases
def K4_law_cases : SSem := sSeq S4_law_cases K5_law_cases
def K3_law_cases : SSem := sSeq S3_law_cases K4_law_cases
def K2_law_cases : SSem := sSeq S2_law_cases K3_law_cases
def K1_law_cases : SSem := sSeq S1_law_cases K2_law_cases
def K0_law_cases : SSem := sSeq S0_law_cases K1_law_cases
def b_law_cases : SSem := K0_law_cases
def f_law_cases : List AV → T AV := fnOf 0 1 b_law_cases
theorem S_law_cases : FnScope N_law_cases [] (defScope s_law_cases) := ⟨rfl, rfl, rfl, by decide +kernel, rfl, by decide +kernel, by decide +kernel⟩
theorem l_law_cases {C_Rota : Addr} {C_Season : Addr} {C_Course : Addr} (T : Bl mg) (Z_Rota : Tx_Rota K mg C_Rota) (Z_Season : Tx_Season K mg C_Season) (Z_Course : Tx_Course K mg C_Course) {f : Addr} {cdv : Value} {A : Around} {outer : List Env} {s : Shared} {H : Hp} {E : XK} (hr : Room 0 (A.deeper (envOfC "_law_cases" (defScope s_law_cases) s.heap.objs.size f cdv))) :
  JSs (cxOf (L2.CX P w) P w K mg base N_law_cases "_law_cases" (defScope s_law_cases) f cdv A outer s H E) CT0 BB E (defBody s_law_cases) b_law_cases := by
  have S := S_law_cases
  have h64 : (A.deeper (envOfC "_law_cases" (defScope s_law_cases) s.heap.objs.size f cdv)).units + 64 < cLine := by
    have := hr.un
    omega
  have h65 : (A.deeper (envOfC "_law_cases" (defScope s_law_cases) s.heap.objs.size f cdv)).units + 65 < cLine := by
    have := hr.un
    omega
  have h1 : (A.deeper (envOfC "_law_cases" (defScope s_law_cases) s.heap.objs.size f cdv)).units + 1 < cLine := by
    have := hr.un
    omega
  refine js_cons ?_ (js_cons ?_ (js_cons ?_ (js_cons ?_ (js_cons ?_ (js_cons ?_ (js_cons ?_ (js_cons ?_ (js_cons ?_ (js_cons ?_ (js_cons ?_ (js_cons ?_ js_nil)))))))))))
  · exact (js_setN 0 (jn_lst (jl_cons (j_tup (jl_cons j_int (jl_cons (j_new (jn_lst jl_nil)) (jl_cons j_int (jl_cons j_str (jl_cons j_str (jl_cons j_int jl_nil))))))) (jl_cons (j_tup (jl_cons j_int (jl_cons (j_new (jn_lst jl_nil)) (jl_cons j_int (jl_cons j_str (jl_cons j_str (jl_cons j_int jl_nil))))))) jl_nil))) S.nd)
  · exact (js_expr (j_append 0 (j_tup (jl_cons j_int (jl_cons (j_new (jn_lst (jl_cons (j_tup (jl_cons j_int (jl_cons j_int (jl_cons j_int jl_nil)))) jl_nil))) (jl_cons j_int (jl_cons j_str (jl_cons j_str (jl_cons j_int jl_nil))))))) (fun te he => pe_bm PySem.F.plainAttrs_list PySem.F.slot_list_append PySem.F.type_list_append mt_append (pv 0) (pa_cons he pa_nil))))
  · exact (js_expr (j_append 0 (j_tup (jl_cons j_int (jl_cons (j_new (jn_lst (jl_cons (j_tup (jl_cons j_int (jl_cons j_int (jl_cons j_int jl_nil)))) jl_nil))) (jl_cons j_int (jl_cons j_str (jl_cons j_str (jl_cons j_int jl_nil))))))) (fun te he => pe_bm PySem.F.plainAttrs_list PySem.F.slot_list_append PySem.F.type_list_append mt_append (pv 0) (pa_cons he pa_nil))))
  · exact (js_expr (j_append 0 (j_tup (jl_cons j_int (jl_cons (j_new (jn_lst (jl_cons (j_tup (jl_cons j_int (jl_cons j_int (jl_cons j_int jl_nil)))) jl_nil))) (jl_cons j_int (jl_cons j_str (jl_cons j_str (jl_cons j_int jl_nil))))))) (fun te he => pe_bm PySem.F.plainAttrs_list PySem.F.slot_list_append PySem.F.type_list_append mt_append (pv 0) (pa_cons he pa_nil))))
  · exact (js_expr (j_append 0 (j_tup (jl_cons j_int (jl_cons (j_new (jn_lst (jl_cons (j_tup (jl_cons j_int (jl_cons j_int (jl_cons j_int jl_nil)))) jl_nil))) (jl_cons j_int (jl_cons j_str (jl_cons j_str (jl_cons j_int jl_nil))))))) (fun te he => pe_bm PySem.F.plainAttrs_list PySem.F.slot_list_append PySem.F.type_list_append mt_append (pv 0) (pa_cons he pa_nil))))
  · exact (js_expr (j_append 0 (j_tup (jl_cons j_int (jl_cons (j_new (jn_lst (jl_cons (j_tup (jl_cons j_int (jl_cons j_int (jl_cons j_int jl_nil)))) jl_nil))) (jl_cons j_int (jl_cons j_str (jl_cons j_str (jl_cons j_int jl_nil))))))) (fun te he => pe_bm PySem.F.plainAttrs_list PySem.F.slot_list_append PySem.F.type_list_append mt_append (pv 0) (pa_cons he pa_nil))))
  · exact (js_expr (j_append 0 (j_tup (jl_cons j_int (jl_cons (j_new (jn_lst (jl_cons (j_tup (jl_cons j_int (jl_cons j_int (jl_cons j_int jl_nil)))) (jl_cons (j_tup (jl_cons j_int (jl_cons j_int (jl_cons j_int jl_nil)))) jl_nil)))) (jl_cons j_int (jl_cons j_str (jl_cons j_str (jl_cons j_int jl_nil))))))) (fun te he => pe_bm PySem.F.plainAttrs_list PySem.F.slot_list_append PySem.F.type_list_append mt_append (pv 0) (pa_cons he pa_nil))))
  · exact (js_expr (j_append 0 (j_tup (jl_cons j_int (jl_cons (j_new (jn_lst (jl_cons (j_tup (jl_cons j_int (jl_cons j_int (jl_cons j_int jl_nil)))) (jl_cons (j_tup (jl_cons j_int (jl_cons j_int (jl_cons j_int jl_nil)))) jl_nil)))) (jl_cons j_int (jl_cons j_str (jl_cons j_str (jl_cons j_int jl_nil))))))) (fun te he => pe_bm PySem.F.plainAttrs_list PySem.F.slot_list_append PySem.F.type_list_append mt_append (pv 0) (pa_cons he pa_nil))))
  · exact (js_expr (j_append 0 (j_tup (jl_cons j_int (jl_cons (j_new (jn_lst (jl_cons (j_tup (jl_cons j_int (jl_cons j_int (jl_cons j_int jl_nil)))) (jl_cons (j_tup (jl_cons j_int (jl_cons j_int (jl_cons j_int jl_nil)))) jl_nil)))) (jl_cons j_int (jl_cons j_str (jl_cons j_str (jl_cons j_int jl_nil))))))) (fun te he => pe_bm PySem.F.plainAttrs_list PySem.F.slot_list_append PySem.F.type_list_append mt_append (pv 0) (pa_cons he pa_nil))))
  · exact (js_expr (j_append 0 (j_tup (jl_cons j_int (jl_cons (j_new (jn_lst (jl_cons (j_tup (jl_cons j_int (jl_cons j_int (jl_cons j_int jl_nil)))) jl_nil))) (jl_cons j_int (jl_cons j_str (jl_cons j_str (jl_cons j_int jl_nil))))))) (fun te he => pe_bm PySem.F.plainAttrs_list PySem.F.slot_list_append PySem.F.type_list_append mt_append (pv 0) (pa_cons he pa_nil))))
  · exact (js_expr (j_append 0 (j_tup (jl_cons j_int (jl_cons (j_new (jn_lst (jl_cons (j_tup (jl_cons j_int (jl_cons j_int (jl_cons j_int jl_nil)))) (jl_cons (j_tup (jl_cons j_int (jl_cons j_int (jl_cons j_int jl_nil)))) (jl_cons (j_tup (jl_cons j_int (jl_cons j_int (jl_cons j_int jl_nil)))) jl_nil))))) (jl_cons j_int (jl_cons j_str (jl_cons j_str (jl_cons j_int jl_nil))))))) (fun te he => pe_bm PySem.F.plainAttrs_list PySem.F.slot_list_append PySem.F.type_list_append mt_append (pv 0) (pa_cons he pa_nil))))
  · exact (js_ret (j_var 0))
theorem d_law_cases {C_Rota : Addr} {C_Season : Addr} {C_Course : Addr} {fa : Addr} {fd : FuncData} (F : Fun K "_law_cases" "_law_cases" s_law_cases fa fd) (h1 : mg "_law_cases" = some (.ref fa)) (h2 : PySem.W.keepIn K (.ref fa) = true) (b : Binds K fd [] []) (T : Bl mg) (Z_Rota : Tx_Rota K mg C_Rota) (Z_Season : Tx_Season K mg C_Season) (Z_Course : Tx_Course K mg C_Course) : Df P w K mg base CT0 BB 1 "_law_cases" 0 [] f_law_cases :=
  ⟨⟨fa, fd, fn_def (N := N_law_cases) (ps := []) (k := 0) (body := b_law_cases) F S_law_cases (by decide) fun _ _ _ _ _ _ hr => l_law_cases T Z_Rota Z_Season Z_Course  hr, h1, h2, b⟩, fnOf_len⟩
abbrev N_is_look : List Str := ["look", "wheels", "days", "day", "wheel", "up"]
def S0t0_is_look : SSem := (sRet (fC (.bl false)))
def K0t0_is_look : SSem := sSeq S0t0_is_look sNil
def S0_is_look : SSem := (sIf (fOrT (fNotT (fTru (fUn (pIsi "tuple") (fVar 0)))) (fBlT (fBin pNe (fUn pLen (fVar 0)) (fC (.int 3))))) K0t0_is_look sNil)
def S1_is_look : SSem := (sAsg (fVar 0) (tgTup 3 (tgCons (tgName 3) (tgCons (tgName 4) (tgCons (tgName 5) tgNil)))))
def S2_is_look : SSem := (sRet (fAnd (fCall f_is_below [] (lCons (fVar 3) (lCons (fBin pAdd (fVar 2) (fC (.int 1))) lNil))) (fAnd (fCall f_is_below [] (lCons (fVar 4) (lCons (fVar 1) lNil))) (fCall f_is_below [] (lCons (fVar 5) (lCons (fC (.int 2)) lNil))))))
def K2_is_look : SSem := sSeq S2_is_look sNil
def K1_is_look : SSem := sSeq S1_is_look K2_is_look
def K0_is_look : SSem := sSeq S0_is_look K1_is_look
def b_is_look : SSem := K0_is_look
def f_is_look : List AV → T AV := fnOf 3 6 b_is_look
theorem S_is_look : FnScope N_is_look ["look", "wheels", "days"] (defScope s_is_look) := ⟨rfl, rfl, rfl, by decide +kernel, rfl, by decide +kernel, by decide +kernel⟩
theorem l_is_look {C_Rota : Addr} {C_Season : Addr} {C_Course : Addr} (T : Bl mg) (Z_Rota : Tx_Rota K mg C_Rota) (Z_Season : Tx_Season K mg C_Season) (Z_Course : Tx_Course K mg C_Course) (D_is_below : Df P w K mg base CT0 BB 3 "is_below" 2 ["value", "many"] f_is_below) {f : Addr} {cdv : Value} {A : Around} {outer : List Env} {s : Shared} {H : Hp} {E : XK} (hr : Room 3 (A.deeper (envOfC "is_look" (defScope s_is_look) s.heap.objs.size f cdv))) :
  JSs (cxOf (L2.CX P w) P w K mg base N_is_look "is_look" (defScope s_is_look) f cdv A outer s H E) CT0 BB E (defBody s_is_look) b_is_look := by
  have S := S_is_look
  have h64 : (A.deeper (envOfC "is_look" (defScope s_is_look) s.heap.objs.size f cdv)).units + 64 < cLine := by
    have := hr.un
    omega
  have h65 : (A.deeper (envOfC "is_look" (defScope s_is_look) s.heap.objs.size f cdv)).units + 65 < cLine := by
    have := hr.un
    omega
  have h1 : (A.deeper (envOfC "is_look" (defScope s_is_look) s.heap.objs.size f cdv)).units + 1 < cLine := by
    have := hr.un
    omega
  refine js_cons ?_ (js_cons ?_ (js_cons ?_ js_nil))
  · refine js_if (jw_pt (jw_or (jt_not (jt_truth (j_isi kinds_tuple (by rfl) T.n_isinstance (by rfl) T.n_tuple (by decide +kernel) (j_var 0)))) (jw_or1 (jt_cmp (op_neD h64) o_ne.op (j_callB call_len o_len (by rfl) T.n_len (by decide +kernel) (j_var 0)) j_int (nomark _))))) ?_ ?_
    · refine js_cons ?_ js_nil
      · exact (js_ret j_bl)
    · exact js_nil
  · exact (js_asg (j_var 0) (jg_tup (by rfl) (jg_cons (jg_name 3 S.nd) (jg_cons (jg_name 4 S.nd) (jg_cons (jg_name 5 S.nd) jg_nil)))))
  · exact (js_ret (j_and (j_callD (lv := 3) D_is_below (hr.mono (by decide)) passB (jl_cons (j_var 3) (jl_cons (j_bin' op_addA o_add (j_var 2) j_int) jl_nil))) (j_and (j_callD (lv := 3) D_is_below (hr.mono (by decide)) passB (jl_cons (j_var 4) (jl_cons (j_var 1) jl_nil))) (j_one (j_callD (lv := 3) D_is_below (hr.mono (by decide)) passB (jl_cons (j_var 5) (jl_cons j_int jl_nil)))))))
theorem d_is_look {C_Rota : Addr} {C_Season : Addr} {C_Course : Addr} {fa : Addr} {fd : FuncData} (F : Fun K "is_look" "is_look" s_is_look fa fd) (h1 : mg "is_look" = some (.ref fa)) (h2 : PySem.W.keepIn K (.ref fa) = true) (b : Binds K fd ["look", "wheels", "days"] []) (T : Bl mg) (Z_Rota : Tx_Rota K mg C_Rota) (Z_Season : Tx_Season K mg C_Season) (Z_Course : Tx_Course K mg C_Course) (D_is_below : Df P w K mg base CT0 BB 3 "is_below" 2 ["value", "many"] f_is_below) : Df P w K mg base CT0 BB 4 "is_look" 3 ["look", "wheels", "days"] f_is_look :=
  ⟨⟨fa, fd, fn_def (N := N_is_look) (ps := ["look", "wheels", "days"]) (k := 3) (body := b_is_look) F S_is_look (by decide) fun _ _ _ _ _ _ hr => l_is_look T Z_Rota Z_Season Z_Course D_is_below hr, h1, h2, b⟩, fnOf_len⟩
abbrev N_are_looks : List Str := ["looks", "wheels", "days", "look"]
def C0_are_looks : SemN := nLc [3] (iSeq (fVar 0)) (tgName 3) fYes (fCall f_is_look [] (lCons (fVar 3) (lCons (fVar 1) (lCons (fVar 2) lNil))))
def S0_are_looks : SSem := (sRet (fAnd (fCall f_is_sequence [] (lCons (fVar 0) lNil)) (fUn pAll (fNew C0_are_looks))))
def K0_are_looks : SSem := sSeq S0_are_looks sNil
def b_are_looks : SSem := K0_are_looks
def f_are_looks : List AV → T AV := fnOf 3 4 b_are_looks
theorem S_are_looks : FnScope N_are_looks ["looks", "wheels", "days"] (defScope s_are_looks) := ⟨rfl, rfl, rfl, by decide +kernel, rfl, by decide +kernel, by decide +kernel⟩
theorem l_are_looks {C_Rota : Addr} {C_Season : Addr} {C_Course : Addr} (T : Bl mg) (Z_Rota : Tx_Rota K mg C_Rota) (Z_Season : Tx_Season K mg C_Season) (Z_Course : Tx_Course K mg C_Course) (D_is_sequence : Df P w K mg base CT0 BB 1 "is_sequence" 1 ["value"] f_is_sequence) (D_is_look : Df P w K mg base CT0 BB 4 "is_look" 3 ["look", "wheels", "days"] f_is_look) {f : Addr} {cdv : Value} {A : Around} {outer : List Env} {s : Shared} {H : Hp} {E : XK} (hr : Room 4 (A.deeper (envOfC "are_looks" (defScope s_are_looks) s.heap.objs.size f cdv))) :
  JSs (cxOf (L2.CX P w) P w K mg base N_are_looks "are_looks" (defScope s_are_looks) f cdv A outer s H E) CT0 BB E (defBody s_are_looks) b_are_looks := by
  have S := S_are_looks
  have h64 : (A.deeper (envOfC "are_looks" (defScope s_are_looks) s.heap.objs.size f cdv)).units + 64 < cLine := by
    have := hr.un
    omega
  have h65 : (A.deeper (envOfC "are_looks" (defScope s_are_looks) s.heap.objs.size f cdv)).units + 65 < cLine := by
    have := hr.un
    omega
  have h1 : (A.deeper (envOfC "are_looks" (defScope s_are_looks) s.heap.objs.size f cdv)).units + 1 < cLine := by
    have := hr.un
    omega
  refine js_cons ?_ js_nil
  · exact (js_ret (j_and (j_callD (lv := 1) D_is_sequence (hr.mono (by decide)) passB (jl_cons (j_var 0) jl_nil)) (j_one (j_callB (cr_all rfl) o_all (by rfl) T.n_all (by decide +kernel) (j_new (jn_lc (own := [("look", 3)]) (by rfl) S.nd (blkOk_by (N := N_are_looks) (sc := defScope s_are_looks) (by decide +kernel)) (by decide) (ji_seq (j_var 0)) (fun _ _ _ _ _ => (jg_name 3 S.nd)) (fun _ _ _ _ _ => jts_nil) (fun _ _ _ _ _ => (j_callD (lv := 4) D_is_look (hr.mono (by decide)) passE0 (jl_cons (j_var 3) (jl_cons (j_var 1) (jl_cons (j_var 2) jl_nil)))))))))))
theorem d_are_looks {C_Rota : Addr} {C_Season : Addr} {C_Course : Addr} {fa : Addr} {fd : FuncData} (F : Fun K "are_looks" "are_looks" s_are_looks fa fd) (h1 : mg "are_looks" = some (.ref fa)) (h2 : PySem.W.keepIn K (.ref fa) = true) (b : Binds K fd ["looks", "wheels", "days"] []) (T : Bl mg) (Z_Rota : Tx_Rota K mg C_Rota) (Z_Season : Tx_Season K mg C_Season) (Z_Course : Tx_Course K mg C_Course) (D_is_sequence : Df P w K mg base CT0 BB 1 "is_sequence" 1 ["value"] f_is_sequence) (D_is_look : Df P w K mg base CT0 BB 4 "is_look" 3 ["look", "wheels", "days"] f_is_look) : Df P w K mg base CT0 BB 5 "are_looks" 3 ["looks", "wheels", "days"] f_are_looks :=
  ⟨⟨fa, fd, fn_def (N := N_are_looks) (ps := ["looks", "wheels", "days"]) (k := 4) (body := b_are_looks) F S_are_looks (by decide) fun _ _ _ _ _ _ hr => l_are_looks T Z_Rota Z_Season Z_Course D_is_sequence D_is_look hr, h1, h2, b⟩, fnOf_len⟩
abbrev N_round_spots : List Str := ["rota", "wheel", "spots", "spot", "_", "moves"]
def S2w0f0_round_spots : SSem := (sExpr (fAppend 2 (fVar 3)))
def S2w0f1_round_spots : SSem := (sSet 3 (fBin pIx (fVar 5) (fVar 3)))
def K2w0f1_round_spots : SSem := sSeq S2w0f1_round_spots sNil
def K2w0f0_round_spots : SSem := sSeq S2w0f0_round_spots K2w0f1_round_spots
def S2w0_round_spots : SSem := (sFor (iSeq (fUn (pFld 0 1) (fVar 0))) (tgTup 2 (tgCons (tgName 4) (tgCons (tgName 5) tgNil))) K2w0f0_round_spots)
def K2w0_round_spots : SSem := sSeq S2w0_round_spots sNil
def S0_round_spots : SSem := (sSetN 2 (nLst lNil))
def S1_round_spots : SSem := (sSet 3 (fVar 1))
def S2_round_spots : SSem := (whileL (fOrT (fNotT (fTru (fVar 2))) (fBlT (fBin pNe (fVar 3) (fVar 1)))) K2w0_round_spots FUEL)
def S3_round_spots : SSem := (sRet (fVar 2))
def K3_round_spots : SSem := sSeq S3_round_spots sNil
def K2_round_spots : SSem := sSeq S2_round_spots K3_round_spots
def K1_round_spots : SSem := sSeq S1_round_spots K2_round_spots
def K0_round_spots : SSem := sSeq S0_round_spots K1_round_spots
def b_round_spots : SSem := K0_round_spots
def f_round_spots : List AV → T AV := fnOf 2 6 b_round_spots
theorem S_round_spots : FnScope N_round_spots ["rota", "wheel"] (defScope s_round_spots) := ⟨rfl, rfl, rfl, by decide +kernel, rfl, by decide +kernel, by decide +kernel⟩
theorem l_round_spots {C_Rota : Addr} {C_Season : Addr} {C_Course : Addr} (T : Bl mg) (Z_Rota : Tx_Rota K mg C_Rota) (Z_Season : Tx_Season K mg C_Season) (Z_Course : Tx_Course K mg C_Course) {f : Addr} {cdv : Value} {A : Around} {outer : List Env} {s : Shared} {H : Hp} {E : XK} (hr : Room 0 (A.deeper (envOfC "round_spots" (defScope s_round_spots) s.heap.objs.size f cdv))) :
  JSs (cxOf (L2.CX P w) P w K mg base N_round_spots "round_spots" (defScope s_round_spots) f cdv A outer s H E) CT0 BB E (defBody s_round_spots) b_round_spots := by
  have S := S_round_spots
  have h64 : (A.deeper (envOfC "round_spots" (defScope s_round_spots) s.heap.objs.size f cdv)).units + 64 < cLine := by
    have := hr.un
    omega
  have h65 : (A.deeper (envOfC "round_spots" (defScope s_round_spots) s.heap.objs.size f cdv)).units + 65 < cLine := by
    have := hr.un
    omega
  have h1 : (A.deeper (envOfC "round_spots" (defScope s_round_spots) s.heap.objs.size f cdv)).units + 1 < cLine := by
    have := hr.un
    omega
  refine js_cons ?_ (js_cons ?_ (js_cons ?_ (js_cons ?_ js_nil)))
  · exact (js_setN 2 (jn_lst jl_nil) S.nd)
  · exact (js_set 3 (j_var 1) S.nd)
  · refine js_while FUEL passOwnB (jw_pt (jw_or (jt_not (jt_truth (j_var 2))) (jw_or1 (jt_cmp (op_neD h64) o_ne.op (j_var 3) (j_var 1) (nomark _))))) ?_
    refine js_cons ?_ js_nil
    · refine js_for passOwnB (by rfl) (ji_seq (j_fld (fld_Rota_rows Z_Rota) (j_var 0))) (jg_tup (by rfl) (jg_cons (jg_name 4 S.nd) (jg_cons (jg_name 5 S.nd) jg_nil))) ?_
      refine js_cons ?_ (js_cons ?_ js_nil)
      · exact (js_expr (j_append 2 (j_var 3) (fun te he => pe_bm PySem.F.plainAttrs_list PySem.F.slot_list_append PySem.F.type_list_append mt_append (pv 2) (pa_cons he pa_nil))))
      · exact (js_set 3 (j_ix (j_var 5) (j_var 3)) S.nd)
  · exact (js_ret (j_var 2))
theorem d_round_spots {C_Rota : Addr} {C_Season : Addr} {C_Course : Addr} {fa : Addr} {fd : FuncData} (F : Fun K "round_spots" "round_spots" s_round_spots fa fd) (h1 : mg "round_spots" = some (.ref fa)) (h2 : PySem.W.keepIn K (.ref fa) = true) (b : Binds K fd ["rota", "wheel"] []) (T : Bl mg) (Z_Rota : Tx_Rota K mg C_Rota) (Z_Season : Tx_Season K mg C_Season) (Z_Course : Tx_Course K mg C_Course) : Df P w K mg base CT0 BB 1 "round_spots" 2 ["rota", "wheel"] f_round_spots :=
  ⟨⟨fa, fd, fn_def (N := N_round_spots) (ps := ["rota", "wheel"]) (k := 0) (body := b_round_spots) F S_round_spots (by decide) fun _ _ _ _ _ _ hr => l_round_spots T Z_Rota Z_Season Z_Course  hr, h1, h2, b⟩, fnOf_len⟩
abbrev N_Rota_len : List Str := ["self"]
def S0_Rota_len : SSem := (sRet (fUn pLen (fUn (pFld 0 1) (fVar 0))))
def K0_Rota_len : SSem := sSeq S0_Rota_len sNil
def b_Rota_len : SSem := K0_Rota_len
def f_Rota_len : List AV → T AV := fnOf 1 1 b_Rota_len
theorem S_Rota_len : FnScope N_Rota_len ["self"] (defScope s_Rota_len) := ⟨rfl, rfl, rfl, by decide +kernel, rfl, by decide +kernel, by decide +kernel⟩
theorem l_Rota_len {C_Rota : Addr} {C_Season : Addr} {C_Course : Addr} (T : Bl mg) (Z_Rota : Tx_Rota K mg C_Rota) (Z_Season : Tx_Season K mg C_Season) (Z_Course : Tx_Course K mg C_Course) {f : Addr} {cdv : Value} {A : Around} {outer : List Env} {s : Shared} {H : Hp} {E : XK} (hr : Room 0 (A.deeper (envOfC "Rota.__len__" (defScope s_Rota_len) s.heap.objs.size f cdv))) :
  JSs (cxOf (L2.CX P w) P w K mg base N_Rota_len "Rota.__len__" (defScope s_Rota_len) f cdv A outer s H E) CT0 BB E (defBody s_Rota_len) b_Rota_len := by
  have S := S_Rota_len
  have h64 : (A.deeper (envOfC "Rota.__len__" (defScope s_Rota_len) s.heap.objs.size f cdv)).units + 64 < cLine := by
    have := hr.un
    omega
  have h65 : (A.deeper (envOfC "Rota.__len__" (defScope s_Rota_len) s.heap.objs.size f cdv)).units + 65 < cLine := by
    have := hr.un
    omega
  have h1 : (A.deeper (envOfC "Rota.__len__" (defScope s_Rota_len) s.heap.objs.size f cdv)).units + 1 < cLine := by
    have := hr.un
    omega
  refine js_cons ?_ js_nil
  · exact (js_ret (j_callB call_len o_len (by rfl) T.n_len (by decide +kernel) (j_fld (fld_Rota_rows Z_Rota) (j_var 0))))
theorem d_Rota_len {C_Rota : Addr} {C_Season : Addr} {C_Course : Addr} {fa : Addr} {fd : FuncData} (F : Fun K "__len__" "Rota.__len__" s_Rota_len fa fd) (M : Meth K C_Rota "__len__" fa) (b : Binds K fd ["self"] []) (T : Bl mg) (Z_Rota : Tx_Rota K mg C_Rota) (Z_Season : Tx_Season K mg C_Season) (Z_Course : Tx_Course K mg C_Course) : Mf P w K mg base CT0 BB 1 0 "__len__" 1 ["self"] f_Rota_len :=
  ⟨⟨C_Rota, fa, fd, fn_def (N := N_Rota_len) (ps := ["self"]) (k := 0) (body := b_Rota_len) F S_Rota_len (by decide) fun _ _ _ _ _ _ hr => l_Rota_len T Z_Rota Z_Season Z_Course  hr, b, Z_Rota.cl, M, Z_Rota.mgC⟩, by decide +kernel, fnOf_len⟩
abbrev N_dues_ahead : List Str := ["rota", "wheel", "day", "spots", "due"]
def C0_dues_ahead : SemN := nLc [4] (iRange1 (fVar 2)) (tgName 4) (fBlT (fBin pIn (fBin pIx (fVar 3) (fBin pMod (fVar 4) (fUn pLen (fVar 3)))) (fBin pIx (fBin pIx (fUn (pFld 0 1) (fVar 0)) (fBin pMod (fVar 4) (fLenOwn 0 f_Rota_len (fVar 0)))) (fC (.int 0))))) (fVar 4)
def S0_dues_ahead : SSem := (sSet 3 (fCall f_round_spots [] (lCons (fVar 0) (lCons (fVar 1) lNil))))
def S1_dues_ahead : SSem := (sRet (fNew C0_dues_ahead))
def K1_dues_ahead : SSem := sSeq S1_dues_ahead sNil
def K0_dues_ahead : SSem := sSeq S0_dues_ahead K1_dues_ahead
def b_dues_ahead : SSem := K0_dues_ahead
def f_dues_ahead : List AV → T AV := fnOf 3 5 b_dues_ahead
theorem S_dues_ahead : FnScope N_dues_ahead ["rota", "wheel", "day"] (defScope s_dues_ahead) := ⟨rfl, rfl, rfl, by decide +kernel, rfl, by decide +kernel, by decide +kernel⟩
theorem l_dues_ahead {C_Rota : Addr} {C_Season : Addr} {C_Course : Addr} (T : Bl mg) (Z_Rota : Tx_Rota K mg C_Rota) (Z_Season : Tx_Season K mg C_Season) (Z_Course : Tx_Course K mg C_Course) (D_round_spots : Df P w K mg base CT0 BB 1 "round_spots" 2 ["rota", "wheel"] f_round_spots) (D_Rota_len : Mf P w K mg base CT0 BB 1 0 "__len__" 1 ["self"] f_Rota_len) {f : Addr} {cdv : Value} {A : Around} {outer : List Env} {s : Shared} {H : Hp} {E : XK} (hr : Room 2 (A.deeper (envOfC "dues_ahead" (defScope s_dues_ahead) s.heap.objs.size f cdv))) :
  JSs (cxOf (L2.CX P w) P w K mg base N_dues_ahead "dues_ahead" (defScope s_dues_ahead) f cdv A outer s H E) CT0 BB E (defBody s_dues_ahead) b_dues_ahead := by
  have S := S_dues_ahead
  have h64 : (A.deeper (envOfC "dues_ahead" (defScope s_dues_ahead) s.heap.objs.size f cdv)).units + 64 < cLine := by
    have := hr.un
    omega
  have h65 : (A.deeper (envOfC "dues_ahead" (defScope s_dues_ahead) s.heap.objs.size f cdv)).units + 65 < cLine := by
    have := hr.un
    omega
  have h1 : (A.deeper (envOfC "dues_ahead" (defScope s_dues_ahead) s.heap.objs.size f cdv)).units + 1 < cLine := by
    have := hr.un
    omega
  refine js_cons ?_ (js_cons ?_ js_nil)
  · exact (js_set 3 (j_callD (lv := 1) D_round_spots (hr.mono (by decide)) passB (jl_cons (j_var 0) (jl_cons (j_var 1) jl_nil))) S.nd)
  · exact (js_ret (j_new (jn_lc (own := [("due", 4)]) (by rfl) S.nd (blkOk_by (N := N_dues_ahead) (sc := defScope s_dues_ahead) (by decide +kernel)) (by decide) (ji_range1 (by rfl) T.n_range (j_var 2)) (fun _ _ _ _ _ => (jg_name 4 S.nd)) (fun _ _ _ _ _ => (jts_one (jt_cmp ((op_inD h65).or (op_inT h65)) o_in.op (j_ix (j_var 3) (j_bin op_mod o_mod (j_var 4) (j_callB call_len o_len (by rfl) T.n_len (by decide +kernel) (j_var 3)))) (j_ix (j_ix (j_fld (fld_Rota_rows Z_Rota) (j_var 0)) (j_bin op_mod o_mod (j_var 4) (j_lenOwn (lv := 1) D_Rota_len (hr.mono (by decide)) passE0 T.n_len (j_var 0)))) j_int) rfl))) (fun _ _ _ _ _ => (j_var 4)))))
theorem d_dues_ahead {C_Rota : Addr} {C_Season : Addr} {C_Course : Addr} {fa : Addr} {fd : FuncData} (F : Fun K "dues_ahead" "dues_ahead" s_dues_ahead fa fd) (h1 : mg "dues_ahead" = some (.ref fa)) (h2 : PySem.W.keepIn K (.ref fa) = true) (b : Binds K fd ["rota", "wheel", "day"] []) (T : Bl mg) (Z_Rota : Tx_Rota K mg C_Rota) (Z_Season : Tx_Season K mg C_Season) (Z_Course : Tx_Course K mg C_Course) (D_round_spots : Df P w K mg base CT0 BB 1 "round_spots" 2 ["rota", "wheel"] f_round_spots) (D_Rota_len : Mf P w K mg base CT0 BB 1 0 "__len__" 1 ["self"] f_Rota_len) : Df P w K mg base CT0 BB 3 "dues_ahead" 3 ["rota", "wheel", "day"] f_dues_ahead :=
  ⟨⟨fa, fd, fn_def (N := N_dues_ahead) (ps := ["rota", "wheel", "day"]) (k := 2) (body := b_dues_ahead) F S_dues_ahead (by decide) fun _ _ _ _ _ _ hr => l_dues_ahead T Z_Rota Z_Season Z_Course D_round_spots D_Rota_len hr, h1, h2, b⟩, fnOf_len⟩
abbrev N_Season_init : List Str := ["self", "rota", "days", "budget", "looks", "wheel", "due", "day"]
def S0t0_Season_init : SSem := sBad
def K0t0_Season_init : SSem := sSeq S0t0_Season_init sNil
def S1t0_Season_init : SSem := sBad
def K1t0_Season_init : SSem := sSeq S1t0_Season_init sNil
def S2t0_Season_init : SSem := sBad
def K2t0_Season_init : SSem := sSeq S2t0_Season_init sNil
def C0_Season_init : SemN := nLc [5] (iRange1 (fUn (pFld 0 0) (fVar 1))) (tgName 5) fYes (fUn pTuple (fCall f_dues_ahead [] (lCons (fVar 1) (lCons (fVar 5) (lCons (fVar 2) lNil)))))
def C1_Season_init : SemN := nLc2 [5, 6, 7] [7] (iEnum (fSelf 0 1 5)) (tgTup 2 (tgCons (tgName 5) (tgCons (tgName 6) tgNil))) fYes (iSeq (fVar 6)) (tgName 7) fYes (fTup (lCons (fVar 7) (lCons (fVar 5) lNil)))
def S0_Season_init : SSem := (sIf (fNotT (fTru (fCall f_is_whole [] (lCons (fVar 2) (lCons (fC (.int 1)) lNil))))) K0t0_Season_init sNil)
def S1_Season_init : SSem := (sIf (fNotT (fTru (fCall f_is_whole [] (lCons (fVar 3) (lCons (fC (.int 0)) lNil))))) K1t0_Season_init sNil)
def S2_Season_init : SSem := (sIf (fNotT (fTru (fCall f_are_looks [] (lCons (fVar 4) (lCons (fUn (pFld 0 0) (fVar 1)) (lCons (fVar 2) lNil)))))) K2t0_Season_init sNil)
def S3_Season_init : SSem := (sFldSet 0 1 0 (fVar 1))
def S4_Season_init : SSem := (sFldSet 0 1 1 (fVar 2))
def S5_Season_init : SSem := (sFldSet 0 1 2 (fVar 3))
def S6_Season_init : SSem := (sFldSet 0 1 3 (fUn pTuple (fUn pSortSet (fVar 4))))
def S7_Season_init : SSem := (sFldSet 0 1 4 (fUn (pFld 0 0) (fVar 1)))
def S8_Season_init : SSem := (sFldSet 0 1 5 (fUn pTuple (fNew C0_Season_init)))
def S9_Season_init : SSem := (sFldSet 0 1 6 (fUn pTuple (fUn pSortP (fNew C1_Season_init))))
def K9_Season_init : SSem := sSeq S9_Season_init sNil
def K8_Season_init : SSem := sSeq S8_Season_init K9_Season_init
def K7_Season_init : SSem := sSeq S7_Season_init K8_Season_init
def K6_Season_init : SSem := sSeq S6_Season_init K7_Season_init
def K5_Season_init : SSem := sSeq S5_Season_init K6_Season_init
def K4_Season_init : SSem := sSeq S4_Season_init K5_Season_init
def K3_Season_init : SSem := sSeq S3_Season_init K4_Season_init
def K2_Season_init : SSem := sSeq S2_Season_init K3_Season_init
def K1_Season_init : SSem := sSeq S1_Season_init K2_Season_init
def K0_Season_init : SSem := sSeq S0_Season_init K1_Season_init
def b_Season : SSem := K0_Season_init
def f_Season : List AV → T AV := fnInit 4 8 1 7 b_Season
theorem S_Season : FnScope N_Season_init ["self", "rota", "days", "budget", "looks"] (defScope s_Season_init) := ⟨rfl, rfl, rfl, by decide +kernel, rfl, by decide +kernel, by decide +kernel⟩
theorem l_Season {C_Rota : Addr} {C_Season : Addr} {C_Course : Addr} (T : Bl mg) (Z_Rota : Tx_Rota K mg C_Rota) (Z_Season : Tx_Season K mg C_Season) (Z_Course : Tx_Course K mg C_Course) (D_is_whole : Df P w K mg base CT0 BB 2 "is_whole" 2 ["value", "least"] f_is_whole) (D_are_looks : Df P w K mg base CT0 BB 5 "are_looks" 3 ["looks", "wheels", "days"] f_are_looks) (D_dues_ahead : Df P w K mg base CT0 BB 3 "dues_ahead" 3 ["rota", "wheel", "day"] f_dues_ahead) {f : Addr} {cdv : Value} {A : Around} {outer : List Env} {s : Shared} {H : Hp} {E : XK} (hr : Room 5 (A.deeper (envOfC "Season.__init__" (defScope s_Season_init) s.heap.objs.size f cdv))) :
  JSs (cxOf (L2.CX P w) P w K mg base N_Season_init "Season.__init__" (defScope s_Season_init) f cdv A outer s H E) CT0 BB E (defBody s_Season_init) b_Season := by
  have S := S_Season
  have h64 : (A.deeper (envOfC "Season.__init__" (defScope s_Season_init) s.heap.objs.size f cdv)).units + 64 < cLine := by
    have := hr.un
    omega
  have h65 : (A.deeper (envOfC "Season.__init__" (defScope s_Season_init) s.heap.objs.size f cdv)).units + 65 < cLine := by
    have := hr.un
    omega
  have h1 : (A.deeper (envOfC "Season.__init__" (defScope s_Season_init) s.heap.objs.size f cdv)).units + 1 < cLine := by
    have := hr.un
    omega
  refine js_cons ?_ (js_cons ?_ (js_cons ?_ (js_cons ?_ (js_cons ?_ (js_cons ?_ (js_cons ?_ (js_cons ?_ (js_cons ?_ (js_cons ?_ js_nil)))))))))
  · refine js_if (jt_not (jt_truth (j_callD (lv := 2) D_is_whole (hr.mono (by decide)) passB (jl_cons (j_var 2) (jl_cons j_int jl_nil))))) ?_ ?_
    · refine js_cons ?_ js_nil
      · exact js_bad
    · exact js_nil
  · refine js_if (jt_not (jt_truth (j_callD (lv := 2) D_is_whole (hr.mono (by decide)) passB (jl_cons (j_var 3) (jl_cons j_int jl_nil))))) ?_ ?_
    · refine js_cons ?_ js_nil
      · exact js_bad
    · exact js_nil
  · refine js_if (jt_not (jt_truth (j_callD (lv := 5) D_are_looks (hr.mono (by decide)) passB (jl_cons (j_var 4) (jl_cons (j_fld (fld_Rota_places Z_Rota) (j_var 1)) (jl_cons (j_var 2) jl_nil)))))) ?_ ?_
    · refine js_cons ?_ js_nil
      · exact js_bad
    · exact js_nil
  · exact (js_fld 0 (fld_Season_rota Z_Season) (j_var 1) (by decide))
  · exact (js_fld 0 (fld_Season_days Z_Season) (j_var 2) (by decide))
  · exact (js_fld 0 (fld_Season_budget Z_Season) (j_var 3) (by decide))
  · exact (js_fld 0 (fld_Season_looks Z_Season) (j_callTy call_tuple_of o_tuple (by rfl) T.n_tuple (by decide +kernel) (j_sortSet h64 (by rfl) T.n_sorted (by rfl) T.n_set (j_var 4))) (by decide))
  · exact (js_fld 0 (fld_Season_wheels Z_Season) (j_fld (fld_Rota_places Z_Rota) (j_var 1)) (by decide))
  · exact (js_fld 0 (fld_Season_turnings Z_Season) (j_callTy call_tuple_of o_tuple (by rfl) T.n_tuple (by decide +kernel) (j_new (jn_lc (own := [("wheel", 5)]) (by rfl) S.nd (blkOk_by (N := N_Season_init) (sc := defScope s_Season_init) (by decide +kernel)) (by decide) (ji_range1 (by rfl) T.n_range (j_fld (fld_Rota_places Z_Rota) (j_var 1))) (fun _ _ _ _ _ => (jg_name 5 S.nd)) (fun _ _ _ _ _ => jts_nil) (fun _ _ _ _ _ => (j_callTy call_tuple_of o_tuple (by rfl) T.n_tuple (by decide +kernel) (j_callD (lv := 3) D_dues_ahead (hr.mono (by decide)) passE0 (jl_cons (j_var 1) (jl_cons (j_var 5) (jl_cons (j_var 2) jl_nil))))))))) (by decide))
  · exact (js_fld 0 (fld_Season_due Z_Season) (j_callTy call_tuple_of o_tuple (by rfl) T.n_tuple (by decide +kernel) (j_callB cr_sortedPO o_sortP (by rfl) T.n_sorted (by decide +kernel) (j_new (jn_lc2 (own := [("wheel", 5), ("due", 6), ("day", 7)]) (by rfl) S.nd (blkOk_by (N := N_Season_init) (sc := defScope s_Season_init) (by decide +kernel)) [7] (by decide) (by decide) (by decide) (ji_enumA (by rfl) T.n_enumerate (j_sfld 0 (fld_Season_turnings Z_Season) (pv 0))) (fun _ _ _ _ _ => (jg_tup (by rfl) (jg_cons (jg_name 5 S.nd) (jg_cons (jg_name 6 S.nd) jg_nil)))) (fun _ _ _ _ _ => jts_nil) (fun _ _ _ _ _ => (ji_seq (j_var 6))) (fun _ _ _ _ _ => (jg_name 7 S.nd)) (fun _ _ _ _ _ => jts_nil) (fun _ _ _ _ _ => (j_tup (jl_cons (j_var 7) (jl_cons (j_var 5) jl_nil)))))))) (by decide))
theorem d_Season {C_Rota : Addr} {C_Season : Addr} {C_Course : Addr} {fa U : Addr} {fd : FuncData} (F : FunD K "__init__" "Season.__init__" (defArgs s_Season_init) (defBody s_Season_init) (defScope s_Season_init) [.ref U] [] fa fd) (M : Mk K C_Season fa) (hU : Deft ⟨K, mg, CT0⟩ [.tup []] [.ref U]) (T : Bl mg) (Z_Rota : Tx_Rota K mg C_Rota) (Z_Season : Tx_Season K mg C_Season) (Z_Course : Tx_Course K mg C_Course) (D_is_whole : Df P w K mg base CT0 BB 2 "is_whole" 2 ["value", "least"] f_is_whole) (D_are_looks : Df P w K mg base CT0 BB 5 "are_looks" 3 ["looks", "wheels", "days"] f_are_looks) (D_dues_ahead : Df P w K mg base CT0 BB 3 "dues_ahead" 3 ["rota", "wheel", "day"] f_dues_ahead) : CfD P w K mg base CT0 BB 6 "Season" 1 4 ["self", "rota", "days", "budget", "looks"] [.tup []] f_Season := by
  obtain ⟨d0, v0, b0⟩ := F.binds1 (ps := ["self", "rota", "days", "budget", "looks"]) 5 1 (by simp) rfl fun _ _ _ _ _ _ _ us its h1 h2 => match us, its, h1, h2 with | [_, _, _, _, _], [_], _, _ => ⟨_, rfl, rfl⟩
  obtain ⟨d1, v1, b1⟩ := F.binds1 (ps := ["self", "rota", "days", "budget", "looks"]) 4 0 (by simp) rfl fun _ _ _ _ _ _ _ us its h1 h2 => match us, its, h1, h2 with | [_, _, _, _], [_], _, _ => ⟨_, rfl, rfl⟩
  cases v0
  exact ⟨⟨C_Season, fa, fd, M, init_defD F S_Season (by decide) (by decide) fun _ _ _ _ _ _ hr => l_Season T Z_Rota Z_Season Z_Course D_is_whole D_are_looks D_dues_ahead hr, Z_Season.mgC, b0, d1, _, b1, v1, hU⟩, rfl, fnInit_len⟩
abbrev N_days_between : List Str := ["days", "first", "last", "day"]
def C0_days_between : SemN := nLc [3] (iSeq (fVar 0)) (tgName 3) (fBlT (fChain pLe pLt (fVar 1) (fVar 3) (fVar 2))) (fVar 3)
def S0_days_between : SSem := (sRet (fNew C0_days_between))
def K0_days_between : SSem := sSeq S0_days_between sNil
def b_days_between : SSem := K0_days_between
def f_days_between : List AV → T AV := fnOf 3 4 b_days_between
theorem S_days_between : FnScope N_days_between ["days", "first", "last"] (defScope s_days_between) := ⟨rfl, rfl, rfl, by decide +kernel, rfl, by decide +kernel, by decide +kernel⟩
theorem l_days_between {C_Rota : Addr} {C_Season : Addr} {C_Course : Addr} (T : Bl mg) (Z_Rota : Tx_Rota K mg C_Rota) (Z_Season : Tx_Season K mg C_Season) (Z_Course : Tx_Course K mg C_Course) {f : Addr} {cdv : Value} {A : Around} {outer : List Env} {s : Shared} {H : Hp} {E : XK} (hr : Room 0 (A.deeper (envOfC "days_between" (defScope s_days_between) s.heap.objs.size f cdv))) :
  JSs (cxOf (L2.CX P w) P w K mg base N_days_between "days_between" (defScope s_days_between) f cdv A outer s H E) CT0 BB E (defBody s_days_between) b_days_between := by
  have S := S_days_between
  have h64 : (A.deeper (envOfC "days_between" (defScope s_days_between) s.heap.objs.size f cdv)).units + 64 < cLine := by
    have := hr.un
    omega
  have h65 : (A.deeper (envOfC "days_between" (defScope s_days_between) s.heap.objs.size f cdv)).units + 65 < cLine := by
    have := hr.un
    omega
  have h1 : (A.deeper (envOfC "days_between" (defScope s_days_between) s.heap.objs.size f cdv)).units + 1 < cLine := by
    have := hr.un
    omega
  refine js_cons ?_ js_nil
  · exact (js_ret (j_new (jn_lc (own := [("day", 3)]) (by rfl) S.nd (blkOk_by (N := N_days_between) (sc := defScope s_days_between) (by decide +kernel)) (by decide) (ji_seq (j_var 0)) (fun _ _ _ _ _ => (jg_name 3 S.nd)) (fun _ _ _ _ _ => (jts_one (jt_chain op_le o_le op_lt o_lt.op (j_var 1) (j_var 3) (j_var 2)))) (fun _ _ _ _ _ => (j_var 3)))))
theorem d_days_between {C_Rota : Addr} {C_Season : Addr} {C_Course : Addr} {fa : Addr} {fd : FuncData} (F : Fun K "days_between" "days_between" s_days_between fa fd) (h1 : mg "days_between" = some (.ref fa)) (h2 : PySem.W.keepIn K (.ref fa) = true) (b : Binds K fd ["days", "first", "last"] []) (T : Bl mg) (Z_Rota : Tx_Rota K mg C_Rota) (Z_Season : Tx_Season K mg C_Season) (Z_Course : Tx_Course K mg C_Course) : Df P w K mg base CT0 BB 1 "days_between" 3 ["days", "first", "last"] f_days_between :=
  ⟨⟨fa, fd, fn_def (N := N_days_between) (ps := ["days", "first", "last"]) (k := 0) (body := b_days_between) F S_days_between (by decide) fun _ _ _ _ _ _ hr => l_days_between T Z_Rota Z_Season Z_Course  hr, h1, h2, b⟩, fnOf_len⟩
abbrev N_parts : List Str := ["season", "wheel", "found", "first", "up", "day", "seen_wheel", "seen_up", "days"]
def S2f0t0_parts : SSem := (sSet 8 (fCall f_days_between [] (lCons (fBin pIx (fUn (pFld 1 5) (fVar 0)) (fVar 1)) (lCons (fVar 3) (lCons (fVar 5) lNil)))))
def S2f0t1_parts : SSem := (sExpr (fAppend 2 (fTup (lCons (fVar 3) (lCons (fVar 5) (lCons (fBin pEq (fBin pMod (fBin pAdd (fBin pAdd (fUn pLen (fVar 8)) (fVar 4)) (fVar 7)) (fC (.int 2))) (fC (.int 1))) (lCons (fVar 8) lNil)))))))
def S2f0t2_parts : SSem := (sPar 3 4 (lCons (fVar 5) (lCons (fVar 7) lNil)))
def K2f0t2_parts : SSem := sSeq S2f0t2_parts sNil
def K2f0t1_parts : SSem := sSeq S2f0t1_parts K2f0t2_parts
def K2f0t0_parts : SSem := sSeq S2f0t0_parts K2f0t1_parts
def S2f0_parts : SSem := (sIf (fBlT (fBin pEq (fVar 6) (fVar 1))) K2f0t0_parts sNil)
def K2f0_parts : SSem := sSeq S2f0_parts sNil
def S0_parts : SSem := (sSetN 2 (nLst lNil))
def S1_parts : SSem := (sMix [3, 4] (mF (fC (.int 0)) (mF (fC (.int 0)) mNil)))
def S2_parts : SSem := (sFor (iSeq (fUn (pFld 1 3) (fVar 0))) (tgTup 3 (tgCons (tgName 5) (tgCons (tgName 6) (tgCons (tgName 7) tgNil)))) K2f0_parts)
def S3_parts : SSem := (sExpr (fAppend 2 (fTup (lCons (fVar 3) (lCons (fUn (pFld 1 1) (fVar 0)) (lCons (fC .non) (lCons (fCall f_days_between [] (lCons (fBin pIx (fUn (pFld 1 5) (fVar 0)) (fVar 1)) (lCons (fVar 3) (lCons (fUn (pFld 1 1) (fVar 0)) lNil)))) lNil)))))))
def S4_parts : SSem := (sRet (fVar 2))
def K4_parts : SSem := sSeq S4_parts sNil
def K3_parts : SSem := sSeq S3_parts K4_parts
def K2_parts : SSem := sSeq S2_parts K3_parts
def K1_parts : SSem := sSeq S1_parts K2_parts
def K0_parts : SSem := sSeq S0_parts K1_parts
def b_parts : SSem := K0_parts
def f_parts : List AV → T AV := fnOf 2 9 b_parts
theorem S_parts : FnScope N_parts ["season", "wheel"] (defScope s_parts) := ⟨rfl, rfl, rfl, by decide +kernel, rfl, by decide +kernel, by decide +kernel⟩
theorem l_parts {C_Rota : Addr} {C_Season : Addr} {C_Course : Addr} (T : Bl mg) (Z_Rota : Tx_Rota K mg C_Rota) (Z_Season : Tx_Season K mg C_Season) (Z_Course : Tx_Course K mg C_Course) (D_days_between : Df P w K mg base CT0 BB 1 "days_between" 3 ["days", "first", "last"] f_days_between) {f : Addr} {cdv : Value} {A : Around} {outer : List Env} {s : Shared} {H : Hp} {E : XK} (hr : Room 1 (A.deeper (envOfC "parts" (defScope s_parts) s.heap.objs.size f cdv))) :
  JSs (cxOf (L2.CX P w) P w K mg base N_parts "parts" (defScope s_parts) f cdv A outer s H E) CT0 BB E (defBody s_parts) b_parts := by
  have S := S_parts
  have h64 : (A.deeper (envOfC "parts" (defScope s_parts) s.heap.objs.size f cdv)).units + 64 < cLine := by
    have := hr.un
    omega
  have h65 : (A.deeper (envOfC "parts" (defScope s_parts) s.heap.objs.size f cdv)).units + 65 < cLine := by
    have := hr.un
    omega
  have h1 : (A.deeper (envOfC "parts" (defScope s_parts) s.heap.objs.size f cdv)).units + 1 < cLine := by
    have := hr.un
    omega
  refine js_cons ?_ (js_cons ?_ (js_cons ?_ (js_cons ?_ (js_cons ?_ js_nil))))
  · exact (js_setN 2 (jn_lst jl_nil) S.nd)
  · exact (js_mix2C 3 4 (by rfl) S.nd (jm_f j_int (jm_f j_int jm_nil)))
  · refine js_for passOwnB (by rfl) (ji_seq (j_fld (fld_Season_looks Z_Season) (j_var 0))) (jg_tup (by rfl) (jg_cons (jg_name 5 S.nd) (jg_cons (jg_name 6 S.nd) (jg_cons (jg_name 7 S.nd) jg_nil)))) ?_
    refine js_cons ?_ js_nil
    · refine js_if (jt_cmp (op_eqD h64) o_eq.op (j_var 6) (j_var 1) (nomark _)) ?_ ?_
      · refine js_cons ?_ (js_cons ?_ (js_cons ?_ js_nil))
        · exact (js_set 8 (j_callD (lv := 1) D_days_between (hr.mono (by decide)) passB (jl_cons (j_ix (j_fld (fld_Season_turnings Z_Season) (j_var 0)) (j_var 1)) (jl_cons (j_var 3) (jl_cons (j_var 5) jl_nil)))) S.nd)
        · exact (js_expr (j_append 2 (j_tup (jl_cons (j_var 3) (jl_cons (j_var 5) (jl_cons (j_cmp (op_eqD h64) o_eq.op (j_bin op_mod o_mod (j_bin' op_addA o_add (j_bin' op_addA o_add (j_callB call_len o_len (by rfl) T.n_len (by decide +kernel) (j_var 8)) (j_var 4)) (j_var 7)) j_int) j_int (nomark _)) (jl_cons (j_var 8) jl_nil))))) (fun te he => pe_bm PySem.F.plainAttrs_list PySem.F.slot_list_append PySem.F.type_list_append mt_append (pv 2) (pa_cons he pa_nil))))
        · exact (js_par 3 4 (by rfl) S.nd (jl_cons (j_var 5) (jl_cons (j_var 7) jl_nil)))
      · exact js_nil
  · exact (js_expr (j_append 2 (j_tup (jl_cons (j_var 3) (jl_cons (j_fld (fld_Season_days Z_Season) (j_var 0)) (jl_cons j_non (jl_cons (j_callD (lv := 1) D_days_between (hr.mono (by decide)) passB (jl_cons (j_ix (j_fld (fld_Season_turnings Z_Season) (j_var 0)) (j_var 1)) (jl_cons (j_var 3) (jl_cons (j_fld (fld_Season_days Z_Season) (j_var 0)) jl_nil)))) jl_nil))))) (fun te he => pe_bm PySem.F.plainAttrs_list PySem.F.slot_list_append PySem.F.type_list_append mt_append (pv 2) (pa_cons he pa_nil))))
  · exact (js_ret (j_var 2))
theorem d_parts {C_Rota : Addr} {C_Season : Addr} {C_Course : Addr} {fa : Addr} {fd : FuncData} (F : Fun K "parts" "parts" s_parts fa fd) (h1 : mg "parts" = some (.ref fa)) (h2 : PySem.W.keepIn K (.ref fa) = true) (b : Binds K fd ["season", "wheel"] []) (T : Bl mg) (Z_Rota : Tx_Rota K mg C_Rota) (Z_Season : Tx_Season K mg C_Season) (Z_Course : Tx_Course K mg C_Course) (D_days_between : Df P w K mg base CT0 BB 1 "days_between" 3 ["days", "first", "last"] f_days_between) : Df P w K mg base CT0 BB 2 "parts" 2 ["season", "wheel"] f_parts :=
  ⟨⟨fa, fd, fn_def (N := N_parts) (ps := ["season", "wheel"]) (k := 1) (body := b_parts) F S_parts (by decide) fun _ _ _ _ _ _ hr => l_parts T Z_Rota Z_Season Z_Course D_days_between hr, h1, h2, b⟩, fnOf_len⟩
abbrev N_odd_stretches : List Str := ["season", "wheel", "_", "odd", "days", "day"]
def C0_odd_stretches : SemN := nLc [5] (iSeq (fVar 4)) (tgName 5) fYes (fTup (lCons (fVar 5) (lCons (fVar 1) lNil)))
def C1_odd_stretches : SemN := nLc2 [1, 2, 3, 4] [2, 3, 4] (iRange1 (fUn (pFld 1 4) (fVar 0))) (tgName 1) fYes (iSeq (fCall f_parts [] (lCons (fVar 0) (lCons (fVar 1) lNil)))) (tgTup 4 (tgCons (tgName 2) (tgCons (tgName 2) (tgCons (tgName 3) (tgCons (tgName 4) tgNil))))) (fTru (fVar 3)) (fNew C0_odd_stretches)
def S0_odd_stretches : SSem := (sRet (fNew C1_odd_stretches))
def K0_odd_stretches : SSem := sSeq S0_odd_stretches sNil
def b_odd_stretches : SSem := K0_odd_stretches
def f_odd_stretches : List AV → T AV := fnOf 1 6 b_odd_stretches
theorem S_odd_stretches : FnScope N_odd_stretches ["season"] (defScope s_odd_stretches) := ⟨rfl, rfl, rfl, by decide +kernel, rfl, by decide +kernel, by decide +kernel⟩
theorem l_odd_stretches {C_Rota : Addr} {C_Season : Addr} {C_Course : Addr} (T : Bl mg) (Z_Rota : Tx_Rota K mg C_Rota) (Z_Season : Tx_Season K mg C_Season) (Z_Course : Tx_Course K mg C_Course) (D_parts : Df P w K mg base CT0 BB 2 "parts" 2 ["season", "wheel"] f_parts) {f : Addr} {cdv : Value} {A : Around} {outer : List Env} {s : Shared} {H : Hp} {E : XK} (hr : Room 2 (A.deeper (envOfC "odd_stretches" (defScope s_odd_stretches) s.heap.objs.size f cdv))) :
  JSs (cxOf (L2.CX P w) P w K mg base N_odd_stretches "odd_stretches" (defScope s_odd_stretches) f cdv A outer s H E) CT0 BB E (defBody s_odd_stretches) b_odd_stretches := by
  have S := S_odd_stretches
  have h64 : (A.deeper (envOfC "odd_stretches" (defScope s_odd_stretches) s.heap.objs.size f cdv)).units + 64 < cLine := by
    have := hr.un
    omega
  have h65 : (A.deeper (envOfC "odd_stretches" (defScope s_odd_stretches) s.heap.objs.size f cdv)).units + 65 < cLine := by
    have := hr.un
    omega
  have h1 : (A.deeper (envOfC "odd_stretches" (defScope s_odd_stretches) s.heap.objs.size f cdv)).units + 1 < cLine := by
    have := hr.un
    omega
  refine js_cons ?_ js_nil
  · exact (js_ret (j_new (jn_lc2 (own := [("wheel", 1), ("_", 2), ("odd", 3), ("days", 4)]) (by rfl) S.nd (blkOk_by (N := N_odd_stretches) (sc := defScope s_odd_stretches) (by decide +kernel)) [2, 3, 4] (by decide) (by decide) (by decide) (ji_range1 (by rfl) T.n_range (j_fld (fld_Season_wheels Z_Season) (j_var 0))) (fun _ _ _ _ _ => (jg_name 1 S.nd)) (fun _ _ _ _ _ => jts_nil) (fun _ _ _ _ _ => (ji_seq (j_callD (lv := 2) D_parts (hr.mono (by decide)) passE0 (jl_cons (j_var 0) (jl_cons (j_var 1) jl_nil))))) (fun _ _ _ _ _ => (jg_tup (by rfl) (jg_cons (jg_name 2 S.nd) (jg_cons (jg_name 2 S.nd) (jg_cons (jg_name 3 S.nd) (jg_cons (jg_name 4 S.nd) jg_nil)))))) (fun _ _ _ _ _ => (jts_one (jt_truth (j_var 3)))) (fun _ _ _ _ _ => (j_new (jn_lc (own := [("day", 5)]) (by rfl) S.nd (blkOk_by (by rfl)) (by decide) (ji_seq (j_var 4)) (fun _ _ _ _ _ => (jg_name 5 S.nd)) (fun _ _ _ _ _ => jts_nil) (fun _ _ _ _ _ => (j_tup (jl_cons (j_var 5) (jl_cons (j_var 1) jl_nil))))))))))
theorem d_odd_stretches {C_Rota : Addr} {C_Season : Addr} {C_Course : Addr} {fa : Addr} {fd : FuncData} (F : Fun K "odd_stretches" "odd_stretches" s_odd_stretches fa fd) (h1 : mg "odd_stretches" = some (.ref fa)) (h2 : PySem.W.keepIn K (.ref fa) = true) (b : Binds K fd ["season"] []) (T : Bl mg) (Z_Rota : Tx_Rota K mg C_Rota) (Z_Season : Tx_Season K mg C_Season) (Z_Course : Tx_Course K mg C_Course) (D_parts : Df P w K mg base CT0 BB 2 "parts" 2 ["season", "wheel"] f_parts) : Df P w K mg base CT0 BB 3 "odd_stretches" 1 ["season"] f_odd_stretches :=
  ⟨⟨fa, fd, fn_def (N := N_odd_stretches) (ps := ["season"]) (k := 2) (body := b_odd_stretches) F S_odd_stretches (by decide) fun _ _ _ _ _ _ hr => l_odd_stretches T Z_Rota Z_Season Z_Course D_parts hr, h1, h2, b⟩, fnOf_len⟩
abbrev N_least : List Str := ["season", "odd"]
def S0_least : SSem := (sSet 1 (fCall f_odd_stretches [] (lCons (fVar 0) lNil)))
def S1_least : SSem := (sRet (fIf (fTru (fUn pAllD (fVar 1))) (fUn pLen (fVar 1)) (fC .non)))
def K1_least : SSem := sSeq S1_least sNil
def K0_least : SSem := sSeq S0_least K1_least
def b_least : SSem := K0_least
def f_least : List AV → T AV := fnOf 1 2 b_least
theorem S_least : FnScope N_least ["season"] (defScope s_least) := ⟨rfl, rfl, rfl, by decide +kernel, rfl, by decide +kernel, by decide +kernel⟩
theorem l_least {C_Rota : Addr} {C_Season : Addr} {C_Course : Addr} (T : Bl mg) (Z_Rota : Tx_Rota K mg C_Rota) (Z_Season : Tx_Season K mg C_Season) (Z_Course : Tx_Course K mg C_Course) (D_odd_stretches : Df P w K mg base CT0 BB 3 "odd_stretches" 1 ["season"] f_odd_stretches) {f : Addr} {cdv : Value} {A : Around} {outer : List Env} {s : Shared} {H : Hp} {E : XK} (hr : Room 3 (A.deeper (envOfC "least" (defScope s_least) s.heap.objs.size f cdv))) :
  JSs (cxOf (L2.CX P w) P w K mg base N_least "least" (defScope s_least) f cdv A outer s H E) CT0 BB E (defBody s_least) b_least := by
  have S := S_least
  have h64 : (A.deeper (envOfC "least" (defScope s_least) s.heap.objs.size f cdv)).units + 64 < cLine := by
    have := hr.un
    omega
  have h65 : (A.deeper (envOfC "least" (defScope s_least) s.heap.objs.size f cdv)).units + 65 < cLine := by
    have := hr.un
    omega
  have h1 : (A.deeper (envOfC "least" (defScope s_least) s.heap.objs.size f cdv)).units + 1 < cLine := by
    have := hr.un
    omega
  refine js_cons ?_ (js_cons ?_ js_nil)
  · exact (js_set 1 (j_callD (lv := 3) D_odd_stretches (hr.mono (by decide)) passB (jl_cons (j_var 0) jl_nil)) S.nd)
  · exact (js_ret (j_ifExp (jt_truth (j_callB (call_allD rfl) o_allD (by rfl) T.n_all (by decide +kernel) (j_var 1))) (j_callB call_len o_len (by rfl) T.n_len (by decide +kernel) (j_var 1)) j_non))
theorem d_least {C_Rota : Addr} {C_Season : Addr} {C_Course : Addr} {fa : Addr} {fd : FuncData} (F : Fun K "least" "least" s_least fa fd) (h1 : mg "least" = some (.ref fa)) (h2 : PySem.W.keepIn K (.ref fa) = true) (b : Binds K fd ["season"] []) (T : Bl mg) (Z_Rota : Tx_Rota K mg C_Rota) (Z_Season : Tx_Season K mg C_Season) (Z_Course : Tx_Course K mg C_Course) (D_odd_stretches : Df P w K mg base CT0 BB 3 "odd_stretches" 1 ["season"] f_odd_stretches) : Df P w K mg base CT0 BB 4 "least" 1 ["season"] f_least :=
  ⟨⟨fa, fd, fn_def (N := N_least) (ps := ["season"]) (k := 3) (body := b_least) F S_least (by decide) fun _ _ _ _ _ _ hr => l_least T Z_Rota Z_Season Z_Course D_odd_stretches hr, h1, h2, b⟩, fnOf_len⟩
abbrev N_possible : List Str := ["season", "need"]
def S0_possible : SSem := (sSet 1 (fCall f_least [] (lCons (fVar 0) lNil)))
def S1_possible : SSem := (sRet (fAnd (fBin pNotIs (fVar 1) (fC .non)) (fBin pLe (fVar 1) (fUn (pFld 1 2) (fVar 0)))))
def K1_possible : SSem := sSeq S1_possible sNil
def K0_possible : SSem := sSeq S0_possible K1_possible
def b_possible : SSem := K0_possible
def f_possible : List AV → T AV := fnOf 1 2 b_possible
theorem S_possible : FnScope N_possible ["season"] (defScope s_possible) := ⟨rfl, rfl, rfl, by decide +kernel, rfl, by decide +kernel, by decide +kernel⟩
theorem l_possible {C_Rota : Addr} {C_Season : Addr} {C_Course : Addr} (T : Bl mg) (Z_Rota : Tx_Rota K mg C_Rota) (Z_Season : Tx_Season K mg C_Season) (Z_Course : Tx_Course K mg C_Course) (D_least : Df P w K mg base CT0 BB 4 "least" 1 ["season"] f_least) {f : Addr} {cdv : Value} {A : Around} {outer : List Env} {s : Shared} {H : Hp} {E : XK} (hr : Room 4 (A.deeper (envOfC "possible" (defScope s_possible) s.heap.objs.size f cdv))) :
  JSs (cxOf (L2.CX P w) P w K mg base N_possible "possible" (defScope s_possible) f cdv A outer s H E) CT0 BB E (defBody s_possible) b_possible := by
  have S := S_possible
  have h64 : (A.deeper (envOfC "possible" (defScope s_possible) s.heap.objs.size f cdv)).units + 64 < cLine := by
    have := hr.un
    omega
  have h65 : (A.deeper (envOfC "possible" (defScope s_possible) s.heap.objs.size f cdv)).units + 65 < cLine := by
    have := hr.un
    omega
  have h1 : (A.deeper (envOfC "possible" (defScope s_possible) s.heap.objs.size f cdv)).units + 1 < cLine := by
    have := hr.un
    omega
  refine js_cons ?_ (js_cons ?_ js_nil)
  · exact (js_set 1 (j_callD (lv := 4) D_least (hr.mono (by decide)) passB (jl_cons (j_var 0) jl_nil)) S.nd)
  · exact (js_ret (j_and (j_cmp op_isnotA o_isnotA.op (j_var 1) j_non (nomark _)) (j_one (j_cmp op_le o_le.op (j_var 1) (j_fld (fld_Season_budget Z_Season) (j_var 0)) (nomark _)))))
theorem d_possible {C_Rota : Addr} {C_Season : Addr} {C_Course : Addr} {fa : Addr} {fd : FuncData} (F : Fun K "possible" "possible" s_possible fa fd) (h1 : mg "possible" = some (.ref fa)) (h2 : PySem.W.keepIn K (.ref fa) = true) (b : Binds K fd ["season"] []) (T : Bl mg) (Z_Rota : Tx_Rota K mg C_Rota) (Z_Season : Tx_Season K mg C_Season) (Z_Course : Tx_Course K mg C_Course) (D_least : Df P w K mg base CT0 BB 4 "least" 1 ["season"] f_least) : Df P w K mg base CT0 BB 5 "possible" 1 ["season"] f_possible :=
  ⟨⟨fa, fd, fn_def (N := N_possible) (ps := ["season"]) (k := 4) (body := b_possible) F S_possible (by decide) fun _ _ _ _ _ _ hr => l_possible T Z_Rota Z_Season Z_Course D_least hr, h1, h2, b⟩, fnOf_len⟩
abbrev N_check_possible : List Str := ["season"]
def S0t0_check_possible : SSem := sBad
def K0t0_check_possible : SSem := sSeq S0t0_check_possible sNil
def S0_check_possible : SSem := (sIf (fNotT (fTru (fCall f_possible [] (lCons (fVar 0) lNil)))) K0t0_check_possible sNil)
def K0_check_possible : SSem := sSeq S0_check_possible sNil
def b_check_possible : SSem := K0_check_possible
def f_check_possible : List AV → T AV := fnOf 1 1 b_check_possible
theorem S_check_possible : FnScope N_check_possible ["season"] (defScope s_check_possible) := ⟨rfl, rfl, rfl, by decide +kernel, rfl, by decide +kernel, by decide +kernel⟩
theorem l_check_possible {C_Rota : Addr} {C_Season : Addr} {C_Course : Addr} (T : Bl mg) (Z_Rota : Tx_Rota K mg C_Rota) (Z_Season : Tx_Season K mg C_Season) (Z_Course : Tx_Course K mg C_Course) (D_possible : Df P w K mg base CT0 BB 5 "possible" 1 ["season"] f_possible) {f : Addr} {cdv : Value} {A : Around} {outer : List Env} {s : Shared} {H : Hp} {E : XK} (hr : Room 5 (A.deeper (envOfC "check_possible" (defScope s_check_possible) s.heap.objs.size f cdv))) :
  JSs (cxOf (L2.CX P w) P w K mg base N_check_possible "check_possible" (defScope s_check_possible) f cdv A outer s H E) CT0 BB E (defBody s_check_possible) b_check_possible := by
  have S := S_check_possible
  have h64 : (A.deeper (envOfC "check_possible" (defScope s_check_possible) s.heap.objs.size f cdv)).units + 64 < cLine := by
    have := hr.un
    omega
  have h65 : (A.deeper (envOfC "check_possible" (defScope s_check_possible) s.heap.objs.size f cdv)).units + 65 < cLine := by
    have := hr.un
    omega
  have h1 : (A.deeper (envOfC "check_possible" (defScope s_check_possible) s.heap.objs.size f cdv)).units + 1 < cLine := by
    have := hr.un
    omega
  refine js_cons ?_ js_nil
  · refine js_if (jt_not (jt_truth (j_callD (lv := 5) D_possible (hr.mono (by decide)) passB (jl_cons (j_var 0) jl_nil)))) ?_ ?_
    · refine js_cons ?_ js_nil
      · exact js_bad
    · exact js_nil
theorem d_check_possible {C_Rota : Addr} {C_Season : Addr} {C_Course : Addr} {fa : Addr} {fd : FuncData} (F : Fun K "check_possible" "check_possible" s_check_possible fa fd) (h1 : mg "check_possible" = some (.ref fa)) (h2 : PySem.W.keepIn K (.ref fa) = true) (b : Binds K fd ["season"] []) (T : Bl mg) (Z_Rota : Tx_Rota K mg C_Rota) (Z_Season : Tx_Season K mg C_Season) (Z_Course : Tx_Course K mg C_Course) (D_possible : Df P w K mg base CT0 BB 5 "possible" 1 ["season"] f_possible) : Df P w K mg base CT0 BB 6 "check_possible" 1 ["season"] f_check_possible :=
  ⟨⟨fa, fd, fn_def (N := N_check_possible) (ps := ["season"]) (k := 5) (body := b_check_possible) F S_check_possible (by decide) fun _ _ _ _ _ _ hr => l_check_possible T Z_Rota Z_Season Z_Course D_possible hr, h1, h2, b⟩, fnOf_len⟩
abbrev N_surely_missed : List Str := ["season", "pairs"]
def C0_surely_missed : SemN := nLc [1] (iSeq (fCall f_odd_stretches [] (lCons (fVar 0) lNil))) (tgName 1) (fBlT (fBin pEq (fUn pLen (fVar 1)) (fC (.int 1)))) (fBin pIx (fVar 1) (fC (.int 0)))
def S0_surely_missed : SSem := (sExpr (fCall f_check_possible [] (lCons (fVar 0) lNil)))
def S1_surely_missed : SSem := (sRet (fUn pTuple (fUn pSortP (fNew C0_surely_missed))))
def K1_surely_missed : SSem := sSeq S1_surely_missed sNil
def K0_surely_missed : SSem := sSeq S0_surely_missed K1_surely_missed
def b_surely_missed : SSem := K0_surely_missed
def f_surely_missed : List AV → T AV := fnOf 1 2 b_surely_missed
theorem S_surely_missed : FnScope N_surely_missed ["season"] (defScope s_surely_missed) := ⟨rfl, rfl, rfl, by decide +kernel, rfl, by decide +kernel, by decide +kernel⟩
theorem l_surely_missed {C_Rota : Addr} {C_Season : Addr} {C_Course : Addr} (T : Bl mg) (Z_Rota : Tx_Rota K mg C_Rota) (Z_Season : Tx_Season K mg C_Season) (Z_Course : Tx_Course K mg C_Course) (D_check_possible : Df P w K mg base CT0 BB 6 "check_possible" 1 ["season"] f_check_possible) (D_odd_stretches : Df P w K mg base CT0 BB 3 "odd_stretches" 1 ["season"] f_odd_stretches) {f : Addr} {cdv : Value} {A : Around} {outer : List Env} {s : Shared} {H : Hp} {E : XK} (hr : Room 6 (A.deeper (envOfC "surely_missed" (defScope s_surely_missed) s.heap.objs.size f cdv))) :
  JSs (cxOf (L2.CX P w) P w K mg base N_surely_missed "surely_missed" (defScope s_surely_missed) f cdv A outer s H E) CT0 BB E (defBody s_surely_missed) b_surely_missed := by
  have S := S_surely_missed
  have h64 : (A.deeper (envOfC "surely_missed" (defScope s_surely_missed) s.heap.objs.size f cdv)).units + 64 < cLine := by
    have := hr.un
    omega
  have h65 : (A.deeper (envOfC "surely_missed" (defScope s_surely_missed) s.heap.objs.size f cdv)).units + 65 < cLine := by
    have := hr.un
    omega
  have h1 : (A.deeper (envOfC "surely_missed" (defScope s_surely_missed) s.heap.objs.size f cdv)).units + 1 < cLine := by
    have := hr.un
    omega
  refine js_cons ?_ (js_cons ?_ js_nil)
  · exact (js_expr (j_callD (lv := 6) D_check_possible (hr.mono (by decide)) passB (jl_cons (j_var 0) jl_nil)))
  · exact (js_ret (j_callTy call_tuple_of o_tuple (by rfl) T.n_tuple (by decide +kernel) (j_callB cr_sortedPO o_sortP (by rfl) T.n_sorted (by decide +kernel) (j_new (jn_lc (own := [("pairs", 1)]) (by rfl) S.nd (blkOk_by (N := N_surely_missed) (sc := defScope s_surely_missed) (by decide +kernel)) (by decide) (ji_seq (j_callD (lv := 3) D_odd_stretches (hr.mono (by decide)) passB (jl_cons (j_var 0) jl_nil))) (fun _ _ _ _ _ => (jg_name 1 S.nd)) (fun _ _ _ _ _ => (jts_one (jt_cmp (op_eqD h64) o_eq.op (j_callB call_len o_len (by rfl) T.n_len (by decide +kernel) (j_var 1)) j_int (nomark _)))) (fun _ _ _ _ _ => (j_ix (j_var 1) j_int)))))))
theorem d_surely_missed {C_Rota : Addr} {C_Season : Addr} {C_Course : Addr} {fa : Addr} {fd : FuncData} (F : Fun K "surely_missed" "surely_missed" s_surely_missed fa fd) (h1 : mg "surely_missed" = some (.ref fa)) (h2 : PySem.W.keepIn K (.ref fa) = true) (b : Binds K fd ["season"] []) (T : Bl mg) (Z_Rota : Tx_Rota K mg C_Rota) (Z_Season : Tx_Season K mg C_Season) (Z_Course : Tx_Course K mg C_Course) (D_check_possible : Df P w K mg base CT0 BB 6 "check_possible" 1 ["season"] f_check_possible) (D_odd_stretches : Df P w K mg base CT0 BB 3 "odd_stretches" 1 ["season"] f_odd_stretches) : Df P w K mg base CT0 BB 7 "surely_missed" 1 ["season"] f_surely_missed :=
  ⟨⟨fa, fd, fn_def (N := N_surely_missed) (ps := ["season"]) (k := 6) (body := b_surely_missed) F S_surely_missed (by decide) fun _ _ _ _ _ _ hr => l_surely_missed T Z_Rota Z_Season Z_Course D_check_possible D_odd_stretches hr, h1, h2, b⟩, fnOf_len⟩
abbrev N_slack : List Str := ["season"]
def S0_slack : SSem := (sExpr (fCall f_check_possible [] (lCons (fVar 0) lNil)))
def S1_slack : SSem := (sRet (fBin pSub (fUn (pFld 1 2) (fVar 0)) (fCall f_least [] (lCons (fVar 0) lNil))))
def K1_slack : SSem := sSeq S1_slack sNil
def K0_slack : SSem := sSeq S0_slack K1_slack
def b_slack : SSem := K0_slack
def f_slack : List AV → T AV := fnOf 1 1 b_slack
theorem S_slack : FnScope N_slack ["season"] (defScope s_slack) := ⟨rfl, rfl, rfl, by decide +kernel, rfl, by decide +kernel, by decide +kernel⟩
theorem l_slack {C_Rota : Addr} {C_Season : Addr} {C_Course : Addr} (T : Bl mg) (Z_Rota : Tx_Rota K mg C_Rota) (Z_Season : Tx_Season K mg C_Season) (Z_Course : Tx_Course K mg C_Course) (D_check_possible : Df P w K mg base CT0 BB 6 "check_possible" 1 ["season"] f_check_possible) (D_least : Df P w K mg base CT0 BB 4 "least" 1 ["season"] f_least) {f : Addr} {cdv : Value} {A : Around} {outer : List Env} {s : Shared} {H : Hp} {E : XK} (hr : Room 6 (A.deeper (envOfC "slack" (defScope s_slack) s.heap.objs.size f cdv))) :
  JSs (cxOf (L2.CX P w) P w K mg base N_slack "slack" (defScope s_slack) f cdv A outer s H E) CT0 BB E (defBody s_slack) b_slack := by
  have S := S_slack
  have h64 : (A.deeper (envOfC "slack" (defScope s_slack) s.heap.objs.size f cdv)).units + 64 < cLine := by
    have := hr.un
    omega
  have h65 : (A.deeper (envOfC "slack" (defScope s_slack) s.heap.objs.size f cdv)).units + 65 < cLine := by
    have := hr.un
    omega
  have h1 : (A.deeper (envOfC "slack" (defScope s_slack) s.heap.objs.size f cdv)).units + 1 < cLine := by
    have := hr.un
    omega
  refine js_cons ?_ (js_cons ?_ js_nil)
  · exact (js_expr (j_callD (lv := 6) D_check_possible (hr.mono (by decide)) passB (jl_cons (j_var 0) jl_nil)))
  · exact (js_ret (j_bin op_sub o_sub (j_fld (fld_Season_budget Z_Season) (j_var 0)) (j_callD (lv := 4) D_least (hr.mono (by decide)) passB (jl_cons (j_var 0) jl_nil))))
theorem d_slack {C_Rota : Addr} {C_Season : Addr} {C_Course : Addr} {fa : Addr} {fd : FuncData} (F : Fun K "slack" "slack" s_slack fa fd) (h1 : mg "slack" = some (.ref fa)) (h2 : PySem.W.keepIn K (.ref fa) = true) (b : Binds K fd ["season"] []) (T : Bl mg) (Z_Rota : Tx_Rota K mg C_Rota) (Z_Season : Tx_Season K mg C_Season) (Z_Course : Tx_Course K mg C_Course) (D_check_possible : Df P w K mg base CT0 BB 6 "check_possible" 1 ["season"] f_check_possible) (D_least : Df P w K mg base CT0 BB 4 "least" 1 ["season"] f_least) : Df P w K mg base CT0 BB 7 "slack" 1 ["season"] f_slack :=
  ⟨⟨fa, fd, fn_def (N := N_slack) (ps := ["season"]) (k := 6) (body := b_slack) F S_slack (by decide) fun _ _ _ _ _ _ hr => l_slack T Z_Rota Z_Season Z_Course D_check_possible D_least hr, h1, h2, b⟩, fnOf_len⟩
abbrev N_check_wheel : List Str := ["rota", "wheel"]
def b_check_wheel : SSem := (sSeq (sIf (fNotT (fTru (fCall f_is_below [] (lCons (fVar 1) (lCons (fUn (pFld 0 0) (fVar 0)) lNil))))) (sSeq sBad
  sNil) sNil)
  sNil)
def f_check_wheel : List AV → T AV := fnOf 2 2 b_check_wheel
theorem S_check_wheel : FnScope N_check_wheel ["rota", "wheel"] (defScope s_check_wheel) := ⟨rfl, rfl, rfl, by decide +kernel, rfl, by decide +kernel, by decide +kernel⟩
theorem l_check_wheel {C_Rota : Addr} {C_Season : Addr} {C_Course : Addr} (T : Bl mg) (Z_Rota : Tx_Rota K mg C_Rota) (Z_Season : Tx_Season K mg C_Season) (Z_Course : Tx_Course K mg C_Course) (D_is_below : Df P w K mg base CT0 BB 3 "is_below" 2 ["value", "many"] f_is_below) {f : Addr} {cdv : Value} {A : Around} {outer : List Env} {s : Shared} {H : Hp} {E : XK} (hr : Room 3 (A.deeper (envOfC "check_wheel" (defScope s_check_wheel) s.heap.objs.size f cdv))) :
  JSs (cxOf (L2.CX P w) P w K mg base N_check_wheel "check_wheel" (defScope s_check_wheel) f cdv A outer s H E) CT0 BB E (defBody s_check_wheel) b_check_wheel := by
  have S := S_check_wheel
  have h64 : (A.deeper (envOfC "check_wheel" (defScope s_check_wheel) s.heap.objs.size f cdv)).units + 64 < cLine := by
    have := hr.un
    omega
  have h65 : (A.deeper (envOfC "check_wheel" (defScope s_check_wheel) s.heap.objs.size f cdv)).units + 65 < cLine := by
    have := hr.un
    omega
  have h1 : (A.deeper (envOfC "check_wheel" (defScope s_check_wheel) s.heap.objs.size f cdv)).units + 1 < cLine := by
    have := hr.un
    omega
  refine js_cons ?_ js_nil
  · refine js_if (jt_not (jt_truth (j_callD (lv := 3) D_is_below (hr.mono (by decide)) passB (jl_cons (j_var 1) (jl_cons (j_fld (fld_Rota_places Z_Rota) (j_var 0)) jl_nil))))) ?_ ?_
    · refine js_cons ?_ js_nil
      · exact js_bad
    · exact js_nil
theorem d_check_wheel {C_Rota : Addr} {C_Season : Addr} {C_Course : Addr} {fa : Addr} {fd : FuncData} (F : Fun K "check_wheel" "check_wheel" s_check_wheel fa fd) (h1 : mg "check_wheel" = some (.ref fa)) (h2 : PySem.W.keepIn K (.ref fa) = true) (b : Binds K fd ["rota", "wheel"] []) (T : Bl mg) (Z_Rota : Tx_Rota K mg C_Rota) (Z_Season : Tx_Season K mg C_Season) (Z_Course : Tx_Course K mg C_Course) (D_is_below : Df P w K mg base CT0 BB 3 "is_below" 2 ["value", "many"] f_is_below) : Df P w K mg base CT0 BB 4 "check_wheel" 2 ["rota", "wheel"] f_check_wheel :=
  ⟨⟨fa, fd, fn_def (N := N_check_wheel) (ps := ["rota", "wheel"]) (k := 3) (body := b_check_wheel) F S_check_wheel (by decide) fun _ _ _ _ _ _ hr => l_check_wheel T Z_Rota Z_Season Z_Course D_is_below hr, h1, h2, b⟩, fnOf_len⟩
abbrev N_Season_seen : List Str := ["self", "looks"]
def S0t0_Season_seen : SSem := sBad
def K0t0_Season_seen : SSem := sSeq S0t0_Season_seen sNil
def S0_Season_seen : SSem := (sIf (fNotT (fTru (fCall f_are_looks [] (lCons (fVar 1) (lCons (fUn (pFld 1 4) (fVar 0)) (lCons (fUn (pFld 1 1) (fVar 0)) lNil)))))) K0t0_Season_seen sNil)
def S1_Season_seen : SSem := (sRet (fMakeD f_Season [] (lCons (fUn (pFld 1 0) (fVar 0)) (lCons (fUn (pFld 1 1) (fVar 0)) (lCons (fUn (pFld 1 2) (fVar 0)) (lCons (fBin pAdd (fUn (pFld 1 3) (fVar 0)) (fUn pTuple (fVar 1))) lNil))))))
def K1_Season_seen : SSem := sSeq S1_Season_seen sNil
def K0_Season_seen : SSem := sSeq S0_Season_seen K1_Season_seen
def b_Season_seen : SSem := K0_Season_seen
def f_Season_seen : List AV → T AV := fnOf 2 2 b_Season_seen
theorem S_Season_seen : FnScope N_Season_seen ["self", "looks"] (defScope s_Season_seen) := ⟨rfl, rfl, rfl, by decide +kernel, rfl, by decide +kernel, by decide +kernel⟩
theorem l_Season_seen {C_Rota : Addr} {C_Season : Addr} {C_Course : Addr} (T : Bl mg) (Z_Rota : Tx_Rota K mg C_Rota) (Z_Season : Tx_Season K mg C_Season) (Z_Course : Tx_Course K mg C_Course) (D_are_looks : Df P w K mg base CT0 BB 5 "are_looks" 3 ["looks", "wheels", "days"] f_are_looks) (D_Season : CfD P w K mg base CT0 BB 6 "Season" 1 4 ["self", "rota", "days", "budget", "looks"] [.tup []] f_Season) {f : Addr} {cdv : Value} {A : Around} {outer : List Env} {s : Shared} {H : Hp} {E : XK} (hr : Room 7 (A.deeper (envOfC "Season.seen" (defScope s_Season_seen) s.heap.objs.size f cdv))) :
  JSs (cxOf (L2.CX P w) P w K mg base N_Season_seen "Season.seen" (defScope s_Season_seen) f cdv A outer s H E) CT0 BB E (defBody s_Season_seen) b_Season_seen := by
  have S := S_Season_seen
  have h64 : (A.deeper (envOfC "Season.seen" (defScope s_Season_seen) s.heap.objs.size f cdv)).units + 64 < cLine := by
    have := hr.un
    omega
  have h65 : (A.deeper (envOfC "Season.seen" (defScope s_Season_seen) s.heap.objs.size f cdv)).units + 65 < cLine := by
    have := hr.un
    omega
  have h1 : (A.deeper (envOfC "Season.seen" (defScope s_Season_seen) s.heap.objs.size f cdv)).units + 1 < cLine := by
    have := hr.un
    omega
  refine js_cons ?_ (js_cons ?_ js_nil)
  · refine js_if (jt_not (jt_truth (j_callD (lv := 5) D_are_looks (hr.mono (by decide)) passB (jl_cons (j_var 1) (jl_cons (j_fld (fld_Season_wheels Z_Season) (j_var 0)) (jl_cons (j_fld (fld_Season_days Z_Season) (j_var 0)) jl_nil)))))) ?_ ?_
    · refine js_cons ?_ js_nil
      · exact js_bad
    · exact js_nil
  · exact (js_ret (j_makeA (lv := 6) D_Season (hr.mono (by decide)) passB (jl_cons (j_fld (fld_Season_rota Z_Season) (j_var 0)) (jl_cons (j_fld (fld_Season_days Z_Season) (j_var 0)) (jl_cons (j_fld (fld_Season_budget Z_Season) (j_var 0)) (jl_cons (j_bin' op_addA o_add (j_fld (fld_Season_looks Z_Season) (j_var 0)) (j_callTy call_tuple_of o_tuple (by rfl) T.n_tuple (by decide +kernel) (j_var 1))) jl_nil))))))
theorem d_Season_seen {C_Rota : Addr} {C_Season : Addr} {C_Course : Addr} {fa : Addr} {fd : FuncData} (F : Fun K "seen" "Season.seen" s_Season_seen fa fd) (M : Meth K C_Season "seen" fa) (b : Binds K fd ["self", "looks"] []) (T : Bl mg) (Z_Rota : Tx_Rota K mg C_Rota) (Z_Season : Tx_Season K mg C_Season) (Z_Course : Tx_Course K mg C_Course) (D_are_looks : Df P w K mg base CT0 BB 5 "are_looks" 3 ["looks", "wheels", "days"] f_are_looks) (D_Season : CfD P w K mg base CT0 BB 6 "Season" 1 4 ["self", "rota", "days", "budget", "looks"] [.tup []] f_Season) : Mf P w K mg base CT0 BB 8 1 "seen" 2 ["self", "looks"] f_Season_seen :=
  ⟨⟨C_Season, fa, fd, fn_def (N := N_Season_seen) (ps := ["self", "looks"]) (k := 7) (body := b_Season_seen) F S_Season_seen (by decide) fun _ _ _ _ _ _ hr => l_Season_seen T Z_Rota Z_Season Z_Course D_are_looks D_Season hr, b, Z_Season.cl, M, Z_Season.mgC⟩, by decide +kernel, fnOf_len⟩
abbrev N_possible_sides : List Str := ["season", "wheel", "day", "up"]
def C0_possible_sides : SemN := nLc [3] (iSeq (fTup (lCons (fC (.int 0)) (lCons (fC (.int 1)) lNil)))) (tgName 3) (fTru (fCall f_possible [] (lCons (fMeth 1 f_Season_seen [] (fVar 0) (lCons (fNew (nLst (lCons (fTup (lCons (fVar 2) (lCons (fVar 1) (lCons (fVar 3) lNil)))) lNil))) lNil)) lNil))) (fVar 3)
def S0_possible_sides : SSem := (sExpr (fCall f_check_wheel [] (lCons (fUn (pFld 1 0) (fVar 0)) (lCons (fVar 1) lNil))))
def S1_possible_sides : SSem := (sExpr (fCall f_check_possible [] (lCons (fVar 0) lNil)))
def S2_possible_sides : SSem := (sRet (fUn pTuple (fNew C0_possible_sides)))
def K2_possible_sides : SSem := sSeq S2_possible_sides sNil
def K1_possible_sides : SSem := sSeq S1_possible_sides K2_possible_sides
def K0_possible_sides : SSem := sSeq S0_possible_sides K1_possible_sides
def b_possible_sides : SSem := K0_possible_sides
def f_possible_sides : List AV → T AV := fnOf 3 4 b_possible_sides
theorem S_possible_sides : FnScope N_possible_sides ["season", "wheel", "day"] (defScope s_possible_sides) := ⟨rfl, rfl, rfl, by decide +kernel, rfl, by decide +kernel, by decide +kernel⟩
theorem l_possible_sides {C_Rota : Addr} {C_Season : Addr} {C_Course : Addr} (T : Bl mg) (Z_Rota : Tx_Rota K mg C_Rota) (Z_Season : Tx_Season K mg C_Season) (Z_Course : Tx_Course K mg C_Course) (D_check_wheel : Df P w K mg base CT0 BB 4 "check_wheel" 2 ["rota", "wheel"] f_check_wheel) (D_check_possible : Df P w K mg base CT0 BB 6 "check_possible" 1 ["season"] f_check_possible) (D_possible : Df P w K mg base CT0 BB 5 "possible" 1 ["season"] f_possible) (D_Season_seen : Mf P w K mg base CT0 BB 8 1 "seen" 2 ["self", "looks"] f_Season_seen) {f : Addr} {cdv : Value} {A : Around} {outer : List Env} {s : Shared} {H : Hp} {E : XK} (hr : Room 8 (A.deeper (envOfC "possible_sides" (defScope s_possible_sides) s.heap.objs.size f cdv))) :
  JSs (cxOf (L2.CX P w) P w K mg base N_possible_sides "possible_sides" (defScope s_possible_sides) f cdv A outer s H E) CT0 BB E (defBody s_possible_sides) b_possible_sides := by
  have S := S_possible_sides
  have h64 : (A.deeper (envOfC "possible_sides" (defScope s_possible_sides) s.heap.objs.size f cdv)).units + 64 < cLine := by
    have := hr.un
    omega
  have h65 : (A.deeper (envOfC "possible_sides" (defScope s_possible_sides) s.heap.objs.size f cdv)).units + 65 < cLine := by
    have := hr.un
    omega
  have h1 : (A.deeper (envOfC "possible_sides" (defScope s_possible_sides) s.heap.objs.size f cdv)).units + 1 < cLine := by
    have := hr.un
    omega
  refine js_cons ?_ (js_cons ?_ (js_cons ?_ js_nil))
  · exact (js_expr (j_callD (lv := 4) D_check_wheel (hr.mono (by decide)) passB (jl_cons (j_fld (fld_Season_rota Z_Season) (j_var 0)) (jl_cons (j_var 1) jl_nil))))
  · exact (js_expr (j_callD (lv := 6) D_check_possible (hr.mono (by decide)) passB (jl_cons (j_var 0) jl_nil)))
  · exact (js_ret (j_callTy call_tuple_of o_tuple (by rfl) T.n_tuple (by decide +kernel) (j_new (jn_lc (own := [("up", 3)]) (by rfl) S.nd (blkOk_by (N := N_possible_sides) (sc := defScope s_possible_sides) (by decide +kernel)) (by decide) (ji_seq (j_tup (jl_cons j_int (jl_cons j_int jl_nil)))) (fun _ _ _ _ _ => (jg_name 3 S.nd)) (fun _ _ _ _ _ => (jts_one (jt_truth (j_callD (lv := 5) D_possible (hr.mono (by decide)) passE0 (jl_cons (j_methD (lv := 8) D_Season_seen (hr.mono (by decide)) passE0 (j_var 0) (jl_cons (j_new (jn_lst (jl_cons (j_tup (jl_cons (j_var 2) (jl_cons (j_var 1) (jl_cons (j_var 3) jl_nil)))) jl_nil))) jl_nil)) jl_nil))))) (fun _ _ _ _ _ => (j_var 3))))))
theorem d_possible_sides {C_Rota : Addr} {C_Season : Addr} {C_Course : Addr} {fa : Addr} {fd : FuncData} (F : Fun K "possible_sides" "possible_sides" s_possible_sides fa fd) (h1 : mg "possible_sides" = some (.ref fa)) (h2 : PySem.W.keepIn K (.ref fa) = true) (b : Binds K fd ["season", "wheel", "day"] []) (T : Bl mg) (Z_Rota : Tx_Rota K mg C_Rota) (Z_Season : Tx_Season K mg C_Season) (Z_Course : Tx_Course K mg C_Course) (D_check_wheel : Df P w K mg base CT0 BB 4 "check_wheel" 2 ["rota", "wheel"] f_check_wheel) (D_check_possible : Df P w K mg base CT0 BB 6 "check_possible" 1 ["season"] f_check_possible) (D_possible : Df P w K mg base CT0 BB 5 "possible" 1 ["season"] f_possible) (D_Season_seen : Mf P w K mg base CT0 BB 8 1 "seen" 2 ["self", "looks"] f_Season_seen) : Df P w K mg base CT0 BB 9 "possible_sides" 3 ["season", "wheel", "day"] f_possible_sides :=
  ⟨⟨fa, fd, fn_def (N := N_possible_sides) (ps := ["season", "wheel", "day"]) (k := 8) (body := b_possible_sides) F S_possible_sides (by decide) fun _ _ _ _ _ _ hr => l_possible_sides T Z_Rota Z_Season Z_Course D_check_wheel D_check_possible D_possible D_Season_seen hr, h1, h2, b⟩, fnOf_len⟩
abbrev N_side : List Str := ["season", "wheel", "day", "can_be"]
def S0_side : SSem := (sSet 3 (fCall f_possible_sides [] (lCons (fVar 0) (lCons (fVar 1) (lCons (fVar 2) lNil)))))
def S1_side : SSem := (sRet (fIf (fBlT (fBin pEq (fUn pLen (fVar 3)) (fC (.int 1)))) (fBin pIx (fVar 3) (fC (.int 0))) (fC .non)))
def K1_side : SSem := sSeq S1_side sNil
def K0_side : SSem := sSeq S0_side K1_side
def b_side : SSem := K0_side
def f_side : List AV → T AV := fnOf 3 4 b_side
theorem S_side : FnScope N_side ["season", "wheel", "day"] (defScope s_side) := ⟨rfl, rfl, rfl, by decide +kernel, rfl, by decide +kernel, by decide +kernel⟩
theorem l_side {C_Rota : Addr} {C_Season : Addr} {C_Course : Addr} (T : Bl mg) (Z_Rota : Tx_Rota K mg C_Rota) (Z_Season : Tx_Season K mg C_Season) (Z_Course : Tx_Course K mg C_Course) (D_possible_sides : Df P w K mg base CT0 BB 9 "possible_sides" 3 ["season", "wheel", "day"] f_possible_sides) {f : Addr} {cdv : Value} {A : Around} {outer : List Env} {s : Shared} {H : Hp} {E : XK} (hr : Room 9 (A.deeper (envOfC "side" (defScope s_side) s.heap.objs.size f cdv))) :
  JSs (cxOf (L2.CX P w) P w K mg base N_side "side" (defScope s_side) f cdv A outer s H E) CT0 BB E (defBody s_side) b_side := by
  have S := S_side
  have h64 : (A.deeper (envOfC "side" (defScope s_side) s.heap.objs.size f cdv)).units + 64 < cLine := by
    have := hr.un
    omega
  have h65 : (A.deeper (envOfC "side" (defScope s_side) s.heap.objs.size f cdv)).units + 65 < cLine := by
    have := hr.un
    omega
  have h1 : (A.deeper (envOfC "side" (defScope s_side) s.heap.objs.size f cdv)).units + 1 < cLine := by
    have := hr.un
    omega
  refine js_cons ?_ (js_cons ?_ js_nil)
  · exact (js_set 3 (j_callD (lv := 9) D_possible_sides (hr.mono (by decide)) passB (jl_cons (j_var 0) (jl_cons (j_var 1) (jl_cons (j_var 2) jl_nil)))) S.nd)
  · exact (js_ret (j_ifExp (jt_cmp (op_eqD h64) o_eq.op (j_callB call_len o_len (by rfl) T.n_len (by decide +kernel) (j_var 3)) j_int (nomark _)) (j_ix (j_var 3) j_int) j_non))
theorem d_side {C_Rota : Addr} {C_Season : Addr} {C_Course : Addr} {fa : Addr} {fd : FuncData} (F : Fun K "side" "side" s_side fa fd) (h1 : mg "side" = some (.ref fa)) (h2 : PySem.W.keepIn K (.ref fa) = true) (b : Binds K fd ["season", "wheel", "day"] []) (T : Bl mg) (Z_Rota : Tx_Rota K mg C_Rota) (Z_Season : Tx_Season K mg C_Season) (Z_Course : Tx_Course K mg C_Course) (D_possible_sides : Df P w K mg base CT0 BB 9 "possible_sides" 3 ["season", "wheel", "day"] f_possible_sides) : Df P w K mg base CT0 BB 10 "side" 3 ["season", "wheel", "day"] f_side :=
  ⟨⟨fa, fd, fn_def (N := N_side) (ps := ["season", "wheel", "day"]) (k := 9) (body := b_side) F S_side (by decide) fun _ _ _ _ _ _ hr => l_side T Z_Rota Z_Season Z_Course D_possible_sides hr, h1, h2, b⟩, fnOf_len⟩
abbrev N_is_turning : List Str := ["season", "pair", "day", "wheel"]
def S0t0_is_turning : SSem := (sRet (fC (.bl false)))
def K0t0_is_turning : SSem := sSeq S0t0_is_turning sNil
def S0_is_turning : SSem := (sIf (fOrT (fNotT (fTru (fUn (pIsi "tuple") (fVar 1)))) (fBlT (fBin pNe (fUn pLen (fVar 1)) (fC (.int 2))))) K0t0_is_turning sNil)
def S1_is_turning : SSem := (sAsg (fVar 1) (tgTup 2 (tgCons (tgName 2) (tgCons (tgName 3) tgNil))))
def S2_is_turning : SSem := (sRet (fAnd (fCall f_is_below [] (lCons (fVar 3) (lCons (fUn (pFld 1 4) (fVar 0)) lNil))) (fAnd (fCall f_is_whole [] (lCons (fVar 2) (lCons (fC (.int 0)) lNil))) (fBin pIn (fVar 2) (fBin pIx (fUn (pFld 1 5) (fVar 0)) (fVar 3))))))
def K2_is_turning : SSem := sSeq S2_is_turning sNil
def K1_is_turning : SSem := sSeq S1_is_turning K2_is_turning
def K0_is_turning : SSem := sSeq S0_is_turning K1_is_turning
def b_is_turning : SSem := K0_is_turning
def f_is_turning : List AV → T AV := fnOf 2 4 b_is_turning
theorem S_is_turning : FnScope N_is_turning ["season", "pair"] (defScope s_is_turning) := ⟨rfl, rfl, rfl, by decide +kernel, rfl, by decide +kernel, by decide +kernel⟩
theorem l_is_turning {C_Rota : Addr} {C_Season : Addr} {C_Course : Addr} (T : Bl mg) (Z_Rota : Tx_Rota K mg C_Rota) (Z_Season : Tx_Season K mg C_Season) (Z_Course : Tx_Course K mg C_Course) (D_is_below : Df P w K mg base CT0 BB 3 "is_below" 2 ["value", "many"] f_is_below) (D_is_whole : Df P w K mg base CT0 BB 2 "is_whole" 2 ["value", "least"] f_is_whole) {f : Addr} {cdv : Value} {A : Around} {outer : List Env} {s : Shared} {H : Hp} {E : XK} (hr : Room 3 (A.deeper (envOfC "is_turning" (defScope s_is_turning) s.heap.objs.size f cdv))) :
  JSs (cxOf (L2.CX P w) P w K mg base N_is_turning "is_turning" (defScope s_is_turning) f cdv A outer s H E) CT0 BB E (defBody s_is_turning) b_is_turning := by
  have S := S_is_turning
  have h64 : (A.deeper (envOfC "is_turning" (defScope s_is_turning) s.heap.objs.size f cdv)).units + 64 < cLine := by
    have := hr.un
    omega
  have h65 : (A.deeper (envOfC "is_turning" (defScope s_is_turning) s.heap.objs.size f cdv)).units + 65 < cLine := by
    have := hr.un
    omega
  have h1 : (A.deeper (envOfC "is_turning" (defScope s_is_turning) s.heap.objs.size f cdv)).units + 1 < cLine := by
    have := hr.un
    omega
  refine js_cons ?_ (js_cons ?_ (js_cons ?_ js_nil))
  · refine js_if (jw_pt (jw_or (jt_not (jt_truth (j_isi kinds_tuple (by rfl) T.n_isinstance (by rfl) T.n_tuple (by decide +kernel) (j_var 1)))) (jw_or1 (jt_cmp (op_neD h64) o_ne.op (j_callB call_len o_len (by rfl) T.n_len (by decide +kernel) (j_var 1)) j_int (nomark _))))) ?_ ?_
    · refine js_cons ?_ js_nil
      · exact (js_ret j_bl)
    · exact js_nil
  · exact (js_asg (j_var 1) (jg_tup (by rfl) (jg_cons (jg_name 2 S.nd) (jg_cons (jg_name 3 S.nd) jg_nil))))
  · exact (js_ret (j_and (j_callD (lv := 3) D_is_below (hr.mono (by decide)) passB (jl_cons (j_var 3) (jl_cons (j_fld (fld_Season_wheels Z_Season) (j_var 0)) jl_nil))) (j_and (j_callD (lv := 2) D_is_whole (hr.mono (by decide)) passB (jl_cons (j_var 2) (jl_cons j_int jl_nil))) (j_one (j_cmp ((op_inD h65).or (op_inT h65)) o_in.op (j_var 2) (j_ix (j_fld (fld_Season_turnings Z_Season) (j_var 0)) (j_var 3)) rfl)))))
theorem d_is_turning {C_Rota : Addr} {C_Season : Addr} {C_Course : Addr} {fa : Addr} {fd : FuncData} (F : Fun K "is_turning" "is_turning" s_is_turning fa fd) (h1 : mg "is_turning" = some (.ref fa)) (h2 : PySem.W.keepIn K (.ref fa) = true) (b : Binds K fd ["season", "pair"] []) (T : Bl mg) (Z_Rota : Tx_Rota K mg C_Rota) (Z_Season : Tx_Season K mg C_Season) (Z_Course : Tx_Course K mg C_Course) (D_is_below : Df P w K mg base CT0 BB 3 "is_below" 2 ["value", "many"] f_is_below) (D_is_whole : Df P w K mg base CT0 BB 2 "is_whole" 2 ["value", "least"] f_is_whole) : Df P w K mg base CT0 BB 4 "is_turning" 2 ["season", "pair"] f_is_turning :=
  ⟨⟨fa, fd, fn_def (N := N_is_turning) (ps := ["season", "pair"]) (k := 3) (body := b_is_turning) F S_is_turning (by decide) fun _ _ _ _ _ _ hr => l_is_turning T Z_Rota Z_Season Z_Course D_is_below D_is_whole hr, h1, h2, b⟩, fnOf_len⟩
abbrev N_check_turning : List Str := ["season", "day", "wheel"]
def S2t0_check_turning : SSem := sBad
def K2t0_check_turning : SSem := sSeq S2t0_check_turning sNil
def S0_check_turning : SSem := (sExpr (fCall f_check_wheel [] (lCons (fUn (pFld 1 0) (fVar 0)) (lCons (fVar 2) lNil))))
def S1_check_turning : SSem := (sExpr (fCall f_check_possible [] (lCons (fVar 0) lNil)))
def S2_check_turning : SSem := (sIf (fNotT (fTru (fCall f_is_turning [] (lCons (fVar 0) (lCons (fTup (lCons (fVar 1) (lCons (fVar 2) lNil))) lNil))))) K2t0_check_turning sNil)
def K2_check_turning : SSem := sSeq S2_check_turning sNil
def K1_check_turning : SSem := sSeq S1_check_turning K2_check_turning
def K0_check_turning : SSem := sSeq S0_check_turning K1_check_turning
def b_check_turning : SSem := K0_check_turning
def f_check_turning : List AV → T AV := fnOf 3 3 b_check_turning
theorem S_check_turning : FnScope N_check_turning ["season", "day", "wheel"] (defScope s_check_turning) := ⟨rfl, rfl, rfl, by decide +kernel, rfl, by decide +kernel, by decide +kernel⟩
theorem l_check_turning {C_Rota : Addr} {C_Season : Addr} {C_Course : Addr} (T : Bl mg) (Z_Rota : Tx_Rota K mg C_Rota) (Z_Season : Tx_Season K mg C_Season) (Z_Course : Tx_Course K mg C_Course) (D_check_wheel : Df P w K mg base CT0 BB 4 "check_wheel" 2 ["rota", "wheel"] f_check_wheel) (D_check_possible : Df P w K mg base CT0 BB 6 "check_possible" 1 ["season"] f_check_possible) (D_is_turning : Df P w K mg base CT0 BB 4 "is_turning" 2 ["season", "pair"] f_is_turning) {f : Addr} {cdv : Value} {A : Around} {outer : List Env} {s : Shared} {H : Hp} {E : XK} (hr : Room 6 (A.deeper (envOfC "check_turning" (defScope s_check_turning) s.heap.objs.size f cdv))) :
  JSs (cxOf (L2.CX P w) P w K mg base N_check_turning "check_turning" (defScope s_check_turning) f cdv A outer s H E) CT0 BB E (defBody s_check_turning) b_check_turning := by
  have S := S_check_turning
  have h64 : (A.deeper (envOfC "check_turning" (defScope s_check_turning) s.heap.objs.size f cdv)).units + 64 < cLine := by
    have := hr.un
    omega
  have h65 : (A.deeper (envOfC "check_turning" (defScope s_check_turning) s.heap.objs.size f cdv)).units + 65 < cLine := by
    have := hr.un
    omega
  have h1 : (A.deeper (envOfC "check_turning" (defScope s_check_turning) s.heap.objs.size f cdv)).units + 1 < cLine := by
    have := hr.un
    omega
  refine js_cons ?_ (js_cons ?_ (js_cons ?_ js_nil))
  · exact (js_expr (j_callD (lv := 4) D_check_wheel (hr.mono (by decide)) passB (jl_cons (j_fld (fld_Season_rota Z_Season) (j_var 0)) (jl_cons (j_var 2) jl_nil))))
  · exact (js_expr (j_callD (lv := 6) D_check_possible (hr.mono (by decide)) passB (jl_cons (j_var 0) jl_nil)))
  · refine js_if (jt_not (jt_truth (j_callD (lv := 4) D_is_turning (hr.mono (by decide)) passB (jl_cons (j_var 0) (jl_cons (j_tup (jl_cons (j_var 1) (jl_cons (j_var 2) jl_nil))) jl_nil))))) ?_ ?_
    · refine js_cons ?_ js_nil
      · exact js_bad
    · exact js_nil
theorem d_check_turning {C_Rota : Addr} {C_Season : Addr} {C_Course : Addr} {fa : Addr} {fd : FuncData} (F : Fun K "check_turning" "check_turning" s_check_turning fa fd) (h1 : mg "check_turning" = some (.ref fa)) (h2 : PySem.W.keepIn K (.ref fa) = true) (b : Binds K fd ["season", "day", "wheel"] []) (T : Bl mg) (Z_Rota : Tx_Rota K mg C_Rota) (Z_Season : Tx_Season K mg C_Season) (Z_Course : Tx_Course K mg C_Course) (D_check_wheel : Df P w K mg base CT0 BB 4 "check_wheel" 2 ["rota", "wheel"] f_check_wheel) (D_check_possible : Df P w K mg base CT0 BB 6 "check_possible" 1 ["season"] f_check_possible) (D_is_turning : Df P w K mg base CT0 BB 4 "is_turning" 2 ["season", "pair"] f_is_turning) : Df P w K mg base CT0 BB 7 "check_turning" 3 ["season", "day", "wheel"] f_check_turning :=
  ⟨⟨fa, fd, fn_def (N := N_check_turning) (ps := ["season", "day", "wheel"]) (k := 6) (body := b_check_turning) F S_check_turning (by decide) fun _ _ _ _ _ _ hr => l_check_turning T Z_Rota Z_Season Z_Course D_check_wheel D_check_possible D_is_turning hr, h1, h2, b⟩, fnOf_len⟩
abbrev N_if_missed : List Str := ["season", "day", "wheel", "up"]
def C0_if_missed : SemN := nLc [3] (iSeq (fTup (lCons (fC (.int 0)) (lCons (fC (.int 1)) lNil)))) (tgName 3) fYes (fMeth 1 f_Season_seen [] (fVar 0) (lCons (fNew (nLst (lCons (fTup (lCons (fVar 1) (lCons (fVar 2) (lCons (fVar 3) lNil)))) (lCons (fTup (lCons (fBin pAdd (fVar 1) (fC (.int 1))) (lCons (fVar 2) (lCons (fVar 3) lNil)))) lNil)))) lNil))
def S0_if_missed : SSem := (sRet (fNew C0_if_missed))
def K0_if_missed : SSem := sSeq S0_if_missed sNil
def b_if_missed : SSem := K0_if_missed
def f_if_missed : List AV → T AV := fnOf 3 4 b_if_missed
theorem S_if_missed : FnScope N_if_missed ["season", "day", "wheel"] (defScope s_if_missed) := ⟨rfl, rfl, rfl, by decide +kernel, rfl, by decide +kernel, by decide +kernel⟩
theorem l_if_missed {C_Rota : Addr} {C_Season : Addr} {C_Course : Addr} (T : Bl mg) (Z_Rota : Tx_Rota K mg C_Rota) (Z_Season : Tx_Season K mg C_Season) (Z_Course : Tx_Course K mg C_Course) (D_Season_seen : Mf P w K mg base CT0 BB 8 1 "seen" 2 ["self", "looks"] f_Season_seen) {f : Addr} {cdv : Value} {A : Around} {outer : List Env} {s : Shared} {H : Hp} {E : XK} (hr : Room 8 (A.deeper (envOfC "if_missed" (defScope s_if_missed) s.heap.objs.size f cdv))) :
  JSs (cxOf (L2.CX P w) P w K mg base N_if_missed "if_missed" (defScope s_if_missed) f cdv A outer s H E) CT0 BB E (defBody s_if_missed) b_if_missed := by
  have S := S_if_missed
  have h64 : (A.deeper (envOfC "if_missed" (defScope s_if_missed) s.heap.objs.size f cdv)).units + 64 < cLine := by
    have := hr.un
    omega
  have h65 : (A.deeper (envOfC "if_missed" (defScope s_if_missed) s.heap.objs.size f cdv)).units + 65 < cLine := by
    have := hr.un
    omega
  have h1 : (A.deeper (envOfC "if_missed" (defScope s_if_missed) s.heap.objs.size f cdv)).units + 1 < cLine := by
    have := hr.un
    omega
  refine js_cons ?_ js_nil
  · exact (js_ret (j_new (jn_lc (own := [("up", 3)]) (by rfl) S.nd (blkOk_by (N := N_if_missed) (sc := defScope s_if_missed) (by decide +kernel)) (by decide) (ji_seq (j_tup (jl_cons j_int (jl_cons j_int jl_nil)))) (fun _ _ _ _ _ => (jg_name 3 S.nd)) (fun _ _ _ _ _ => jts_nil) (fun _ _ _ _ _ => (j_methD (lv := 8) D_Season_seen (hr.mono (by decide)) passE0 (j_var 0) (jl_cons (j_new (jn_lst (jl_cons (j_tup (jl_cons (j_var 1) (jl_cons (j_var 2) (jl_cons (j_var 3) jl_nil)))) (jl_cons (j_tup (jl_cons (j_bin' op_addA o_add (j_var 1) j_int) (jl_cons (j_var 2) (jl_cons (j_var 3) jl_nil)))) jl_nil)))) jl_nil))))))
theorem d_if_missed {C_Rota : Addr} {C_Season : Addr} {C_Course : Addr} {fa : Addr} {fd : FuncData} (F : Fun K "if_missed" "if_missed" s_if_missed fa fd) (h1 : mg "if_missed" = some (.ref fa)) (h2 : PySem.W.keepIn K (.ref fa) = true) (b : Binds K fd ["season", "day", "wheel"] []) (T : Bl mg) (Z_Rota : Tx_Rota K mg C_Rota) (Z_Season : Tx_Season K mg C_Season) (Z_Course : Tx_Course K mg C_Course) (D_Season_seen : Mf P w K mg base CT0 BB 8 1 "seen" 2 ["self", "looks"] f_Season_seen) : Df P w K mg base CT0 BB 9 "if_missed" 3 ["season", "day", "wheel"] f_if_missed :=
  ⟨⟨fa, fd, fn_def (N := N_if_missed) (ps := ["season", "day", "wheel"]) (k := 8) (body := b_if_missed) F S_if_missed (by decide) fun _ _ _ _ _ _ hr => l_if_missed T Z_Rota Z_Season Z_Course D_Season_seen hr, h1, h2, b⟩, fnOf_len⟩
abbrev N_if_made : List Str := ["season", "day", "wheel", "up"]
def C0_if_made : SemN := nLc [3] (iSeq (fTup (lCons (fC (.int 0)) (lCons (fC (.int 1)) lNil)))) (tgName 3) fYes (fMeth 1 f_Season_seen [] (fVar 0) (lCons (fNew (nLst (lCons (fTup (lCons (fVar 1) (lCons (fVar 2) (lCons (fVar 3) lNil)))) (lCons (fTup (lCons (fBin pAdd (fVar 1) (fC (.int 1))) (lCons (fVar 2) (lCons (fBin pSub (fC (.int 1)) (fVar 3)) lNil)))) lNil)))) lNil))
def S0_if_made : SSem := (sRet (fNew C0_if_made))
def K0_if_made : SSem := sSeq S0_if_made sNil
def b_if_made : SSem := K0_if_made
def f_if_made : List AV → T AV := fnOf 3 4 b_if_made
theorem S_if_made : FnScope N_if_made ["season", "day", "wheel"] (defScope s_if_made) := ⟨rfl, rfl, rfl, by decide +kernel, rfl, by decide +kernel, by decide +kernel⟩
theorem l_if_made {C_Rota : Addr} {C_Season : Addr} {C_Course : Addr} (T : Bl mg) (Z_Rota : Tx_Rota K mg C_Rota) (Z_Season : Tx_Season K mg C_Season) (Z_Course : Tx_Course K mg C_Course) (D_Season_seen : Mf P w K mg base CT0 BB 8 1 "seen" 2 ["self", "looks"] f_Season_seen) {f : Addr} {cdv : Value} {A : Around} {outer : List Env} {s : Shared} {H : Hp} {E : XK} (hr : Room 8 (A.deeper (envOfC "if_made" (defScope s_if_made) s.heap.objs.size f cdv))) :
  JSs (cxOf (L2.CX P w) P w K mg base N_if_made "if_made" (defScope s_if_made) f cdv A outer s H E) CT0 BB E (defBody s_if_made) b_if_made := by
  have S := S_if_made
  have h64 : (A.deeper (envOfC "if_made" (defScope s_if_made) s.heap.objs.size f cdv)).units + 64 < cLine := by
    have := hr.un
    omega
  have h65 : (A.deeper (envOfC "if_made" (defScope s_if_made) s.heap.objs.size f cdv)).units + 65 < cLine := by
    have := hr.un
    omega
  have h1 : (A.deeper (envOfC "if_made" (defScope s_if_made) s.heap.objs.size f cdv)).units + 1 < cLine := by
    have := hr.un
    omega
  refine js_cons ?_ js_nil
  · exact (js_ret (j_new (jn_lc (own := [("up", 3)]) (by rfl) S.nd (blkOk_by (N := N_if_made) (sc := defScope s_if_made) (by decide +kernel)) (by decide) (ji_seq (j_tup (jl_cons j_int (jl_cons j_int jl_nil)))) (fun _ _ _ _ _ => (jg_name 3 S.nd)) (fun _ _ _ _ _ => jts_nil) (fun _ _ _ _ _ => (j_methD (lv := 8) D_Season_seen (hr.mono (by decide)) passE0 (j_var 0) (jl_cons (j_new (jn_lst (jl_cons (j_tup (jl_cons (j_var 1) (jl_cons (j_var 2) (jl_cons (j_var 3) jl_nil)))) (jl_cons (j_tup (jl_cons (j_bin' op_addA o_add (j_var 1) j_int) (jl_cons (j_var 2) (jl_cons (j_bin op_sub o_sub j_int (j_var 3)) jl_nil)))) jl_nil)))) jl_nil))))))
theorem d_if_made {C_Rota : Addr} {C_Season : Addr} {C_Course : Addr} {fa : Addr} {fd : FuncData} (F : Fun K "if_made" "if_made" s_if_made fa fd) (h1 : mg "if_made" = some (.ref fa)) (h2 : PySem.W.keepIn K (.ref fa) = true) (b : Binds K fd ["season", "day", "wheel"] []) (T : Bl mg) (Z_Rota : Tx_Rota K mg C_Rota) (Z_Season : Tx_Season K mg C_Season) (Z_Course : Tx_Course K mg C_Course) (D_Season_seen : Mf P w K mg base CT0 BB 8 1 "seen" 2 ["self", "looks"] f_Season_seen) : Df P w K mg base CT0 BB 9 "if_made" 3 ["season", "day", "wheel"] f_if_made :=
  ⟨⟨fa, fd, fn_def (N := N_if_made) (ps := ["season", "day", "wheel"]) (k := 8) (body := b_if_made) F S_if_made (by decide) fun _ _ _ _ _ _ hr => l_if_made T Z_Rota Z_Season Z_Course D_Season_seen hr, h1, h2, b⟩, fnOf_len⟩
abbrev N_turning : List Str := ["season", "day", "wheel", "supposed"]
def C0_turning : SemN := nLc [3] (iSeq (fCall f_if_missed [] (lCons (fVar 0) (lCons (fVar 1) (lCons (fVar 2) lNil))))) (tgName 3) fYes (fCall f_possible [] (lCons (fVar 3) lNil))
def S1t0_turning : SSem := (sRet (fC (.str "made")))
def K1t0_turning : SSem := sSeq S1t0_turning sNil
def C1_turning : SemN := nLc [3] (iSeq (fCall f_if_made [] (lCons (fVar 0) (lCons (fVar 1) (lCons (fVar 2) lNil))))) (tgName 3) fYes (fCall f_possible [] (lCons (fVar 3) lNil))
def S0_turning : SSem := (sExpr (fCall f_check_turning [] (lCons (fVar 0) (lCons (fVar 1) (lCons (fVar 2) lNil)))))
def S1_turning : SSem := (sIf (fNotT (fTru (fUn pAny (fNew C0_turning)))) K1t0_turning sNil)
def S2_turning : SSem := (sRet (fIf (fTru (fUn pAny (fNew C1_turning))) (fC (.str "open")) (fC (.str "missed"))))
def K2_turning : SSem := sSeq S2_turning sNil
def K1_turning : SSem := sSeq S1_turning K2_turning
def K0_turning : SSem := sSeq S0_turning K1_turning
def b_turning : SSem := K0_turning
def f_turning : List AV → T AV := fnOf 3 4 b_turning
theorem S_turning : FnScope N_turning ["season", "day", "wheel"] (defScope s_turning) := ⟨rfl, rfl, rfl, by decide +kernel, rfl, by decide +kernel, by decide +kernel⟩
theorem l_turning {C_Rota : Addr} {C_Season : Addr} {C_Course : Addr} (T : Bl mg) (Z_Rota : Tx_Rota K mg C_Rota) (Z_Season : Tx_Season K mg C_Season) (Z_Course : Tx_Course K mg C_Course) (D_check_turning : Df P w K mg base CT0 BB 7 "check_turning" 3 ["season", "day", "wheel"] f_check_turning) (D_if_missed : Df P w K mg base CT0 BB 9 "if_missed" 3 ["season", "day", "wheel"] f_if_missed) (D_possible : Df P w K mg base CT0 BB 5 "possible" 1 ["season"] f_possible) (D_if_made : Df P w K mg base CT0 BB 9 "if_made" 3 ["season", "day", "wheel"] f_if_made) {f : Addr} {cdv : Value} {A : Around} {outer : List Env} {s : Shared} {H : Hp} {E : XK} (hr : Room 9 (A.deeper (envOfC "turning" (defScope s_turning) s.heap.objs.size f cdv))) :
  JSs (cxOf (L2.CX P w) P w K mg base N_turning "turning" (defScope s_turning) f cdv A outer s H E) CT0 BB E (defBody s_turning) b_turning := by
  have S := S_turning
  have h64 : (A.deeper (envOfC "turning" (defScope s_turning) s.heap.objs.size f cdv)).units + 64 < cLine := by
    have := hr.un
    omega
  have h65 : (A.deeper (envOfC "turning" (defScope s_turning) s.heap.objs.size f cdv)).units + 65 < cLine := by
    have := hr.un
    omega
  have h1 : (A.deeper (envOfC "turning" (defScope s_turning) s.heap.objs.size f cdv)).units + 1 < cLine := by
    have := hr.un
    omega
  refine js_cons ?_ (js_cons ?_ (js_cons ?_ js_nil))
  · exact (js_expr (j_callD (lv := 7) D_check_turning (hr.mono (by decide)) passB (jl_cons (j_var 0) (jl_cons (j_var 1) (jl_cons (j_var 2) jl_nil)))))
  · refine js_if (jt_not (jt_truth (j_callB (cr_any rfl) o_any (by rfl) T.n_any (by decide +kernel) (j_new (jn_lc (own := [("supposed", 3)]) (by rfl) S.nd (blkOk_by (N := N_turning) (sc := defScope s_turning) (by decide +kernel)) (by decide) (ji_seq (j_callD (lv := 9) D_if_missed (hr.mono (by decide)) passB (jl_cons (j_var 0) (jl_cons (j_var 1) (jl_cons (j_var 2) jl_nil))))) (fun _ _ _ _ _ => (jg_name 3 S.nd)) (fun _ _ _ _ _ => jts_nil) (fun _ _ _ _ _ => (j_callD (lv := 5) D_possible (hr.mono (by decide)) passE0 (jl_cons (j_var 3) jl_nil)))))))) ?_ ?_
    · refine js_cons ?_ js_nil
      · exact (js_ret j_str)
    · exact js_nil
  · exact (js_ret (j_ifExp (jt_truth (j_callB (cr_any rfl) o_any (by rfl) T.n_any (by decide +kernel) (j_new (jn_lc (own := [("supposed", 3)]) (by rfl) S.nd (blkOk_by (N := N_turning) (sc := defScope s_turning) (by decide +kernel)) (by decide) (ji_seq (j_callD (lv := 9) D_if_made (hr.mono (by decide)) passB (jl_cons (j_var 0) (jl_cons (j_var 1) (jl_cons (j_var 2) jl_nil))))) (fun _ _ _ _ _ => (jg_name 3 S.nd)) (fun _ _ _ _ _ => jts_nil) (fun _ _ _ _ _ => (j_callD (lv := 5) D_possible (hr.mono (by decide)) passE0 (jl_cons (j_var 3) jl_nil))))))) j_str j_str))
theorem d_turning {C_Rota : Addr} {C_Season : Addr} {C_Course : Addr} {fa : Addr} {fd : FuncData} (F : Fun K "turning" "turning" s_turning fa fd) (h1 : mg "turning" = some (.ref fa)) (h2 : PySem.W.keepIn K (.ref fa) = true) (b : Binds K fd ["season", "day", "wheel"] []) (T : Bl mg) (Z_Rota : Tx_Rota K mg C_Rota) (Z_Season : Tx_Season K mg C_Season) (Z_Course : Tx_Course K mg C_Course) (D_check_turning : Df P w K mg base CT0 BB 7 "check_turning" 3 ["season", "day", "wheel"] f_check_turning) (D_if_missed : Df P w K mg base CT0 BB 9 "if_missed" 3 ["season", "day", "wheel"] f_if_missed) (D_possible : Df P w K mg base CT0 BB 5 "possible" 1 ["season"] f_possible) (D_if_made : Df P w K mg base CT0 BB 9 "if_made" 3 ["season", "day", "wheel"] f_if_made) : Df P w K mg base CT0 BB 10 "turning" 3 ["season", "day", "wheel"] f_turning :=
  ⟨⟨fa, fd, fn_def (N := N_turning) (ps := ["season", "day", "wheel"]) (k := 9) (body := b_turning) F S_turning (by decide) fun _ _ _ _ _ _ hr => l_turning T Z_Rota Z_Season Z_Course D_check_turning D_if_missed D_possible D_if_made hr, h1, h2, b⟩, fnOf_len⟩
abbrev N_law_case_right : List Str := ["_law_rota", "_law_budget", "_law_looks", "_law_few", "_law_ups", "_law_turns", "_law_made", "_law_told", "_law_seen", "_law_gone", "_law_day"]
def S1t0_law_case_right : SSem := (sRet (fC (.bl false)))
def K1t0_law_case_right : SSem := sSeq S1t0_law_case_right sNil
theorem U1t0_law_case_right {a : Dn.Slot} {l : Env'} : K1t0_law_case_right (a :: l) = sSeq S1t0_law_case_right sNil (a :: l) := rfl
def S2t0_law_case_right : SSem := (sRet (fC (.bl false)))
def K2t0_law_case_right : SSem := sSeq S2t0_law_case_right sNil
theorem U2t0_law_case_right {a : Dn.Slot} {l : Env'} : K2t0_law_case_right (a :: l) = sSeq S2t0_law_case_right sNil (a :: l) := rfl
def S3t0_law_case_right : SSem := (sRet (fC (.bl true)))
def K3t0_law_case_right : SSem := sSeq S3t0_law_case_right sNil
theorem U3t0_law_case_right {a : Dn.Slot} {l : Env'} : K3t0_law_case_right (a :: l) = sSeq S3t0_law_case_right sNil (a :: l) := rfl
def C0_law_case_right : SemN := nLc [10] (iRange1 (fC (.int 7))) (tgName 10) fYes (fUn (pLk [(some 0, "0"), (some 1, "1"), (none, "?")]) (fCall f_side [] (lCons (fVar 6) (lCons (fC (.int 0)) (lCons (fVar 10) lNil)))))
def C1_law_case_right : SemN := nLc [10] (iRange1 (fC (.int 6))) (tgName 10) fYes (fUn (pLkT [("made", "M"), ("missed", "X"), ("open", "?")]) (fCall f_turning [] (lCons (fVar 6) (lCons (fVar 10) (lCons (fC (.int 0)) lNil)))))
def C2_law_case_right : SemN := nLc [10] (iRange1 (fC (.int 6))) (tgName 10) (fBlT (fBin pEq (fBin pIx (fVar 5) (fVar 10)) (fC (.str "X")))) (fTup (lCons (fVar 10) (lCons (fC (.int 0)) lNil)))
def S0_law_case_right : SSem := (sSet 6 (fMakeD f_Season [] (lCons (fVar 0) (lCons (fC (.int 6)) (lCons (fVar 1) (lCons (fVar 2) lNil))))))
def S1_law_case_right : SSem := (sIf (fBlT (fBin pNe (fCall f_least [] (lCons (fVar 6) lNil)) (fIf (fBlT (fBin pEq (fVar 3) (fC (.int 9)))) (fC .non) (fVar 3)))) K1t0_law_case_right sNil)
def S2_law_case_right : SSem := (sIf (fBlT (fBin pNe (fCall f_possible [] (lCons (fVar 6) lNil)) (fBin pNe (fVar 4) (fC (.str ""))))) K2t0_law_case_right sNil)
def S3_law_case_right : SSem := (sIf (fBlT (fBin pEq (fVar 4) (fC (.str "")))) K3t0_law_case_right sNil)
def S4_law_case_right : SSem := (sSet 7 (fUn (pJoinA "") (fNew C0_law_case_right)))
def S5_law_case_right : SSem := (sSet 8 (fUn (pJoinA "") (fNew C1_law_case_right)))
def S6_law_case_right : SSem := (sSet 9 (fUn pTuple (fNew C2_law_case_right)))
def S7_law_case_right : SSem := (sRet (fAnd (fBin pEq (fVar 7) (fVar 4)) (fAnd (fBin pEq (fVar 8) (fVar 5)) (fAnd (fBin pEq (fCall f_surely_missed [] (lCons (fVar 6) lNil)) (fVar 9)) (fBin pEq (fCall f_slack [] (lCons (fVar 6) lNil)) (fBin pSub (fVar 1) (fVar 3)))))))
def K7_law_case_right : SSem := sSeq S7_law_case_right sNil
theorem U7_law_case_right {a : Dn.Slot} {l : Env'} : K7_law_case_right (a :: l) = sSeq S7_law_case_right sNil (a :: l) := rfl
def K6_law_case_right : SSem := sSeq S6_law_case_right K7_law_case_right
theorem U6_law_case_right {a : Dn.Slot} {l : Env'} : K6_law_case_right (a :: l) = sSeq S6_law_case_right K7_law_case_right (a :: l) := rfl
def K5_law_case_right : SSem := sSeq S5_law_case_right K6_law_case_right
theorem U5_law_case_right {a : Dn.Slot} {l : Env'} : K5_law_case_right (a :: l) = sSeq S5_law_case_right K6_law_case_right (a :: l) := rfl
def K4_law_case_right : SSem := sSeq S4_law_case_right K5_law_case_right
theorem U4_law_case_right {a : Dn.Slot} {l : Env'} : K4_law_case_right (a :: l) = sSeq S4_law_case_right K5_law_case_right (a :: l) := rfl
def K3_law_case_right : SSem := sSeq S3_law_case_right K4_law_case_right
theorem U3_law_case_right {a : Dn.Slot} {l : Env'} : K3_law_case_right (a :: l) = sSeq S3_law_case_right K4_law_case_right (a :: l) := rfl
def K2_law_case_right : SSem := sSeq S2_law_case_right K3_law_case_right
theorem U2_law_case_right {a : Dn.Slot} {l : Env'} : K2_law_case_right (a :: l) = sSeq S2_law_case_right K3_law_case_right (a :: l) := rfl
def K1_law_case_right : SSem := sSeq S1_law_case_right K2_law_case_right
theorem U1_law_case_right {a : Dn.Slot} {l : Env'} : K1_law_case_right (a :: l) = sSeq S1_law_case_right K2_law_case_right (a :: l) := rfl
def K0_law_case_right : SSem := sSeq S0_law_case_right K1_law_case_right
theorem U0_law_case_right {a : Dn.Slot} {l : Env'} : K0_law_case_right (a :: l) = sSeq S0_law_case_right K1_law_case_right (a :: l) := rfl
def b_law_case_right : SSem := K0_law_case_right
def f_law_case_right : List AV → T AV := fnOf 6 11 b_law_case_right
theorem S_law_case_right : FnScope N_law_case_right ["_law_rota", "_law_budget", "_law_looks", "_law_few", "_law_ups", "_law_turns"] (defScope s_law_case_right) := ⟨rfl, rfl, rfl, by decide +kernel, rfl, by decide +kernel, by decide +kernel⟩
theorem l_law_case_right {C_Rota : Addr} {C_Season : Addr} {C_Course : Addr} (T : Bl mg) (Z_Rota : Tx_Rota K mg C_Rota) (Z_Season : Tx_Season K mg C_Season) (Z_Course : Tx_Course K mg C_Course) (D_Season : CfD P w K mg base CT0 BB 6 "Season" 1 4 ["self", "rota", "days", "budget", "looks"] [.tup []] f_Season) (D_least : Df P w K mg base CT0 BB 4 "least" 1 ["season"] f_least) (D_possible : Df P w K mg base CT0 BB 5 "possible" 1 ["season"] f_possible) (D_side : Df P w K mg base CT0 BB 10 "side" 3 ["season", "wheel", "day"] f_side) (D_turning : Df P w K mg base CT0 BB 10 "turning" 3 ["season", "day", "wheel"] f_turning) (D_surely_missed : Df P w K mg base CT0 BB 7 "surely_missed" 1 ["season"] f_surely_missed) (D_slack : Df P w K mg base CT0 BB 7 "slack" 1 ["season"] f_slack) {f : Addr} {cdv : Value} {A : Around} {outer : List Env} {s : Shared} {H : Hp} {E : XK} (hr : Room 10 (A.deeper (envOfC "_law_case_right" (defScope s_law_case_right) s.heap.objs.size f cdv))) :
  JSs (cxOf (L2.CX P w) P w K mg base N_law_case_right "_law_case_right" (defScope s_law_case_right) f cdv A outer s H E) CT0 BB E (defBody s_law_case_right) b_law_case_right := by
  have S := S_law_case_right
  have h64 : (A.deeper (envOfC "_law_case_right" (defScope s_law_case_right) s.heap.objs.size f cdv)).units + 64 < cLine := by
    have := hr.un
    omega
  have h65 : (A.deeper (envOfC "_law_case_right" (defScope s_law_case_right) s.heap.objs.size f cdv)).units + 65 < cLine := by
    have := hr.un
    omega
  have h1 : (A.deeper (envOfC "_law_case_right" (defScope s_law_case_right) s.heap.objs.size f cdv)).units + 1 < cLine := by
    have := hr.un
    omega
  refine js_cons ?_ (js_cons ?_ (js_cons ?_ (js_cons ?_ (js_cons ?_ (js_cons ?_ (js_cons ?_ (js_cons ?_ js_nil)))))))
  · exact (js_set 6 (j_makeA (lv := 6) D_Season (hr.mono (by decide)) passB (jl_cons (j_var 0) (jl_cons j_int (jl_cons (j_var 1) (jl_cons (j_var 2) jl_nil))))) S.nd)
  · refine js_if (jt_cmp (op_neD h64) o_ne.op (j_callD (lv := 4) D_least (hr.mono (by decide)) passB (jl_cons (j_var 6) jl_nil)) (j_ifExp (jt_cmp (op_eqD h64) o_eq.op (j_var 3) j_int (nomark _)) j_non (j_var 3)) (nomark _)) ?_ ?_
    · refine js_cons ?_ js_nil
      · exact (js_ret j_bl)
    · exact js_nil
  · refine js_if (jt_cmp (op_neD h64) o_ne.op (j_callD (lv := 5) D_possible (hr.mono (by decide)) passB (jl_cons (j_var 6) jl_nil)) (j_cmp (op_neD h64) o_ne.op (j_var 4) j_str (nomark _)) (nomark _)) ?_ ?_
    · refine js_cons ?_ js_nil
      · exact (js_ret j_bl)
    · exact js_nil
  · refine js_if (jt_cmp (op_eqD h64) o_eq.op (j_var 4) j_str (nomark _)) ?_ ?_
    · refine js_cons ?_ js_nil
      · exact (js_ret j_bl)
    · exact js_nil
  · exact (js_set 7 (j_join (j_new (jn_lc (own := [("_law_day", 10)]) (by rfl) S.nd (blkOk_by (N := N_law_case_right) (sc := defScope s_law_case_right) (by decide +kernel)) (by decide) (ji_range1 (by rfl) T.n_range j_int) (fun _ _ _ _ _ => (jg_name 10 S.nd)) (fun _ _ _ _ _ => jts_nil) (fun _ _ _ _ _ => (j_lk (tb := [(some 0, "0"), (some 1, "1"), (none, "?")]) (pps_cons pe_int pe_str (pps_cons pe_int pe_str (pps_cons pe_non pe_str pps_nil))) (fun _ _ _ h => h) (j_callD (lv := 10) D_side (hr.mono (by decide)) passE0 (jl_cons (j_var 6) (jl_cons j_int (jl_cons (j_var 10) jl_nil))))))))) S.nd)
  · exact (js_set 8 (j_join (j_new (jn_lc (own := [("_law_day", 10)]) (by rfl) S.nd (blkOk_by (N := N_law_case_right) (sc := defScope s_law_case_right) (by decide +kernel)) (by decide) (ji_range1 (by rfl) T.n_range j_int) (fun _ _ _ _ _ => (jg_name 10 S.nd)) (fun _ _ _ _ _ => jts_nil) (fun _ _ _ _ _ => (j_lkT (tb := [("made", "M"), ("missed", "X"), ("open", "?")]) (pps_cons pe_str pe_str (pps_cons pe_str pe_str (pps_cons pe_str pe_str pps_nil))) (fun _ _ _ h => h) (j_callD (lv := 10) D_turning (hr.mono (by decide)) passE0 (jl_cons (j_var 6) (jl_cons (j_var 10) (jl_cons j_int jl_nil)))) h1))))) S.nd)
  · exact (js_set 9 (j_callTy call_tuple_of o_tuple (by rfl) T.n_tuple (by decide +kernel) (j_new (jn_lc (own := [("_law_day", 10)]) (by rfl) S.nd (blkOk_by (N := N_law_case_right) (sc := defScope s_law_case_right) (by decide +kernel)) (by decide) (ji_range1 (by rfl) T.n_range j_int) (fun _ _ _ _ _ => (jg_name 10 S.nd)) (fun _ _ _ _ _ => (jts_one (jt_cmp (op_eqD h64) o_eq.op (j_ix (j_var 5) (j_var 10)) j_str (nomark _)))) (fun _ _ _ _ _ => (j_tup (jl_cons (j_var 10) (jl_cons j_int jl_nil))))))) S.nd)
  · exact (js_ret (j_and (j_cmp (op_eqD h64) o_eq.op (j_var 7) (j_var 4) (nomark _)) (j_and (j_cmp (op_eqD h64) o_eq.op (j_var 8) (j_var 5) (nomark _)) (j_and (j_cmp (op_eqD h64) o_eq.op (j_callD (lv := 7) D_surely_missed (hr.mono (by decide)) passB (jl_cons (j_var 6) jl_nil)) (j_var 9) (nomark _)) (j_one (j_cmp (op_eqD h64) o_eq.op (j_callD (lv := 7) D_slack (hr.mono (by decide)) passB (jl_cons (j_var 6) jl_nil)) (j_bin op_sub o_sub (j_var 1) (j_var 3)) (nomark _)))))))
theorem d_law_case_right {C_Rota : Addr} {C_Season : Addr} {C_Course : Addr} {fa : Addr} {fd : FuncData} (F : Fun K "_law_case_right" "_law_case_right" s_law_case_right fa fd) (h1 : mg "_law_case_right" = some (.ref fa)) (h2 : PySem.W.keepIn K (.ref fa) = true) (b : Binds K fd ["_law_rota", "_law_budget", "_law_looks", "_law_few", "_law_ups", "_law_turns"] []) (T : Bl mg) (Z_Rota : Tx_Rota K mg C_Rota) (Z_Season : Tx_Season K mg C_Season) (Z_Course : Tx_Course K mg C_Course) (D_Season : CfD P w K mg base CT0 BB 6 "Season" 1 4 ["self", "rota", "days", "budget", "looks"] [.tup []] f_Season) (D_least : Df P w K mg base CT0 BB 4 "least" 1 ["season"] f_least) (D_possible : Df P w K mg base CT0 BB 5 "possible" 1 ["season"] f_possible) (D_side : Df P w K mg base CT0 BB 10 "side" 3 ["season", "wheel", "day"] f_side) (D_turning : Df P w K mg base CT0 BB 10 "turning" 3 ["season", "day", "wheel"] f_turning) (D_surely_missed : Df P w K mg base CT0 BB 7 "surely_missed" 1 ["season"] f_surely_missed) (D_slack : Df P w K mg base CT0 BB 7 "slack" 1 ["season"] f_slack) : Df P w K mg base CT0 BB 11 "_law_case_right" 6 ["_law_rota", "_law_budget", "_law_looks", "_law_few", "_law_ups", "_law_turns"] f_law_case_right :=
  ⟨⟨fa, fd, fn_def (N := N_law_case_right) (ps := ["_law_rota", "_law_budget", "_law_looks", "_law_few", "_law_ups", "_law_turns"]) (k := 10) (body := b_law_case_right) F S_law_case_right (by decide) fun _ _ _ _ _ _ hr => l_law_case_right T Z_Rota Z_Season Z_Course D_Season D_least D_possible D_side D_turning D_surely_missed D_slack hr, h1, h2, b⟩, fnOf_len⟩
abbrev N_least_need : List Str := ["stretches", "_", "odd"]
def C0_least_need : SemN := nLc [1, 2] (iSeq (fVar 0)) (tgTup 2 (tgCons (tgName 1) (tgCons (tgName 2) tgNil))) fYes (fVar 2)
def S0_least_need : SSem := (sRet (fUn pSumB (fNew C0_least_need)))
def K0_least_need : SSem := sSeq S0_least_need sNil
def b_least_need : SSem := K0_least_need
def f_least_need : List AV → T AV := fnOf 1 3 b_least_need
theorem S_least_need : FnScope N_least_need ["stretches"] (defScope s_least_need) := ⟨rfl, rfl, rfl, by decide +kernel, rfl, by decide +kernel, by decide +kernel⟩
theorem l_least_need {C_Rota : Addr} {C_Season : Addr} {C_Course : Addr} (T : Bl mg) (Z_Rota : Tx_Rota K mg C_Rota) (Z_Season : Tx_Season K mg C_Season) (Z_Course : Tx_Course K mg C_Course) {f : Addr} {cdv : Value} {A : Around} {outer : List Env} {s : Shared} {H : Hp} {E : XK} (hr : Room 0 (A.deeper (envOfC "least_need" (defScope s_least_need) s.heap.objs.size f cdv))) :
  JSs (cxOf (L2.CX P w) P w K mg base N_least_need "least_need" (defScope s_least_need) f cdv A outer s H E) CT0 BB E (defBody s_least_need) b_least_need := by
  have S := S_least_need
  have h64 : (A.deeper (envOfC "least_need" (defScope s_least_need) s.heap.objs.size f cdv)).units + 64 < cLine := by
    have := hr.un
    omega
  have h65 : (A.deeper (envOfC "least_need" (defScope s_least_need) s.heap.objs.size f cdv)).units + 65 < cLine := by
    have := hr.un
    omega
  have h1 : (A.deeper (envOfC "least_need" (defScope s_least_need) s.heap.objs.size f cdv)).units + 1 < cLine := by
    have := hr.un
    omega
  refine js_cons ?_ js_nil
  · exact (js_ret (j_callB (cr_sumB rfl) o_sumB (by rfl) T.n_sum (by decide +kernel) (j_new (jn_lc (own := [("_", 1), ("odd", 2)]) (by rfl) S.nd (blkOk_by (N := N_least_need) (sc := defScope s_least_need) (by decide +kernel)) (by decide) (ji_seq (j_var 0)) (fun _ _ _ _ _ => (jg_tup (by rfl) (jg_cons (jg_name 1 S.nd) (jg_cons (jg_name 2 S.nd) jg_nil)))) (fun _ _ _ _ _ => jts_nil) (fun _ _ _ _ _ => (j_var 2))))))
theorem d_least_need {C_Rota : Addr} {C_Season : Addr} {C_Course : Addr} {fa : Addr} {fd : FuncData} (F : Fun K "least_need" "least_need" s_least_need fa fd) (h1 : mg "least_need" = some (.ref fa)) (h2 : PySem.W.keepIn K (.ref fa) = true) (b : Binds K fd ["stretches"] []) (T : Bl mg) (Z_Rota : Tx_Rota K mg C_Rota) (Z_Season : Tx_Season K mg C_Season) (Z_Course : Tx_Course K mg C_Course) : Df P w K mg base CT0 BB 1 "least_need" 1 ["stretches"] f_least_need :=
  ⟨⟨fa, fd, fn_def (N := N_least_need) (ps := ["stretches"]) (k := 0) (body := b_least_need) F S_least_need (by decide) fun _ _ _ _ _ _ hr => l_least_need T Z_Rota Z_Season Z_Course  hr, h1, h2, b⟩, fnOf_len⟩
abbrev N_Course_within : List Str := ["self", "most", "spare", "pairs", "many"]
def C0_Course_within : SemN := nLc [3, 4] (iEnum (fUn (pFld 2 2) (fVar 0))) (tgTup 2 (tgCons (tgName 3) (tgCons (tgName 4) tgNil))) (fBlT (fBin pLe (fBin pMul (fC (.int 2)) (fVar 3)) (fVar 2))) (fBin pMul (fVar 4) (fBin pIx (fUn (pFld 2 3) (fVar 0)) (fBin pSub (fVar 2) (fBin pMul (fC (.int 2)) (fVar 3)))))
def S0_Course_within : SSem := (sSet 2 (fBin pSub (fVar 1) (fCall f_least_need [] (lCons (fUn (pFld 2 1) (fVar 0)) lNil))))
def S1_Course_within : SSem := (sRet (fUn pSum (fNew C0_Course_within)))
def K1_Course_within : SSem := sSeq S1_Course_within sNil
def K0_Course_within : SSem := sSeq S0_Course_within K1_Course_within
def b_Course_within : SSem := K0_Course_within
def f_Course_within : List AV → T AV := fnOf 2 5 b_Course_within
theorem S_Course_within : FnScope N_Course_within ["self", "most"] (defScope s_Course_within) := ⟨rfl, rfl, rfl, by decide +kernel, rfl, by decide +kernel, by decide +kernel⟩
theorem l_Course_within {C_Rota : Addr} {C_Season : Addr} {C_Course : Addr} (T : Bl mg) (Z_Rota : Tx_Rota K mg C_Rota) (Z_Season : Tx_Season K mg C_Season) (Z_Course : Tx_Course K mg C_Course) (D_least_need : Df P w K mg base CT0 BB 1 "least_need" 1 ["stretches"] f_least_need) {f : Addr} {cdv : Value} {A : Around} {outer : List Env} {s : Shared} {H : Hp} {E : XK} (hr : Room 1 (A.deeper (envOfC "Course.within" (defScope s_Course_within) s.heap.objs.size f cdv))) :
  JSs (cxOf (L2.CX P w) P w K mg base N_Course_within "Course.within" (defScope s_Course_within) f cdv A outer s H E) CT0 BB E (defBody s_Course_within) b_Course_within := by
  have S := S_Course_within
  have h64 : (A.deeper (envOfC "Course.within" (defScope s_Course_within) s.heap.objs.size f cdv)).units + 64 < cLine := by
    have := hr.un
    omega
  have h65 : (A.deeper (envOfC "Course.within" (defScope s_Course_within) s.heap.objs.size f cdv)).units + 65 < cLine := by
    have := hr.un
    omega
  have h1 : (A.deeper (envOfC "Course.within" (defScope s_Course_within) s.heap.objs.size f cdv)).units + 1 < cLine := by
    have := hr.un
    omega
  refine js_cons ?_ (js_cons ?_ js_nil)
  · exact (js_set 2 (j_bin op_sub o_sub (j_var 1) (j_callD (lv := 1) D_least_need (hr.mono (by decide)) passB (jl_cons (j_fld (fld_Course_stretches Z_Course) (j_var 0)) jl_nil))) S.nd)
  · exact (js_ret (j_callB (cr_sum rfl) o_sum (by rfl) T.n_sum (by decide +kernel) (j_new (jn_lc (own := [("pairs", 3), ("many", 4)]) (by rfl) S.nd (blkOk_by (N := N_Course_within) (sc := defScope s_Course_within) (by decide +kernel)) (by decide) (ji_enumA (by rfl) T.n_enumerate (j_fld (fld_Course_ways Z_Course) (j_var 0))) (fun _ _ _ _ _ => (jg_tup (by rfl) (jg_cons (jg_name 3 S.nd) (jg_cons (jg_name 4 S.nd) jg_nil)))) (fun _ _ _ _ _ => (jts_one (jt_cmp op_le o_le.op (j_bin' op_mulA o_mul j_int (j_var 3)) (j_var 2) (nomark _)))) (fun _ _ _ _ _ => (j_bin' op_mulA o_mul (j_var 4) (j_ix (j_fld (fld_Course_sums Z_Course) (j_var 0)) (j_bin op_sub o_sub (j_var 2) (j_bin' op_mulA o_mul j_int (j_var 3))))))))))
theorem d_Course_within {C_Rota : Addr} {C_Season : Addr} {C_Course : Addr} {fa : Addr} {fd : FuncData} (F : Fun K "within" "Course.within" s_Course_within fa fd) (M : Meth K C_Course "within" fa) (b : Binds K fd ["self", "most"] []) (T : Bl mg) (Z_Rota : Tx_Rota K mg C_Rota) (Z_Season : Tx_Season K mg C_Season) (Z_Course : Tx_Course K mg C_Course) (D_least_need : Df P w K mg base CT0 BB 1 "least_need" 1 ["stretches"] f_least_need) : Mf P w K mg base CT0 BB 2 2 "within" 2 ["self", "most"] f_Course_within :=
  ⟨⟨C_Course, fa, fd, fn_def (N := N_Course_within) (ps := ["self", "most"]) (k := 1) (body := b_Course_within) F S_Course_within (by decide) fun _ _ _ _ _ _ hr => l_Course_within T Z_Rota Z_Season Z_Course D_least_need hr, b, Z_Course.cl, M, Z_Course.mgC⟩, by decide +kernel, fnOf_len⟩
abbrev N_Course_many : List Str := ["self"]
def S0_Course_many : SSem := (sRet (fMeth 2 f_Course_within [] (fVar 0) (lCons (fUn (pFld 2 4) (fVar 0)) lNil)))
def K0_Course_many : SSem := sSeq S0_Course_many sNil
def b_Course_many : SSem := K0_Course_many
def f_Course_many : List AV → T AV := fnOf 1 1 b_Course_many
theorem S_Course_many : FnScope N_Course_many ["self"] (defScope s_Course_many) := ⟨rfl, rfl, rfl, by decide +kernel, rfl, by decide +kernel, by decide +kernel⟩
theorem l_Course_many {C_Rota : Addr} {C_Season : Addr} {C_Course : Addr} (T : Bl mg) (Z_Rota : Tx_Rota K mg C_Rota) (Z_Season : Tx_Season K mg C_Season) (Z_Course : Tx_Course K mg C_Course) (D_Course_within : Mf P w K mg base CT0 BB 2 2 "within" 2 ["self", "most"] f_Course_within) {f : Addr} {cdv : Value} {A : Around} {outer : List Env} {s : Shared} {H : Hp} {E : XK} (hr : Room 2 (A.deeper (envOfC "Course.many" (defScope s_Course_many) s.heap.objs.size f cdv))) :
  JSs (cxOf (L2.CX P w) P w K mg base N_Course_many "Course.many" (defScope s_Course_many) f cdv A outer s H E) CT0 BB E (defBody s_Course_many) b_Course_many := by
  have S := S_Course_many
  have h64 : (A.deeper (envOfC "Course.many" (defScope s_Course_many) s.heap.objs.size f cdv)).units + 64 < cLine := by
    have := hr.un
    omega
  have h65 : (A.deeper (envOfC "Course.many" (defScope s_Course_many) s.heap.objs.size f cdv)).units + 65 < cLine := by
    have := hr.un
    omega
  have h1 : (A.deeper (envOfC "Course.many" (defScope s_Course_many) s.heap.objs.size f cdv)).units + 1 < cLine := by
    have := hr.un
    omega
  refine js_cons ?_ js_nil
  · exact (js_ret (j_methD (lv := 2) D_Course_within (hr.mono (by decide)) passB (j_var 0) (jl_cons (j_fld (fld_Course_left Z_Course) (j_var 0)) jl_nil)))
theorem d_Course_many {C_Rota : Addr} {C_Season : Addr} {C_Course : Addr} {fa : Addr} {fd : FuncData} (F : Fun K "many" "Course.many" s_Course_many fa fd) (M : Meth K C_Course "many" fa) (b : Binds K fd ["self"] []) (T : Bl mg) (Z_Rota : Tx_Rota K mg C_Rota) (Z_Season : Tx_Season K mg C_Season) (Z_Course : Tx_Course K mg C_Course) (D_Course_within : Mf P w K mg base CT0 BB 2 2 "within" 2 ["self", "most"] f_Course_within) : Mf P w K mg base CT0 BB 3 2 "many" 1 ["self"] f_Course_many :=
  ⟨⟨C_Course, fa, fd, fn_def (N := N_Course_many) (ps := ["self"]) (k := 2) (body := b_Course_many) F S_Course_many (by decide) fun _ _ _ _ _ _ hr => l_Course_many T Z_Rota Z_Season Z_Course D_Course_within hr, b, Z_Course.cl, M, Z_Course.mgC⟩, by decide +kernel, fnOf_len⟩
abbrev N_Course_init : List Str := ["self", "stretch_of", "stretches", "ways", "sums", "left"]
def S0_Course_init : SSem := (sFldSet 0 2 0 (fVar 1))
def S1_Course_init : SSem := (sFldSet 0 2 1 (fVar 2))
def S2_Course_init : SSem := (sFldSet 0 2 2 (fVar 3))
def S3_Course_init : SSem := (sFldSet 0 2 3 (fVar 4))
def S4_Course_init : SSem := (sFldSet 0 2 4 (fVar 5))
def K4_Course_init : SSem := sSeq S4_Course_init sNil
def K3_Course_init : SSem := sSeq S3_Course_init K4_Course_init
def K2_Course_init : SSem := sSeq S2_Course_init K3_Course_init
def K1_Course_init : SSem := sSeq S1_Course_init K2_Course_init
def K0_Course_init : SSem := sSeq S0_Course_init K1_Course_init
def b_Course : SSem := K0_Course_init
def f_Course : List AV → T AV := fnInit 5 6 2 5 b_Course
theorem S_Course : FnScope N_Course_init ["self", "stretch_of", "stretches", "ways", "sums", "left"] (defScope s_Course_init) := ⟨rfl, rfl, rfl, by decide +kernel, rfl, by decide +kernel, by decide +kernel⟩
theorem l_Course {C_Rota : Addr} {C_Season : Addr} {C_Course : Addr} (T : Bl mg) (Z_Rota : Tx_Rota K mg C_Rota) (Z_Season : Tx_Season K mg C_Season) (Z_Course : Tx_Course K mg C_Course) {f : Addr} {cdv : Value} {A : Around} {outer : List Env} {s : Shared} {H : Hp} {E : XK} (hr : Room 0 (A.deeper (envOfC "Course.__init__" (defScope s_Course_init) s.heap.objs.size f cdv))) :
  JSs (cxOf (L2.CX P w) P w K mg base N_Course_init "Course.__init__" (defScope s_Course_init) f cdv A outer s H E) CT0 BB E (defBody s_Course_init) b_Course := by
  have S := S_Course
  have h64 : (A.deeper (envOfC "Course.__init__" (defScope s_Course_init) s.heap.objs.size f cdv)).units + 64 < cLine := by
    have := hr.un
    omega
  have h65 : (A.deeper (envOfC "Course.__init__" (defScope s_Course_init) s.heap.objs.size f cdv)).units + 65 < cLine := by
    have := hr.un
    omega
  have h1 : (A.deeper (envOfC "Course.__init__" (defScope s_Course_init) s.heap.objs.size f cdv)).units + 1 < cLine := by
    have := hr.un
    omega
  refine js_cons ?_ (js_cons ?_ (js_cons ?_ (js_cons ?_ (js_cons ?_ js_nil))))
  · exact (js_fld 0 (fld_Course_stretch_of Z_Course) (j_var 1) (by decide))
  · exact (js_fld 0 (fld_Course_stretches Z_Course) (j_var 2) (by decide))
  · exact (js_fld 0 (fld_Course_ways Z_Course) (j_var 3) (by decide))
  · exact (js_fld 0 (fld_Course_sums Z_Course) (j_var 4) (by decide))
  · exact (js_fld 0 (fld_Course_left Z_Course) (j_var 5) (by decide))
theorem d_Course {C_Rota : Addr} {C_Season : Addr} {C_Course : Addr} {fa : Addr} {fd : FuncData} (F : Fun K "__init__" "Course.__init__" s_Course_init fa fd) (M : Mk K C_Course fa) (b : Binds K fd ["self", "stretch_of", "stretches", "ways", "sums", "left"] []) (T : Bl mg) (Z_Rota : Tx_Rota K mg C_Rota) (Z_Season : Tx_Season K mg C_Season) (Z_Course : Tx_Course K mg C_Course) : Cf P w K mg base CT0 BB 1 "Course" 2 5 ["self", "stretch_of", "stretches", "ways", "sums", "left"] f_Course :=
  ⟨⟨C_Course, fa, fd, M, init_def F S_Course (by decide) (by decide) fun _ _ _ _ _ _ hr => l_Course T Z_Rota Z_Season Z_Course  hr, Z_Course.mgC, b⟩, rfl, fnInit_len⟩
abbrev N_product_of : List Str := ["ways", "others", "many", "together", "pairs", "ways_so", "further", "others_so"]
def S1f0f0_product_of : SSem := (sAugIx addI 3 (fBin pAdd (fVar 4) (fVar 6)) (fBin pMul (fVar 5) (fVar 7)))
def K1f0f0_product_of : SSem := sSeq S1f0f0_product_of sNil
def S1f0_product_of : SSem := (sFor (iEnum (fSl (fVar 1) none (some (fBin pSub (fVar 2) (fVar 4))))) (tgTup 2 (tgCons (tgName 6) (tgCons (tgName 7) tgNil))) K1f0f0_product_of)
def K1f0_product_of : SSem := sSeq S1f0_product_of sNil
def S0_product_of : SSem := (sSetN 3 (nRep (nLst (lCons (fC (.int 0)) lNil)) (fVar 2)))
def S1_product_of : SSem := (sFor (iEnum (fSl (fVar 0) none (some (fVar 2)))) (tgTup 2 (tgCons (tgName 4) (tgCons (tgName 5) tgNil))) K1f0_product_of)
def S2_product_of : SSem := (sRet (fVar 3))
def K2_product_of : SSem := sSeq S2_product_of sNil
def K1_product_of : SSem := sSeq S1_product_of K2_product_of
def K0_product_of : SSem := sSeq S0_product_of K1_product_of
def b_product_of : SSem := K0_product_of
def f_product_of : List AV → T AV := fnOf 3 8 b_product_of
theorem S_product_of : FnScope N_product_of ["ways", "others", "many"] (defScope s_product_of) := ⟨rfl, rfl, rfl, by decide +kernel, rfl, by decide +kernel, by decide +kernel⟩
theorem l_product_of {C_Rota : Addr} {C_Season : Addr} {C_Course : Addr} (T : Bl mg) (Z_Rota : Tx_Rota K mg C_Rota) (Z_Season : Tx_Season K mg C_Season) (Z_Course : Tx_Course K mg C_Course) {f : Addr} {cdv : Value} {A : Around} {outer : List Env} {s : Shared} {H : Hp} {E : XK} (hr : Room 0 (A.deeper (envOfC "product_of" (defScope s_product_of) s.heap.objs.size f cdv))) :
  JSs (cxOf (L2.CX P w) P w K mg base N_product_of "product_of" (defScope s_product_of) f cdv A outer s H E) CT0 BB E (defBody s_product_of) b_product_of := by
  have S := S_product_of
  have h64 : (A.deeper (envOfC "product_of" (defScope s_product_of) s.heap.objs.size f cdv)).units + 64 < cLine := by
    have := hr.un
    omega
  have h65 : (A.deeper (envOfC "product_of" (defScope s_product_of) s.heap.objs.size f cdv)).units + 65 < cLine := by
    have := hr.un
    omega
  have h1 : (A.deeper (envOfC "product_of" (defScope s_product_of) s.heap.objs.size f cdv)).units + 1 < cLine := by
    have := hr.un
    omega
  refine js_cons ?_ (js_cons ?_ (js_cons ?_ js_nil))
  · exact (js_setN 3 (jn_rep (jn_lst (jl_cons j_int jl_nil)) (j_var 2)) S.nd)
  · refine js_for passOwnB (by rfl) (ji_enumA (by rfl) T.n_enumerate (j_sl (j_var 0) jo_none (jo_some (j_var 2)))) (jg_tup (by rfl) (jg_cons (jg_name 4 S.nd) (jg_cons (jg_name 5 S.nd) jg_nil))) ?_
    refine js_cons ?_ js_nil
    · refine js_for passOwnB (by rfl) (ji_enumA (by rfl) T.n_enumerate (j_sl (j_var 1) jo_none (jo_some (j_bin op_sub o_sub (j_var 2) (j_var 4))))) (jg_tup (by rfl) (jg_cons (jg_name 6 S.nd) (jg_cons (jg_name 7 S.nd) jg_nil))) ?_
      refine js_cons ?_ js_nil
      · exact (js_augIx 3 (pv 3) ip_add (j_bin' op_addA o_add (j_var 4) (j_var 6)) (j_bin' op_mulA o_mul (j_var 5) (j_var 7)))
  · exact (js_ret (j_var 3))
theorem d_product_of {C_Rota : Addr} {C_Season : Addr} {C_Course : Addr} {fa : Addr} {fd : FuncData} (F : Fun K "product_of" "product_of" s_product_of fa fd) (h1 : mg "product_of" = some (.ref fa)) (h2 : PySem.W.keepIn K (.ref fa) = true) (b : Binds K fd ["ways", "others", "many"] []) (T : Bl mg) (Z_Rota : Tx_Rota K mg C_Rota) (Z_Season : Tx_Season K mg C_Season) (Z_Course : Tx_Course K mg C_Course) : Df P w K mg base CT0 BB 1 "product_of" 3 ["ways", "others", "many"] f_product_of :=
  ⟨⟨fa, fd, fn_def (N := N_product_of) (ps := ["ways", "others", "many"]) (k := 0) (body := b_product_of) F S_product_of (by decide) fun _ _ _ _ _ _ hr => l_product_of T Z_Rota Z_Season Z_Course  hr, h1, h2, b⟩, fnOf_len⟩
abbrev N_first_sums : List Str := ["free", "most", "sums", "many", "misses"]
def S1f0_first_sums : SSem := (sAugI addI 3 (fBin pComb (fVar 0) (fVar 4)))
def S1f1_first_sums : SSem := (sExpr (fAppend 2 (fVar 3)))
def K1f1_first_sums : SSem := sSeq S1f1_first_sums sNil
def K1f0_first_sums : SSem := sSeq S1f0_first_sums K1f1_first_sums
def S0_first_sums : SSem := (sMix [2, 3] (mN (nLst lNil) (mF (fC (.int 0)) mNil)))
def S1_first_sums : SSem := (sFor (iRange1 (fBin pAdd (fVar 1) (fC (.int 1)))) (tgName 4) K1f0_first_sums)
def S2_first_sums : SSem := (sRet (fVar 2))
def K2_first_sums : SSem := sSeq S2_first_sums sNil
def K1_first_sums : SSem := sSeq S1_first_sums K2_first_sums
def K0_first_sums : SSem := sSeq S0_first_sums K1_first_sums
def b_first_sums : SSem := K0_first_sums
def f_first_sums : List AV → T AV := fnOf 2 5 b_first_sums
theorem S_first_sums : FnScope N_first_sums ["free", "most"] (defScope s_first_sums) := ⟨rfl, rfl, rfl, by decide +kernel, rfl, by decide +kernel, by decide +kernel⟩
theorem l_first_sums {C_Rota : Addr} {C_Season : Addr} {C_Course : Addr} (T : Bl mg) (Z_Rota : Tx_Rota K mg C_Rota) (Z_Season : Tx_Season K mg C_Season) (Z_Course : Tx_Course K mg C_Course) {f : Addr} {cdv : Value} {A : Around} {outer : List Env} {s : Shared} {H : Hp} {E : XK} (hr : Room 0 (A.deeper (envOfC "first_sums" (defScope s_first_sums) s.heap.objs.size f cdv))) :
  JSs (cxOf (L2.CX P w) P w K mg base N_first_sums "first_sums" (defScope s_first_sums) f cdv A outer s H E) CT0 BB E (defBody s_first_sums) b_first_sums := by
  have S := S_first_sums
  have h64 : (A.deeper (envOfC "first_sums" (defScope s_first_sums) s.heap.objs.size f cdv)).units + 64 < cLine := by
    have := hr.un
    omega
  have h65 : (A.deeper (envOfC "first_sums" (defScope s_first_sums) s.heap.objs.size f cdv)).units + 65 < cLine := by
    have := hr.un
    omega
  have h1 : (A.deeper (envOfC "first_sums" (defScope s_first_sums) s.heap.objs.size f cdv)).units + 1 < cLine := by
    have := hr.un
    omega
  refine js_cons ?_ (js_cons ?_ (js_cons ?_ js_nil))
  · exact (js_mix2 2 3 (by rfl) S.nd (jm_n (jn_lst jl_nil) (jm_f j_int jm_nil)))
  · refine js_for passOwnB (by rfl) (ji_range1 (by rfl) T.n_range (j_bin' op_addA o_add (j_var 1) j_int)) (jg_name 4 S.nd) ?_
    refine js_cons ?_ (js_cons ?_ js_nil)
    · exact (js_augI 3 ip_add (j_callFun2 cr_comb o_comb (by rfl) T.n_comb (j_var 0) (j_var 4)) S.nd)
    · exact (js_expr (j_append 2 (j_var 3) (fun te he => pe_bm PySem.F.plainAttrs_list PySem.F.slot_list_append PySem.F.type_list_append mt_append (pv 2) (pa_cons he pa_nil))))
  · exact (js_ret (j_var 2))
theorem d_first_sums {C_Rota : Addr} {C_Season : Addr} {C_Course : Addr} {fa : Addr} {fd : FuncData} (F : Fun K "first_sums" "first_sums" s_first_sums fa fd) (h1 : mg "first_sums" = some (.ref fa)) (h2 : PySem.W.keepIn K (.ref fa) = true) (b : Binds K fd ["free", "most"] []) (T : Bl mg) (Z_Rota : Tx_Rota K mg C_Rota) (Z_Season : Tx_Season K mg C_Season) (Z_Course : Tx_Course K mg C_Course) : Df P w K mg base CT0 BB 1 "first_sums" 2 ["free", "most"] f_first_sums :=
  ⟨⟨fa, fd, fn_def (N := N_first_sums) (ps := ["free", "most"]) (k := 0) (body := b_first_sums) F S_first_sums (by decide) fun _ _ _ _ _ _ hr => l_first_sums T Z_Rota Z_Season Z_Course  hr, h1, h2, b⟩, fnOf_len⟩
abbrev N_own_ways : List Str := ["stretch", "turnings", "odd", "misses"]
def C0_own_ways : SemN := nLc [3] (iRange3 (fIf (fTru (fVar 2)) (fC (.int 1)) (fC (.int 0))) (fBin pAdd (fVar 1) (fC (.int 1))) (fC (.int 2))) (tgName 3) fYes (fBin pComb (fVar 1) (fVar 3))
def S0_own_ways : SSem := (sAsg (fVar 0) (tgTup 2 (tgCons (tgName 1) (tgCons (tgName 2) tgNil))))
def S1_own_ways : SSem := (sRet (fNew C0_own_ways))
def K1_own_ways : SSem := sSeq S1_own_ways sNil
def K0_own_ways : SSem := sSeq S0_own_ways K1_own_ways
def b_own_ways : SSem := K0_own_ways
def f_own_ways : List AV → T AV := fnOf 1 4 b_own_ways
theorem S_own_ways : FnScope N_own_ways ["stretch"] (defScope s_own_ways) := ⟨rfl, rfl, rfl, by decide +kernel, rfl, by decide +kernel, by decide +kernel⟩
theorem l_own_ways {C_Rota : Addr} {C_Season : Addr} {C_Course : Addr} (T : Bl mg) (Z_Rota : Tx_Rota K mg C_Rota) (Z_Season : Tx_Season K mg C_Season) (Z_Course : Tx_Course K mg C_Course) {f : Addr} {cdv : Value} {A : Around} {outer : List Env} {s : Shared} {H : Hp} {E : XK} (hr : Room 0 (A.deeper (envOfC "own_ways" (defScope s_own_ways) s.heap.objs.size f cdv))) :
  JSs (cxOf (L2.CX P w) P w K mg base N_own_ways "own_ways" (defScope s_own_ways) f cdv A outer s H E) CT0 BB E (defBody s_own_ways) b_own_ways := by
  have S := S_own_ways
  have h64 : (A.deeper (envOfC "own_ways" (defScope s_own_ways) s.heap.objs.size f cdv)).units + 64 < cLine := by
    have := hr.un
    omega
  have h65 : (A.deeper (envOfC "own_ways" (defScope s_own_ways) s.heap.objs.size f cdv)).units + 65 < cLine := by
    have := hr.un
    omega
  have h1 : (A.deeper (envOfC "own_ways" (defScope s_own_ways) s.heap.objs.size f cdv)).units + 1 < cLine := by
    have := hr.un
    omega
  refine js_cons ?_ (js_cons ?_ js_nil)
  · exact (js_asg (j_var 0) (jg_tup (by rfl) (jg_cons (jg_name 1 S.nd) (jg_cons (jg_name 2 S.nd) jg_nil))))
  · exact (js_ret (j_new (jn_lc (own := [("misses", 3)]) (by rfl) S.nd (blkOk_by (N := N_own_ways) (sc := defScope s_own_ways) (by decide +kernel)) (by decide) (ji_range3 (by rfl) T.n_range (j_ifExp (jt_truth (j_var 2)) j_int j_int) (j_bin' op_addA o_add (j_var 1) j_int) j_int) (fun _ _ _ _ _ => (jg_name 3 S.nd)) (fun _ _ _ _ _ => jts_nil) (fun _ _ _ _ _ => (j_callFun2 cr_comb o_comb (by rfl) T.n_comb (j_var 1) (j_var 3))))))
theorem d_own_ways {C_Rota : Addr} {C_Season : Addr} {C_Course : Addr} {fa : Addr} {fd : FuncData} (F : Fun K "own_ways" "own_ways" s_own_ways fa fd) (h1 : mg "own_ways" = some (.ref fa)) (h2 : PySem.W.keepIn K (.ref fa) = true) (b : Binds K fd ["stretch"] []) (T : Bl mg) (Z_Rota : Tx_Rota K mg C_Rota) (Z_Season : Tx_Season K mg C_Season) (Z_Course : Tx_Course K mg C_Course) : Df P w K mg base CT0 BB 1 "own_ways" 1 ["stretch"] f_own_ways :=
  ⟨⟨fa, fd, fn_def (N := N_own_ways) (ps := ["stretch"]) (k := 0) (body := b_own_ways) F S_own_ways (by decide) fun _ _ _ _ _ _ hr => l_own_ways T Z_Rota Z_Season Z_Course  hr, h1, h2, b⟩, fnOf_len⟩
abbrev N_many_ways : List Str := ["stretches", "left"]
def S0_many_ways : SSem := (sRet (fBin pMax2 (fC (.int 0)) (fBin pAdd (fBin pDiv (fBin pSub (fVar 1) (fCall f_least_need [] (lCons (fVar 0) lNil))) (fC (.int 2))) (fC (.int 1)))))
def K0_many_ways : SSem := sSeq S0_many_ways sNil
def b_many_ways : SSem := K0_many_ways
def f_many_ways : List AV → T AV := fnOf 2 2 b_many_ways
theorem S_many_ways : FnScope N_many_ways ["stretches", "left"] (defScope s_many_ways) := ⟨rfl, rfl, rfl, by decide +kernel, rfl, by decide +kernel, by decide +kernel⟩
theorem l_many_ways {C_Rota : Addr} {C_Season : Addr} {C_Course : Addr} (T : Bl mg) (Z_Rota : Tx_Rota K mg C_Rota) (Z_Season : Tx_Season K mg C_Season) (Z_Course : Tx_Course K mg C_Course) (D_least_need : Df P w K mg base CT0 BB 1 "least_need" 1 ["stretches"] f_least_need) {f : Addr} {cdv : Value} {A : Around} {outer : List Env} {s : Shared} {H : Hp} {E : XK} (hr : Room 1 (A.deeper (envOfC "many_ways" (defScope s_many_ways) s.heap.objs.size f cdv))) :
  JSs (cxOf (L2.CX P w) P w K mg base N_many_ways "many_ways" (defScope s_many_ways) f cdv A outer s H E) CT0 BB E (defBody s_many_ways) b_many_ways := by
  have S := S_many_ways
  have h64 : (A.deeper (envOfC "many_ways" (defScope s_many_ways) s.heap.objs.size f cdv)).units + 64 < cLine := by
    have := hr.un
    omega
  have h65 : (A.deeper (envOfC "many_ways" (defScope s_many_ways) s.heap.objs.size f cdv)).units + 65 < cLine := by
    have := hr.un
    omega
  have h1 : (A.deeper (envOfC "many_ways" (defScope s_many_ways) s.heap.objs.size f cdv)).units + 1 < cLine := by
    have := hr.un
    omega
  refine js_cons ?_ js_nil
  · exact (js_ret (j_callB2 (call_max2 rfl) o_max2 (by rfl) T.n_max (by decide +kernel) j_int (j_bin' op_addA o_add (j_bin op_fdivW o_div (j_bin op_sub o_sub (j_var 1) (j_callD (lv := 1) D_least_need (hr.mono (by decide)) passB (jl_cons (j_var 0) jl_nil))) j_int) j_int)))
theorem d_many_ways {C_Rota : Addr} {C_Season : Addr} {C_Course : Addr} {fa : Addr} {fd : FuncData} (F : Fun K "many_ways" "many_ways" s_many_ways fa fd) (h1 : mg "many_ways" = some (.ref fa)) (h2 : PySem.W.keepIn K (.ref fa) = true) (b : Binds K fd ["stretches", "left"] []) (T : Bl mg) (Z_Rota : Tx_Rota K mg C_Rota) (Z_Season : Tx_Season K mg C_Season) (Z_Course : Tx_Course K mg C_Course) (D_least_need : Df P w K mg base CT0 BB 1 "least_need" 1 ["stretches"] f_least_need) : Df P w K mg base CT0 BB 2 "many_ways" 2 ["stretches", "left"] f_many_ways :=
  ⟨⟨fa, fd, fn_def (N := N_many_ways) (ps := ["stretches", "left"]) (k := 1) (body := b_many_ways) F S_many_ways (by decide) fun _ _ _ _ _ _ hr => l_many_ways T Z_Rota Z_Season Z_Course D_least_need hr, h1, h2, b⟩, fnOf_len⟩
abbrev N_start : List Str := ["season", "stretch_of", "stretches", "free", "wheel", "_", "odd", "days", "day", "left", "ways", "stretch"]
def S1f0f0t0_start : SSem := (sAugI addI 3 (fUn pLen (fVar 7)))
def K1f0f0t0_start : SSem := sSeq S1f0f0t0_start sNil
def S1f0f0e0f0_start : SSem := (sDputT 1 (fTup (lCons (fVar 8) (lCons (fVar 4) lNil))) (fUn pLen (fVar 2)))
def K1f0f0e0f0_start : SSem := sSeq S1f0f0e0f0_start sNil
def S1f0f0e0_start : SSem := (sFor (iSeq (fVar 7)) (tgName 8) K1f0f0e0f0_start)
def S1f0f0e1_start : SSem := (sExpr (fAppend 2 (fTup (lCons (fUn pLen (fVar 7)) (lCons (fVar 6) lNil)))))
def K1f0f0e1_start : SSem := sSeq S1f0f0e1_start sNil
def K1f0f0e0_start : SSem := sSeq S1f0f0e0_start K1f0f0e1_start
def S1f0f0_start : SSem := (sIf (fBlT (fBin pIs (fVar 6) (fC .non))) K1f0f0t0_start K1f0f0e0_start)
def K1f0f0_start : SSem := sSeq S1f0f0_start sNil
def S1f0_start : SSem := (sFor (iSeq (fCall f_parts [] (lCons (fVar 0) (lCons (fVar 4) lNil)))) (tgTup 4 (tgCons (tgName 5) (tgCons (tgName 5) (tgCons (tgName 6) (tgCons (tgName 7) tgNil))))) K1f0f0_start)
def K1f0_start : SSem := sSeq S1f0_start sNil
def S4f0_start : SSem := (sSet 10 (fCall f_product_of [] (lCons (fVar 10) (lCons (fCall f_own_ways [] (lCons (fVar 11) lNil)) (lCons (fCall f_many_ways [] (lCons (fVar 2) (lCons (fVar 9) lNil))) lNil)))))
def K4f0_start : SSem := sSeq S4f0_start sNil
def S0_start : SSem := (sMix [1, 2, 3] (mD (mN (nLst lNil) (mF (fC (.int 0)) mNil))))
def S1_start : SSem := (sFor (iRange1 (fUn (pFld 1 4) (fVar 0))) (tgName 4) K1f0_start)
def S2_start : SSem := (sSet 9 (fBin pMin2 (fUn (pFld 1 2) (fVar 0)) (fUn pLen (fUn (pFld 1 6) (fVar 0)))))
def S3_start : SSem := (sSet 10 (fNew (nLst (lCons (fC (.int 1)) lNil))))
def S4_start : SSem := (sFor (iSeq (fVar 2)) (tgName 11) K4f0_start)
def S5_start : SSem := (sRet (fMake f_Course (lGive 1 (lCons (fVar 2) (lCons (fVar 10) (lCons (fCall f_first_sums [] (lCons (fVar 3) (lCons (fVar 9) lNil))) (lCons (fVar 9) lNil)))))))
def K5_start : SSem := sSeq S5_start sNil
def K4_start : SSem := sSeq S4_start K5_start
def K3_start : SSem := sSeq S3_start K4_start
def K2_start : SSem := sSeq S2_start K3_start
def K1_start : SSem := sSeq S1_start K2_start
def K0_start : SSem := sSeq S0_start K1_start
def b_start : SSem := K0_start
def f_start : List AV → T AV := fnOf 1 12 b_start
theorem S_start : FnScope N_start ["season"] (defScope s_start) := ⟨rfl, rfl, rfl, by decide +kernel, rfl, by decide +kernel, by decide +kernel⟩
theorem l_start {C_Rota : Addr} {C_Season : Addr} {C_Course : Addr} (T : Bl mg) (Z_Rota : Tx_Rota K mg C_Rota) (Z_Season : Tx_Season K mg C_Season) (Z_Course : Tx_Course K mg C_Course) (D_parts : Df P w K mg base CT0 BB 2 "parts" 2 ["season", "wheel"] f_parts) (D_product_of : Df P w K mg base CT0 BB 1 "product_of" 3 ["ways", "others", "many"] f_product_of) (D_many_ways : Df P w K mg base CT0 BB 2 "many_ways" 2 ["stretches", "left"] f_many_ways) (D_own_ways : Df P w K mg base CT0 BB 1 "own_ways" 1 ["stretch"] f_own_ways) (D_Course : Cf P w K mg base CT0 BB 1 "Course" 2 5 ["self", "stretch_of", "stretches", "ways", "sums", "left"] f_Course) (D_first_sums : Df P w K mg base CT0 BB 1 "first_sums" 2 ["free", "most"] f_first_sums) {f : Addr} {cdv : Value} {A : Around} {outer : List Env} {s : Shared} {H : Hp} {E : XK} (hr : Room 2 (A.deeper (envOfC "start" (defScope s_start) s.heap.objs.size f cdv))) :
  JSs (cxOf (L2.CX P w) P w K mg base N_start "start" (defScope s_start) f cdv A outer s H E) CT0 BB E (defBody s_start) b_start := by
  have S := S_start
  have h64 : (A.deeper (envOfC "start" (defScope s_start) s.heap.objs.size f cdv)).units + 64 < cLine := by
    have := hr.un
    omega
  have h65 : (A.deeper (envOfC "start" (defScope s_start) s.heap.objs.size f cdv)).units + 65 < cLine := by
    have := hr.un
    omega
  have h1 : (A.deeper (envOfC "start" (defScope s_start) s.heap.objs.size f cdv)).units + 1 < cLine := by
    have := hr.un
    omega
  refine js_cons ?_ (js_cons ?_ (js_cons ?_ (js_cons ?_ (js_cons ?_ (js_cons ?_ js_nil)))))
  · exact (js_mix3 1 2 3 (by rfl) S.nd (jm_d (jm_n (jn_lst jl_nil) (jm_f j_int jm_nil))))
  · refine js_for passOwnB (by rfl) (ji_range1 (by rfl) T.n_range (j_fld (fld_Season_wheels Z_Season) (j_var 0))) (jg_name 4 S.nd) ?_
    refine js_cons ?_ js_nil
    · refine js_for passOwnB (by rfl) (ji_seq (j_callD (lv := 2) D_parts (hr.mono (by decide)) passB (jl_cons (j_var 0) (jl_cons (j_var 4) jl_nil)))) (jg_tup (by rfl) (jg_cons (jg_name 5 S.nd) (jg_cons (jg_name 5 S.nd) (jg_cons (jg_name 6 S.nd) (jg_cons (jg_name 7 S.nd) jg_nil))))) ?_
      refine js_cons ?_ js_nil
      · refine js_if (jt_cmp op_isA o_isA.op (j_var 6) j_non (nomark _)) ?_ ?_
        · refine js_cons ?_ js_nil
          · exact (js_augI 3 ip_add (j_callB call_len o_len (by rfl) T.n_len (by decide +kernel) (j_var 7)) S.nd)
        · refine js_cons ?_ (js_cons ?_ js_nil)
          · refine js_for passOwnB (by rfl) (ji_seq (j_var 7)) (jg_name 8 S.nd) ?_
            refine js_cons ?_ js_nil
            · exact (js_dputT 1 h1 (pv 1) (j_tup (jl_cons (j_var 8) (jl_cons (j_var 4) jl_nil))) (j_callB call_len o_len (by rfl) T.n_len (by decide +kernel) (j_var 2)))
          · exact (js_expr (j_append 2 (j_tup (jl_cons (j_callB call_len o_len (by rfl) T.n_len (by decide +kernel) (j_var 7)) (jl_cons (j_var 6) jl_nil))) (fun te he => pe_bm PySem.F.plainAttrs_list PySem.F.slot_list_append PySem.F.type_list_append mt_append (pv 2) (pa_cons he pa_nil))))
  · exact (js_set 9 (j_callB2 (call_min2 rfl) o_min2 (by rfl) T.n_min (by decide +kernel) (j_fld (fld_Season_budget Z_Season) (j_var 0)) (j_callB call_len o_len (by rfl) T.n_len (by decide +kernel) (j_fld (fld_Season_due Z_Season) (j_var 0)))) S.nd)
  · exact (js_set 10 (j_new (jn_lst (jl_cons j_int jl_nil))) S.nd)
  · refine js_for passOwnB (by rfl) (ji_seq (j_var 2)) (jg_name 11 S.nd) ?_
    refine js_cons ?_ js_nil
    · exact (js_set 10 (j_callD (lv := 1) D_product_of (hr.mono (by decide)) passB (jl_cons (j_var 10) (jl_cons (j_callD (lv := 1) D_own_ways (hr.mono (by decide)) passB (jl_cons (j_var 11) jl_nil)) (jl_cons (j_callD (lv := 2) D_many_ways (hr.mono (by decide)) passB (jl_cons (j_var 2) (jl_cons (j_var 9) jl_nil))) jl_nil)))) S.nd)
  · exact (js_ret (j_make (lv := 1) D_Course (hr.mono (by decide)) passB (jl_give 1 (pv 1) (jl_cons (j_var 2) (jl_cons (j_var 10) (jl_cons (j_callD (lv := 1) D_first_sums (hr.mono (by decide)) passB (jl_cons (j_var 3) (jl_cons (j_var 9) jl_nil))) (jl_cons (j_var 9) jl_nil)))))))
theorem d_start {C_Rota : Addr} {C_Season : Addr} {C_Course : Addr} {fa : Addr} {fd : FuncData} (F : Fun K "start" "start" s_start fa fd) (h1 : mg "start" = some (.ref fa)) (h2 : PySem.W.keepIn K (.ref fa) = true) (b : Binds K fd ["season"] []) (T : Bl mg) (Z_Rota : Tx_Rota K mg C_Rota) (Z_Season : Tx_Season K mg C_Season) (Z_Course : Tx_Course K mg C_Course) (D_parts : Df P w K mg base CT0 BB 2 "parts" 2 ["season", "wheel"] f_parts) (D_product_of : Df P w K mg base CT0 BB 1 "product_of" 3 ["ways", "others", "many"] f_product_of) (D_many_ways : Df P w K mg base CT0 BB 2 "many_ways" 2 ["stretches", "left"] f_many_ways) (D_own_ways : Df P w K mg base CT0 BB 1 "own_ways" 1 ["stretch"] f_own_ways) (D_Course : Cf P w K mg base CT0 BB 1 "Course" 2 5 ["self", "stretch_of", "stretches", "ways", "sums", "left"] f_Course) (D_first_sums : Df P w K mg base CT0 BB 1 "first_sums" 2 ["free", "most"] f_first_sums) : Df P w K mg base CT0 BB 3 "start" 1 ["season"] f_start :=
  ⟨⟨fa, fd, fn_def (N := N_start) (ps := ["season"]) (k := 2) (body := b_start) F S_start (by decide) fun _ _ _ _ _ _ hr => l_start T Z_Rota Z_Season Z_Course D_parts D_product_of D_many_ways D_own_ways D_Course D_first_sums hr, h1, h2, b⟩, fnOf_len⟩
abbrev N_count : List Str := ["season"]
def S0_count : SSem := (sRet (fMeth 2 f_Course_many [] (fCall f_start [] (lCons (fVar 0) lNil)) lNil))
def K0_count : SSem := sSeq S0_count sNil
def b_count : SSem := K0_count
def f_count : List AV → T AV := fnOf 1 1 b_count
theorem S_count : FnScope N_count ["season"] (defScope s_count) := ⟨rfl, rfl, rfl, by decide +kernel, rfl, by decide +kernel, by decide +kernel⟩
theorem l_count {C_Rota : Addr} {C_Season : Addr} {C_Course : Addr} (T : Bl mg) (Z_Rota : Tx_Rota K mg C_Rota) (Z_Season : Tx_Season K mg C_Season) (Z_Course : Tx_Course K mg C_Course) (D_Course_many : Mf P w K mg base CT0 BB 3 2 "many" 1 ["self"] f_Course_many) (D_start : Df P w K mg base CT0 BB 3 "start" 1 ["season"] f_start) {f : Addr} {cdv : Value} {A : Around} {outer : List Env} {s : Shared} {H : Hp} {E : XK} (hr : Room 3 (A.deeper (envOfC "count" (defScope s_count) s.heap.objs.size f cdv))) :
  JSs (cxOf (L2.CX P w) P w K mg base N_count "count" (defScope s_count) f cdv A outer s H E) CT0 BB E (defBody s_count) b_count := by
  have S := S_count
  have h64 : (A.deeper (envOfC "count" (defScope s_count) s.heap.objs.size f cdv)).units + 64 < cLine := by
    have := hr.un
    omega
  have h65 : (A.deeper (envOfC "count" (defScope s_count) s.heap.objs.size f cdv)).units + 65 < cLine := by
    have := hr.un
    omega
  have h1 : (A.deeper (envOfC "count" (defScope s_count) s.heap.objs.size f cdv)).units + 1 < cLine := by
    have := hr.un
    omega
  refine js_cons ?_ js_nil
  · exact (js_ret (j_methD0 (lv := 3) D_Course_many (hr.mono (by decide)) passB (j_callD (lv := 3) D_start (hr.mono (by decide)) passB (jl_cons (j_var 0) jl_nil))))
theorem d_count {C_Rota : Addr} {C_Season : Addr} {C_Course : Addr} {fa : Addr} {fd : FuncData} (F : Fun K "count" "count" s_count fa fd) (h1 : mg "count" = some (.ref fa)) (h2 : PySem.W.keepIn K (.ref fa) = true) (b : Binds K fd ["season"] []) (T : Bl mg) (Z_Rota : Tx_Rota K mg C_Rota) (Z_Season : Tx_Season K mg C_Season) (Z_Course : Tx_Course K mg C_Course) (D_Course_many : Mf P w K mg base CT0 BB 3 2 "many" 1 ["self"] f_Course_many) (D_start : Df P w K mg base CT0 BB 3 "start" 1 ["season"] f_start) : Df P w K mg base CT0 BB 4 "count" 1 ["season"] f_count :=
  ⟨⟨fa, fd, fn_def (N := N_count) (ps := ["season"]) (k := 3) (body := b_count) F S_count (by decide) fun _ _ _ _ _ _ hr => l_count T Z_Rota Z_Season Z_Course D_Course_many D_start hr, h1, h2, b⟩, fnOf_len⟩
abbrev N_law : List Str := ["_law_script", "_law_deal_here", "_law_rota", "_law_budget", "_law_looks", "_law_few", "_law_ups", "_law_turns", "_law_many"]
def S2f0t0_law : SSem := (sRet (fC (.bl false)))
def K2f0t0_law : SSem := sSeq S2f0t0_law sNil
theorem U2f0t0_law {a : Dn.Slot} {l : Env'} : K2f0t0_law (a :: l) = sSeq S2f0t0_law sNil (a :: l) := rfl
def S2f1t0_law : SSem := (sRet (fC (.bl false)))
def K2f1t0_law : SSem := sSeq S2f1t0_law sNil
theorem U2f1t0_law {a : Dn.Slot} {l : Env'} : K2f1t0_law (a :: l) = sSeq S2f1t0_law sNil (a :: l) := rfl
def S2f0_law : SSem := (sIf (fNotT (fTru (fCall f_law_case_right [] (lCons (fVar 2) (lCons (fVar 3) (lCons (fCall f_law_mixed [] (lCons (fVar 1) (lCons (fVar 4) lNil))) (lCons (fVar 5) (lCons (fVar 6) (lCons (fVar 7) lNil))))))))) K2f0t0_law sNil)
def S2f1_law : SSem := (sIf (fBlT (fBin pNe (fCall f_count [] (lCons (fMakeD f_Season [] (lCons (fVar 2) (lCons (fC (.int 6)) (lCons (fVar 3) (lCons (fVar 4) lNil))))) lNil)) (fVar 8))) K2f1t0_law sNil)
def K2f1_law : SSem := sSeq S2f1_law sNil
theorem U2f1_law {a : Dn.Slot} {l : Env'} : K2f1_law (a :: l) = sSeq S2f1_law sNil (a :: l) := rfl
def K2f0_law : SSem := sSeq S2f0_law K2f1_law
theorem U2f0_law {a : Dn.Slot} {l : Env'} : K2f0_law (a :: l) = sSeq S2f0_law K2f1_law (a :: l) := rfl
def S0_law : SSem := (sSet 1 (fCall f_law_deal [] (lCons (fVar 0) (lCons (fC (.int 0)) lNil))))
def S1_law : SSem := (sSet 2 (fMake f_Rota (lCons (fC (.int 1)) (lCons (fNew (nLst (lCons (fTup (lCons (fTup (lCons (fC (.int 0)) lNil)) (lCons (fTup (lCons (fC (.int 0)) lNil)) lNil))) lNil))) lNil))))
def S2_law : SSem := (sFor (iSeq (fCall f_law_mixed [] (lCons (fVar 1) (lCons (fCall f_law_cases [] lNil) lNil)))) (tgTup 6 (tgCons (tgName 3) (tgCons (tgName 4) (tgCons (tgName 5) (tgCons (tgName 6) (tgCons (tgName 7) (tgCons (tgName 8) tgNil))))))) K2f0_law)
def S3_law : SSem := (sRet (fC (.bl true)))
def K3_law : SSem := sSeq S3_law sNil
theorem U3_law {a : Dn.Slot} {l : Env'} : K3_law (a :: l) = sSeq S3_law sNil (a :: l) := rfl
def K2_law : SSem := sSeq S2_law K3_law
theorem U2_law {a : Dn.Slot} {l : Env'} : K2_law (a :: l) = sSeq S2_law K3_law (a :: l) := rfl
def K1_law : SSem := sSeq S1_law K2_law
theorem U1_law {a : Dn.Slot} {l : Env'} : K1_law (a :: l) = sSeq S1_law K2_law (a :: l) := rfl
def K0_law : SSem := sSeq S0_law K1_law
theorem U0_law {a : Dn.Slot} {l : Env'} : K0_law (a :: l) = sSeq S0_law K1_law (a :: l) := rfl
def b_law : SSem := K0_law
def f_law : List AV → T AV := fnOf 1 9 b_law
theorem S_law : FnScope N_law ["_law_script"] (defScope s_law) := ⟨rfl, rfl, rfl, by decide +kernel, rfl, by decide +kernel, by decide +kernel⟩
theorem l_law {C_Rota : Addr} {C_Season : Addr} {C_Course : Addr} (T : Bl mg) (Z_Rota : Tx_Rota K mg C_Rota) (Z_Season : Tx_Season K mg C_Season) (Z_Course : Tx_Course K mg C_Course) (D_law_deal : Df P w K mg base CT0 BB 1 "_law_deal" 2 ["_law_script", "_law_base"] f_law_deal) (D_Rota : Cf P w K mg base CT0 BB 7 "Rota" 0 2 ["self", "places", "rows"] f_Rota) (D_law_mixed : Df P w K mg base CT0 BB 2 "_law_mixed" 2 ["_law_deal_here", "_law_some"] f_law_mixed) (D_law_cases : Df P w K mg base CT0 BB 1 "_law_cases" 0 [] f_law_cases) (D_law_case_right : Df P w K mg base CT0 BB 11 "_law_case_right" 6 ["_law_rota", "_law_budget", "_law_looks", "_law_few", "_law_ups", "_law_turns"] f_law_case_right) (D_count : Df P w K mg base CT0 BB 4 "count" 1 ["season"] f_count) (D_Season : CfD P w K mg base CT0 BB 6 "Season" 1 4 ["self", "rota", "days", "budget", "looks"] [.tup []] f_Season) {f : Addr} {cdv : Value} {A : Around} {outer : List Env} {s : Shared} {H : Hp} {E : XK} (hr : Room 11 (A.deeper (envOfC "law" (defScope s_law) s.heap.objs.size f cdv))) :
  JSs (cxOf (L2.CX P w) P w K mg base N_law "law" (defScope s_law) f cdv A outer s H E) CT0 BB E (defBody s_law) b_law := by
  have S := S_law
  have h64 : (A.deeper (envOfC "law" (defScope s_law) s.heap.objs.size f cdv)).units + 64 < cLine := by
    have := hr.un
    omega
  have h65 : (A.deeper (envOfC "law" (defScope s_law) s.heap.objs.size f cdv)).units + 65 < cLine := by
    have := hr.un
    omega
  have h1 : (A.deeper (envOfC "law" (defScope s_law) s.heap.objs.size f cdv)).units + 1 < cLine := by
    have := hr.un
    omega
  refine js_cons ?_ (js_cons ?_ (js_cons ?_ (js_cons ?_ js_nil)))
  · exact (js_set 1 (j_callD (lv := 1) D_law_deal (hr.mono (by decide)) passB (jl_cons (j_var 0) (jl_cons j_int jl_nil))) S.nd)
  · exact (js_set 2 (j_make (lv := 7) D_Rota (hr.mono (by decide)) passB (jl_cons j_int (jl_cons (j_new (jn_lst (jl_cons (j_tup (jl_cons (j_tup (jl_cons j_int jl_nil)) (jl_cons (j_tup (jl_cons j_int jl_nil)) jl_nil))) jl_nil))) jl_nil))) S.nd)
  · refine js_for passOwnB (by rfl) (ji_seq (j_callD (lv := 2) D_law_mixed (hr.mono (by decide)) passB (jl_cons (j_var 1) (jl_cons (j_callD0 (lv := 1) D_law_cases (hr.mono (by decide)) passB) jl_nil)))) (jg_tup (by rfl) (jg_cons (jg_name 3 S.nd) (jg_cons (jg_name 4 S.nd) (jg_cons (jg_name 5 S.nd) (jg_cons (jg_name 6 S.nd) (jg_cons (jg_name 7 S.nd) (jg_cons (jg_name 8 S.nd) jg_nil))))))) ?_
    refine js_cons ?_ (js_cons ?_ js_nil)
    · refine js_if (jt_not (jt_truth (j_callD (lv := 11) D_law_case_right (hr.mono (by decide)) passB (jl_cons (j_var 2) (jl_cons (j_var 3) (jl_cons (j_callD (lv := 2) D_law_mixed (hr.mono (by decide)) passB (jl_cons (j_var 1) (jl_cons (j_var 4) jl_nil))) (jl_cons (j_var 5) (jl_cons (j_var 6) (jl_cons (j_var 7) jl_nil))))))))) ?_ ?_
      · refine js_cons ?_ js_nil
        · exact (js_ret j_bl)
      · exact js_nil
    · refine js_if (jt_cmp (op_neD h64) o_ne.op (j_callD (lv := 4) D_count (hr.mono (by decide)) passB (jl_cons (j_makeA (lv := 6) D_Season (hr.mono (by decide)) passB (jl_cons (j_var 2) (jl_cons j_int (jl_cons (j_var 3) (jl_cons (j_var 4) jl_nil))))) jl_nil)) (j_var 8) (nomark _)) ?_ ?_
      · refine js_cons ?_ js_nil
        · exact (js_ret j_bl)
      · exact js_nil
  · exact (js_ret j_bl)
end
end K30
set_option Elab.async false
set_option linter.all false
set_option maxRecDepth 100000
set_option maxHeartbeats 0
namespace K30
open PySem PySem.Spec PyProof.Rows L2 Dn
def isR (m : T AV) (v : AV) : Bool := match m with
  | .ret a => eqA a v
  | _ => false
theorem isR_eq {m : T AV} {v : AV} (h : isR m v = true) : m = .ret v := by
  cases m with
  | ret a => rw [eqA_eq a v h]
  | _ => cases h
def retV (m : T AV) : AV := match m with
  | .ret a => a
  | _ => .non
def isT (m : T AV) : Bool := match m with
  | .ret _ => true
  | _ => false
def insAll {α : Type} (x : α) : List α → List (List α)
  | [] => [[x]]
  | y :: r => (x :: y :: r) :: (insAll x r).map (y :: ·)
def prm {α : Type} : List α → List (List α)
  | [] => [[]]
  | x :: r => (prm r).flatMap (insAll x)
theorem mem_insAll {α : Type} {x : α} : ∀ (a b : List α), a ++ x :: b ∈ insAll x (a ++ b)
  | [], [] => List.mem_singleton.mpr rfl
  | [], y :: r => List.mem_cons_self
  | y :: a, b => List.mem_cons_of_mem _ (List.mem_map.mpr ⟨_, mem_insAll a b, rfl⟩)
theorem mem_prm {α : Type} : ∀ {l p : List α}, p.Perm l → p ∈ prm l
  | [], p, h => by
    obtain rfl := List.perm_nil.mp h
    exact List.mem_singleton.mpr rfl
  | x :: r, p, h => by
    obtain ⟨a, b, rfl⟩ := List.append_of_mem (h.mem_iff.mpr List.mem_cons_self)
    have h2 : (a ++ b).Perm r := (List.perm_middle.symm.trans h).cons_inv
    exact List.mem_flatMap.mpr ⟨_, mem_prm h2, mem_insAll a b⟩
def isP (o : Option AV) (v : AV) : Bool := match o with
  | some a => eqA a v
  | none => false
theorem isP_eq {o : Option AV} {v : AV} (h : isP o v = true) : o = some v := by
  cases o with
  | some a => rw [eqA_eq a v h]
  | none => cases h
def UL : AV := .ins 0 [.int 1, .tup [.tup [.tup [.int 0], .tup [.int 0]]]]
theorem hU : f_Rota [.int 1, .lst [.tup [.tup [.int 0], .tup [.int 0]]]] = .ret UL := isR_eq (by decide +kernel)
def seaL (b : Int) (L : List AV) : AV := .ins 1 [UL, .int 6, .int b, .tup L, .int 1, .tup [.tup [.int 0, .int 1, .int 2, .int 3, .int 4, .int 5]], .tup [.tup [.int 0, .int 0], .tup [.int 1, .int 0], .tup [.int 2, .int 0], .tup [.int 3, .int 0], .tup [.int 4, .int 0], .tup [.int 5, .int 0]]]
structure Cs where
  b : Int
  ls : List AV
  few : Int
  ups : Str
  turns : Str
  many : Int
  S : AV
  le : AV
  op : Bool
  sd : List AV
  tn : List AV
  cu : List Str
  ct : List Str
def cs0 : Cs := ⟨0, [], 0, "0101010", "MMMMMM", 1, seaL 0 [], .int 0, true, [.int 0, .int 1, .int 0, .int 1, .int 0, .int 1, .int 0], [.str "made", .str "made", .str "made", .str "made", .str "made", .str "made"], ["0", "1", "0", "1", "0", "1", "0"], ["M", "M", "M", "M", "M", "M"]⟩
def cs1 : Cs := ⟨1, [], 0, "0??????", "??????", 7, seaL 1 [], .int 0, true, [.int 0, .non, .non, .non, .non, .non, .non], [.str "open", .str "open", .str "open", .str "open", .str "open", .str "open"], ["0", "?", "?", "?", "?", "?", "?"], ["?", "?", "?", "?", "?", "?"]⟩
def cs2 : Cs := ⟨1, [.tup [.int 6, .int 0, .int 0]], 0, "0101010", "MMMMMM", 1, seaL 1 [.tup [.int 6, .int 0, .int 0]], .int 0, true, [.int 0, .int 1, .int 0, .int 1, .int 0, .int 1, .int 0], [.str "made", .str "made", .str "made", .str "made", .str "made", .str "made"], ["0", "1", "0", "1", "0", "1", "0"], ["M", "M", "M", "M", "M", "M"]⟩
def cs3 : Cs := ⟨2, [.tup [.int 6, .int 0, .int 0]], 0, "0?????0", "??????", 16, seaL 2 [.tup [.int 6, .int 0, .int 0]], .int 0, true, [.int 0, .non, .non, .non, .non, .non, .int 0], [.str "open", .str "open", .str "open", .str "open", .str "open", .str "open"], ["0", "?", "?", "?", "?", "?", "0"], ["?", "?", "?", "?", "?", "?"]⟩
def cs4 : Cs := ⟨1, [.tup [.int 6, .int 0, .int 1]], 1, "0?????1", "??????", 6, seaL 1 [.tup [.int 6, .int 0, .int 1]], .int 1, true, [.int 0, .non, .non, .non, .non, .non, .int 1], [.str "open", .str "open", .str "open", .str "open", .str "open", .str "open"], ["0", "?", "?", "?", "?", "?", "1"], ["?", "?", "?", "?", "?", "?"]⟩
def cs5 : Cs := ⟨1, [.tup [.int 1, .int 0, .int 0]], 1, "0010101", "XMMMMM", 1, seaL 1 [.tup [.int 1, .int 0, .int 0]], .int 1, true, [.int 0, .int 0, .int 1, .int 0, .int 1, .int 0, .int 1], [.str "missed", .str "made", .str "made", .str "made", .str "made", .str "made"], ["0", "0", "1", "0", "1", "0", "1"], ["X", "M", "M", "M", "M", "M"]⟩
def cs6 : Cs := ⟨1, [.tup [.int 2, .int 0, .int 1]], 1, "0?10101", "??MMMM", 2, seaL 1 [.tup [.int 2, .int 0, .int 1]], .int 1, true, [.int 0, .non, .int 1, .int 0, .int 1, .int 0, .int 1], [.str "open", .str "open", .str "made", .str "made", .str "made", .str "made"], ["0", "?", "1", "0", "1", "0", "1"], ["?", "?", "M", "M", "M", "M"]⟩
def cs7 : Cs := ⟨2, [.tup [.int 2, .int 0, .int 1], .tup [.int 4, .int 0, .int 1]], 1, "0?101??", "??MM??", 6, seaL 2 [.tup [.int 2, .int 0, .int 1], .tup [.int 4, .int 0, .int 1]], .int 1, true, [.int 0, .non, .int 1, .int 0, .int 1, .non, .non], [.str "open", .str "open", .str "made", .str "made", .str "open", .str "open"], ["0", "?", "1", "0", "1", "?", "?"], ["?", "?", "M", "M", "?", "?"]⟩
def cs8 : Cs := ⟨3, [.tup [.int 2, .int 0, .int 1], .tup [.int 4, .int 0, .int 1]], 1, "0?1?1??", "??????", 10, seaL 3 [.tup [.int 2, .int 0, .int 1], .tup [.int 4, .int 0, .int 1]], .int 1, true, [.int 0, .non, .int 1, .non, .int 1, .non, .non], [.str "open", .str "open", .str "open", .str "open", .str "open", .str "open"], ["0", "?", "1", "?", "1", "?", "?"], ["?", "?", "?", "?", "?", "?"]⟩
def cs9 : Cs := ⟨9, [.tup [.int 3, .int 0, .int 1], .tup [.int 3, .int 0, .int 0]], 9, "", "", 0, seaL 9 [.tup [.int 3, .int 0, .int 0], .tup [.int 3, .int 0, .int 1]], .non, false, [], [], [], []⟩
def cs10 : Cs := ⟨0, [.tup [.int 3, .int 0, .int 0]], 1, "", "", 0, seaL 0 [.tup [.int 3, .int 0, .int 0]], .int 1, false, [], [], [], []⟩
def cs11 : Cs := ⟨3, [.tup [.int 1, .int 0, .int 0], .tup [.int 2, .int 0, .int 0], .tup [.int 3, .int 0, .int 0]], 3, "0000101", "XXXMMM", 1, seaL 3 [.tup [.int 1, .int 0, .int 0], .tup [.int 2, .int 0, .int 0], .tup [.int 3, .int 0, .int 0]], .int 3, true, [.int 0, .int 0, .int 0, .int 0, .int 1, .int 0, .int 1], [.str "missed", .str "missed", .str "missed", .str "made", .str "made", .str "made"], ["0", "0", "0", "0", "1", "0", "1"], ["X", "X", "X", "M", "M", "M"]⟩
def CSS : List Cs := [cs0, cs1, cs2, cs3, cs4, cs5, cs6, cs7, cs8, cs9, cs10, cs11]
def caseV (c : Cs) : AV := .tup [.int c.b, .lst c.ls, .int c.few, .str c.ups, .str c.turns, .int c.many]
theorem cases_eq : f_law_cases [] = .ret (.lst (CSS.map caseV)) := isR_eq (by decide +kernel)
abbrev TB : Tb := [(some 0, "0"), (some 1, "1"), (none, "?")]
abbrev TT : TbT := [("made", "M"), ("missed", "X"), ("open", "?")]
def goneD (c : Cs) : List Nat := (List.range 6).filter fun d => decide (c.ct.getD d "" = "X")
def gnV (d : Nat) : AV := .tup [.int (d : Int), .int 0]
def chkA (c : Cs) : Bool := (prm c.ls).all (fun p => isR (f_Season [UL, .int 6, .int c.b, .lst p]) c.S) && (isR (f_least [c.S]) c.le && (isR (f_possible [c.S]) (.bl c.op) && (isR (f_count [c.S]) (.int c.many) && (isP (pNe c.le (if c.few = 9 then .non else .int c.few)) (.bl false) && (isP (pNe (.str c.ups) (.str "")) (.bl c.op) && (isP (pEq (.str c.ups) (.str "")) (.bl (!c.op)) && (c.ls.all (dat 11) && decide (c.ls.length < 1000))))))))
def chkB (c : Cs) : Bool := !c.op || isR (f_surely_missed [c.S]) (.tup ((goneD c).map gnV)) && (isR (f_slack [c.S]) (.int (c.b - c.few)) && (isP (pJoinA "" (.lst (c.cu.map .str))) (.str c.ups) && (isP (pJoinA "" (.lst (c.ct.map .str))) (.str c.turns) && (decide ((List.range 7).map (fun d => c.cu.getD d "") = c.cu) && (decide ((List.range 6).map (fun d => c.ct.getD d "") = c.ct) && ((List.range 7).all (fun d => isP (pLk TB (c.sd.getD d .non)) (.str (c.cu.getD d ""))) &&
  ((List.range 6).all (fun d => isP (pLkT TT (c.tn.getD d .non)) (.str (c.ct.getD d "")) && (isP (pIx (.str c.turns) (.int (d : Int))) (.str (c.ct.getD d "")) && isP (pEq (.str (c.ct.getD d "")) (.str "X")) (.bl (decide (c.ct.getD d "" = "X"))))) && (isP (pEq (.str c.ups) (.str c.ups)) (.bl true) && (isP (pEq (.str c.turns) (.str c.turns)) (.bl true) && isP (pEq (.int (c.b - c.few)) (.int (c.b - c.few))) (.bl true))))))))))
def chkS (c : Cs) : Bool := !c.op || (List.range 7).all fun d => isR (f_side [c.S, .int 0, .int (d : Int)]) (c.sd.getD d .non)
def T1 (c : Cs) (d : Nat) : Bool := isR (f_turning [c.S, .int (d : Int), .int 0]) (c.tn.getD d .non)
def chkT (c : Cs) : Bool := !c.op || (T1 c 0 && (T1 c 1 && (T1 c 2 && (T1 c 3 && (T1 c 4 && T1 c 5)))))
theorem chk_A : CSS.all chkA = true := by decide +kernel
theorem chk_B : CSS.all chkB = true := by decide +kernel
theorem dat_all : (CSS.map caseV).all (dat 11) = true := by decide +kernel
end K30
set_option Elab.async false
set_option linter.all false
set_option maxRecDepth 100000
set_option maxHeartbeats 0
namespace K30
open PySem PySem.Spec PyProof.Rows L2 Dn
theorem take_eq {b : Int} (h1 : 1 ≤ b) (h2 : b < 18446744073709551616) : f_law_draw [.box, .int b] = T.draw b.toNat fun r => T.ret (AV.int (r : Int)) := take_ok h1 h2
theorem isNat_filter (l : List Int) (h : ∀ x ∈ l, 0 ≤ x) : ((l.filter fun x => decide ((1000000000000000000 : Int) ≤ x)).map AV.int).all isNat = true := by
  rw [List.all_eq_true]
  intro y hy
  obtain ⟨x, hx, rfl⟩ := List.mem_map.mp hy
  exact decide_eq_true (h x (List.mem_filter.mp hx).1)
theorem law_deal_all (ns : List Int) (hn : ns.length ≤ 63) (k : Int) (hk0 : 0 ≤ k) (hk : k < 64) : (f_law_deal [.scr ns, .int k]).Al (fun t => t = .box) NoX := by
  refine aFnQ rfl ?_
  show (K0_law_deal [.fro (.scr ns), .fro (.int k), .un, .un, .un]).Al _ _
  have hcut : ∃ l : List Int, l.length ≤ 63 ∧ pCut (.scr ns) (some k) (some 57) = some (.lst (il l)) := by
    show ∃ l : List Int, l.length ≤ 63 ∧ some (AV.lst (cutA (ns.map AV.int) (some k) (some 57))) = _
    unfold cutA
    refine ⟨(ns.drop _).take _, ?_, by unfold il; rw [List.map_take, List.map_drop]⟩
    rw [List.length_take, List.length_drop]
    omega
  obtain ⟨l, hl, hcut⟩ := hcut
  have c0 : C0_law_deal [.fro (.scr ns), .fro (.int k), .un, .un, .un] = .ret (il (l.map fun v => if v < 0 then -v else v), [.fro (.scr ns), .fro (.int k), .un, .un, .un]) := by
    unfold il
    rw [List.map_map]
    refine nLc_M (l := l) AV.int (fun v => AV.int (if v < 0 then -v else v)) (by refine t_eq ?_; simp -dsimp only [↓fBin_b, ↓fUn_b, ↓fBlT_b, ↓lCons_b, ↓fSl_b, ↓sSeq_b, ↓sSet_b, ↓iSeq_b, ↓sFor_b, ↓fNew_b, ↓nLc_b, ↓fC_b, ↓lNil_b, ↓sNil_b, ↓fYes_b, ↓tgName_b, ↓tgNil_b, ↓tgCons_b, ↓tgTup_b, ↓lcRun_b, ↓fPart_n, ↓fPart_s, ↓frz_val, ↓lrs_val, ↓liftS_b, ↓liftN_b, ↓sRetDeal_b, ↓seqOf_t_b, ↓seqOf_l_b, ↓lstOf_l_b, ↓intOf_i_b, ↓blOf_b_b, ↓tru_n_b, ↓tru_b_b, ↓tru_i_b, ↓tru_t_b, ↓tru_l_b, ↓pLen_t_b, ↓pLen_l_b, ↓pLen_s_b, ↓pInt_i_b, ↓pInt_b_b, ↓pAbs_i_b, ↓pAdd_i_b, ↓pGe_i_b, ↓pCut_t_b, ↓pCut_l_b, ↓atI_0_b, ↓atI_1_b, ↓atI_2_b, ↓atI_3_b, ↓lg0_b, ↓lg1_b, ↓lg2_b, ↓lg3_b, rs_val, outV_rt, outV_nx, backE_n, backE_u, wipeE_n, wipeE_u, froOf_f, froOf_u, seqOf_t, seqOf_l, lstOf_l, intOf_i, blOf_b, tru_n, tru_b, tru_i, tru_t, tru_l, pLen_t, pLen_l, pLen_s, pInt_i, pInt_b, pAbs_i, pAdd_i, pGe_i, pCut_t, pCut_l, atI_0, atI_1, atI_2, atI_3, lg0, lg1, lg2, lg3, pIx_t, pIx_l, pAdd_t, pAdd_l, ↓keyOf1_ib, keyOf1_i, ↓T.bind_assoc, bind_ret', bind_bad', bind_exc', bind_draw', lift_some, lift_none', big, below62', below24', below64', below29', mul_ok, div_ok, mod_ok, addI, subI, addI, subI, ixN_nat, ↓lGive_b, ↓imt0, ↓imt1, ↓imt2, ↓imt3, List.length_cons, List.length_nil, List.map_cons, List.map_nil, List.append_nil, List.nil_append, List.cons_append, List.replicate_succ, List.replicate_zero, List.isEmpty_nil, List.isEmpty_cons, Option.map_some, Option.map_none, Option.bind_some, Option.bind_none, true_and, and_true, and_self, false_and, and_false, true_or, or_true, false_or, or_false, not_true_eq_false, not_false_eq_true, Bool.not_true, Bool.not_false, Bool.true_and, Bool.and_true, Bool.false_and, Bool.and_false, Bool.true_or, Bool.or_true, Bool.or_false, Bool.false_or, decide_true, decide_false, decide_eq_true_eq, decide_eq_false_iff_not, if_true, if_false, ite_true, ite_false, ↓reduceIte, Int.natCast_nonneg, Nat.reduceLT, Nat.reduceLeDiff, Nat.reduceEqDiff, Nat.reduceSub, Nat.reduceMul, Int.reduceLT, Int.reduceLE, Int.reduceEq, Int.reduceAdd, Int.reduceSub, Int.reduceMul, Int.reduceNeg, Int.reducePow, List.length_map, List.length_range, eq_self, ne_eq, Classical.not_not, Bool.not_eq_true, Bool.not_eq_false, Bool.false_eq_true, reduceCtorEq, Int.toNat_natCast, Nat.add_eq, Nat.reduceAdd, Int.cast_ofNat_Int, Int.reduceToNat, Int.zero_add, Int.add_zero, Nat.zero_add, Nat.add_zero, Nat.sub_zero, Int.sub_zero, Int.natCast_zero, Int.natCast_one, Int.natCast_add, Int.natCast_succ, beq_self_eq_true, Bool.decide_eq_true, Bool.decide_eq_false, ↓vf0, ↓vm0, rf0, rm0, ↓qf0, ↓qm0, ↓zf0, ↓zm0, ↓im0, ss0, fi0, ↓vf1, ↓vm1, rf1, rm1, ↓qf1, ↓qm1, ↓zf1, ↓zm1, ↓im1, ss1, fi1, ↓vf2, ↓vm2, rf2, rm2, ↓qf2, ↓qm2, ↓zf2, ↓zm2, ↓im2, ss2, fi2, ↓vf3, ↓vm3, rf3, rm3, ↓qf3, ↓qm3, ↓zf3, ↓zm3, ↓im3, ss3, fi3, ↓vf4, ↓vm4, rf4, rm4, ↓qf4, ↓qm4, ↓zf4, ↓zm4, ↓im4, ss4, fi4, hcut, il]; (try simp only [T.bind_ret])) (Nat.lt_of_le_of_lt hl (by decide)) rfl fun v hv => ⟨[.fro (.scr ns), .fro (.int k), .un, .un, .fro (.int v)], by refine t_eq ?_; simp -dsimp only [↓fBin_b, ↓fUn_b, ↓fBlT_b, ↓lCons_b, ↓fSl_b, ↓sSeq_b, ↓sSet_b, ↓iSeq_b, ↓sFor_b, ↓fNew_b, ↓nLc_b, ↓fC_b, ↓lNil_b, ↓sNil_b, ↓fYes_b, ↓tgName_b, ↓tgNil_b, ↓tgCons_b, ↓tgTup_b, ↓lcRun_b, ↓fPart_n, ↓fPart_s, ↓frz_val, ↓lrs_val, ↓liftS_b, ↓liftN_b, ↓sRetDeal_b, ↓seqOf_t_b, ↓seqOf_l_b, ↓lstOf_l_b, ↓intOf_i_b, ↓blOf_b_b, ↓tru_n_b, ↓tru_b_b, ↓tru_i_b, ↓tru_t_b, ↓tru_l_b, ↓pLen_t_b, ↓pLen_l_b, ↓pLen_s_b, ↓pInt_i_b, ↓pInt_b_b, ↓pAbs_i_b, ↓pAdd_i_b, ↓pGe_i_b, ↓pCut_t_b, ↓pCut_l_b, ↓atI_0_b, ↓atI_1_b, ↓atI_2_b, ↓atI_3_b, ↓lg0_b, ↓lg1_b, ↓lg2_b, ↓lg3_b, rs_val, outV_rt, outV_nx, backE_n, backE_u, wipeE_n, wipeE_u, froOf_f, froOf_u, seqOf_t, seqOf_l, lstOf_l, intOf_i, blOf_b, tru_n, tru_b, tru_i, tru_t, tru_l, pLen_t, pLen_l, pLen_s, pInt_i, pInt_b, pAbs_i, pAdd_i, pGe_i, pCut_t, pCut_l, atI_0, atI_1, atI_2, atI_3, lg0, lg1, lg2, lg3, pIx_t, pIx_l, pAdd_t, pAdd_l, ↓keyOf1_ib, keyOf1_i, ↓T.bind_assoc, bind_ret', bind_bad', bind_exc', bind_draw', lift_some, lift_none', big, below62', below24', below64', below29', mul_ok, div_ok, mod_ok, addI, subI, addI, subI, ixN_nat, ↓lGive_b, ↓imt0, ↓imt1, ↓imt2, ↓imt3, List.length_cons, List.length_nil, List.map_cons, List.map_nil, List.append_nil, List.nil_append, List.cons_append, List.replicate_succ, List.replicate_zero, List.isEmpty_nil, List.isEmpty_cons, Option.map_some, Option.map_none, Option.bind_some, Option.bind_none, true_and, and_true, and_self, false_and, and_false, true_or, or_true, false_or, or_false, not_true_eq_false, not_false_eq_true, Bool.not_true, Bool.not_false, Bool.true_and, Bool.and_true, Bool.false_and, Bool.and_false, Bool.true_or, Bool.or_true, Bool.or_false, Bool.false_or, decide_true, decide_false, decide_eq_true_eq, decide_eq_false_iff_not, if_true, if_false, ite_true, ite_false, ↓reduceIte, Int.natCast_nonneg, Nat.reduceLT, Nat.reduceLeDiff, Nat.reduceEqDiff, Nat.reduceSub, Nat.reduceMul, Int.reduceLT, Int.reduceLE, Int.reduceEq, Int.reduceAdd, Int.reduceSub, Int.reduceMul, Int.reduceNeg, Int.reducePow, List.length_map, List.length_range, eq_self, ne_eq, Classical.not_not, Bool.not_eq_true, Bool.not_eq_false, Bool.false_eq_true, reduceCtorEq, Int.toNat_natCast, Nat.add_eq, Nat.reduceAdd, Int.cast_ofNat_Int, Int.reduceToNat, Int.zero_add, Int.add_zero, Nat.zero_add, Nat.add_zero, Nat.sub_zero, Int.sub_zero, Int.natCast_zero, Int.natCast_one, Int.natCast_add, Int.natCast_succ, beq_self_eq_true, Bool.decide_eq_true, Bool.decide_eq_false, ↓vf0, ↓vm0, rf0, rm0, ↓qf0, ↓qm0, ↓zf0, ↓zm0, ↓im0, ss0, fi0, ↓vf1, ↓vm1, rf1, rm1, ↓qf1, ↓qm1, ↓zf1, ↓zm1, ↓im1, ss1, fi1, ↓vf2, ↓vm2, rf2, rm2, ↓qf2, ↓qm2, ↓zf2, ↓zm2, ↓im2, ss2, fi2, ↓vf3, ↓vm3, rf3, rm3, ↓qf3, ↓qm3, ↓zf3, ↓zm3, ↓im3, ss3, fi3, ↓vf4, ↓vm4, rf4, rm4, ↓qf4, ↓qm4, ↓zf4, ↓zm4, ↓im4, ss4, fi4]; (try simp only [T.bind_ret]), rfl⟩
  have m1 := mul_ok (i := 43) (j := k) (by decide) (by omega)
  have l2 : (l.map fun v => if v < 0 then -v else v).length ≤ 63 := by rw [List.length_map]; exact hl
  have l0 : ∀ x ∈ l.map fun v => if v < 0 then -v else v, 0 ≤ x := fun x hx => by
    obtain ⟨v, _, rfl⟩ := List.mem_map.mp hx
    split <;> omega
  generalize (l.map fun v => if v < 0 then -v else v) = L at *
  (simp only [U2f0_law_deal, U3_law_deal, U2_law_deal, U1_law_deal, U0_law_deal, al_seq, nx_nx, lq_nx]; refine al_rd _ (by (simp -dsimp only [↓fBin_b, ↓fUn_b, ↓fBlT_b, ↓lCons_b, ↓fSl_b, ↓sSeq_b, ↓sSet_b, ↓iSeq_b, ↓sFor_b, ↓fNew_b, ↓nLc_b, ↓fC_b, ↓lNil_b, ↓sNil_b, ↓fYes_b, ↓tgName_b, ↓tgNil_b, ↓tgCons_b, ↓tgTup_b, ↓lcRun_b, ↓fPart_n, ↓fPart_s, ↓frz_val, ↓lrs_val, ↓liftS_b, ↓liftN_b, ↓sRetDeal_b, ↓seqOf_t_b, ↓seqOf_l_b, ↓lstOf_l_b, ↓intOf_i_b, ↓blOf_b_b, ↓tru_n_b, ↓tru_b_b, ↓tru_i_b, ↓tru_t_b, ↓tru_l_b, ↓pLen_t_b, ↓pLen_l_b, ↓pLen_s_b, ↓pInt_i_b, ↓pInt_b_b, ↓pAbs_i_b, ↓pAdd_i_b, ↓pGe_i_b, ↓pCut_t_b, ↓pCut_l_b, ↓atI_0_b, ↓atI_1_b, ↓atI_2_b, ↓atI_3_b, ↓lg0_b, ↓lg1_b, ↓lg2_b, ↓lg3_b, rs_val, outV_rt, outV_nx, backE_n, backE_u, wipeE_n, wipeE_u, froOf_f, froOf_u, seqOf_t, seqOf_l, lstOf_l, intOf_i, blOf_b, tru_n, tru_b, tru_i, tru_t, tru_l, pLen_t, pLen_l, pLen_s, pInt_i, pInt_b, pAbs_i, pAdd_i, pGe_i, pCut_t, pCut_l, atI_0, atI_1, atI_2, atI_3, lg0, lg1, lg2, lg3, pIx_t, pIx_l, pAdd_t, pAdd_l, ↓keyOf1_ib, keyOf1_i, ↓T.bind_assoc, bind_ret', bind_bad', bind_exc', bind_draw', lift_some, lift_none', big, below62', below24', below64', below29', mul_ok, div_ok, mod_ok, addI, subI, addI, subI, ixN_nat, ↓lGive_b, ↓imt0, ↓imt1, ↓imt2, ↓imt3, List.length_cons, List.length_nil, List.map_cons, List.map_nil, List.append_nil, List.nil_append, List.cons_append, List.replicate_succ, List.replicate_zero, List.isEmpty_nil, List.isEmpty_cons, Option.map_some, Option.map_none, Option.bind_some, Option.bind_none, true_and, and_true, and_self, false_and, and_false, true_or, or_true, false_or, or_false, not_true_eq_false, not_false_eq_true, Bool.not_true, Bool.not_false, Bool.true_and, Bool.and_true, Bool.false_and, Bool.and_false, Bool.true_or, Bool.or_true, Bool.or_false, Bool.false_or, decide_true, decide_false, decide_eq_true_eq, decide_eq_false_iff_not, if_true, if_false, ite_true, ite_false, ↓reduceIte, Int.natCast_nonneg, Nat.reduceLT, Nat.reduceLeDiff, Nat.reduceEqDiff, Nat.reduceSub, Nat.reduceMul, Int.reduceLT, Int.reduceLE, Int.reduceEq, Int.reduceAdd, Int.reduceSub, Int.reduceMul, Int.reduceNeg, Int.reducePow, List.length_map, List.length_range, eq_self, ne_eq, Classical.not_not, Bool.not_eq_true, Bool.not_eq_false, Bool.false_eq_true, reduceCtorEq, Int.toNat_natCast, Nat.add_eq, Nat.reduceAdd, Int.cast_ofNat_Int, Int.reduceToNat, Int.zero_add, Int.add_zero, Nat.zero_add, Nat.add_zero, Nat.sub_zero, Int.sub_zero, Int.natCast_zero, Int.natCast_one, Int.natCast_add, Int.natCast_succ, beq_self_eq_true, Bool.decide_eq_true, Bool.decide_eq_false, ↓vf0, ↓vm0, rf0, rm0, ↓qf0, ↓qm0, ↓zf0, ↓zm0, ↓im0, ss0, fi0, ↓vf1, ↓vm1, rf1, rm1, ↓qf1, ↓qm1, ↓zf1, ↓zm1, ↓im1, ss1, fi1, ↓vf2, ↓vm2, rf2, rm2, ↓qf2, ↓qm2, ↓zf2, ↓zm2, ↓im2, ss2, fi2, ↓vf3, ↓vm3, rf3, rm3, ↓qf3, ↓qm3, ↓zf3, ↓zm3, ↓im3, ss3, fi3, ↓vf4, ↓vm4, rf4, rm4, ↓qf4, ↓qm4, ↓zf4, ↓zm4, ↓im4, ss4, fi4, S2f0_law_deal, S0_law_deal, S1_law_deal, S2_law_deal, S3_law_deal, U2f0_law_deal, U3_law_deal, U2_law_deal, U1_law_deal, U0_law_deal, c0]); (try simp only [T.bind_ret]); exact rfl) ?_); (try (with_reducible refine al_nx ?_))
  (simp only [U2f0_law_deal, U3_law_deal, U2_law_deal, U1_law_deal, U0_law_deal, al_seq, nx_nx, lq_nx]; refine al_rd _ (by (simp -dsimp only [↓fBin_b, ↓fUn_b, ↓fBlT_b, ↓lCons_b, ↓fSl_b, ↓sSeq_b, ↓sSet_b, ↓iSeq_b, ↓sFor_b, ↓fNew_b, ↓nLc_b, ↓fC_b, ↓lNil_b, ↓sNil_b, ↓fYes_b, ↓tgName_b, ↓tgNil_b, ↓tgCons_b, ↓tgTup_b, ↓lcRun_b, ↓fPart_n, ↓fPart_s, ↓frz_val, ↓lrs_val, ↓liftS_b, ↓liftN_b, ↓sRetDeal_b, ↓seqOf_t_b, ↓seqOf_l_b, ↓lstOf_l_b, ↓intOf_i_b, ↓blOf_b_b, ↓tru_n_b, ↓tru_b_b, ↓tru_i_b, ↓tru_t_b, ↓tru_l_b, ↓pLen_t_b, ↓pLen_l_b, ↓pLen_s_b, ↓pInt_i_b, ↓pInt_b_b, ↓pAbs_i_b, ↓pAdd_i_b, ↓pGe_i_b, ↓pCut_t_b, ↓pCut_l_b, ↓atI_0_b, ↓atI_1_b, ↓atI_2_b, ↓atI_3_b, ↓lg0_b, ↓lg1_b, ↓lg2_b, ↓lg3_b, rs_val, outV_rt, outV_nx, backE_n, backE_u, wipeE_n, wipeE_u, froOf_f, froOf_u, seqOf_t, seqOf_l, lstOf_l, intOf_i, blOf_b, tru_n, tru_b, tru_i, tru_t, tru_l, pLen_t, pLen_l, pLen_s, pInt_i, pInt_b, pAbs_i, pAdd_i, pGe_i, pCut_t, pCut_l, atI_0, atI_1, atI_2, atI_3, lg0, lg1, lg2, lg3, pIx_t, pIx_l, pAdd_t, pAdd_l, ↓keyOf1_ib, keyOf1_i, ↓T.bind_assoc, bind_ret', bind_bad', bind_exc', bind_draw', lift_some, lift_none', big, below62', below24', below64', below29', mul_ok, div_ok, mod_ok, addI, subI, addI, subI, ixN_nat, ↓lGive_b, ↓imt0, ↓imt1, ↓imt2, ↓imt3, List.length_cons, List.length_nil, List.map_cons, List.map_nil, List.append_nil, List.nil_append, List.cons_append, List.replicate_succ, List.replicate_zero, List.isEmpty_nil, List.isEmpty_cons, Option.map_some, Option.map_none, Option.bind_some, Option.bind_none, true_and, and_true, and_self, false_and, and_false, true_or, or_true, false_or, or_false, not_true_eq_false, not_false_eq_true, Bool.not_true, Bool.not_false, Bool.true_and, Bool.and_true, Bool.false_and, Bool.and_false, Bool.true_or, Bool.or_true, Bool.or_false, Bool.false_or, decide_true, decide_false, decide_eq_true_eq, decide_eq_false_iff_not, if_true, if_false, ite_true, ite_false, ↓reduceIte, Int.natCast_nonneg, Nat.reduceLT, Nat.reduceLeDiff, Nat.reduceEqDiff, Nat.reduceSub, Nat.reduceMul, Int.reduceLT, Int.reduceLE, Int.reduceEq, Int.reduceAdd, Int.reduceSub, Int.reduceMul, Int.reduceNeg, Int.reducePow, List.length_map, List.length_range, eq_self, ne_eq, Classical.not_not, Bool.not_eq_true, Bool.not_eq_false, Bool.false_eq_true, reduceCtorEq, Int.toNat_natCast, Nat.add_eq, Nat.reduceAdd, Int.cast_ofNat_Int, Int.reduceToNat, Int.zero_add, Int.add_zero, Nat.zero_add, Nat.add_zero, Nat.sub_zero, Int.sub_zero, Int.natCast_zero, Int.natCast_one, Int.natCast_add, Int.natCast_succ, beq_self_eq_true, Bool.decide_eq_true, Bool.decide_eq_false, ↓vf0, ↓vm0, rf0, rm0, ↓qf0, ↓qm0, ↓zf0, ↓zm0, ↓im0, ss0, fi0, ↓vf1, ↓vm1, rf1, rm1, ↓qf1, ↓qm1, ↓zf1, ↓zm1, ↓im1, ss1, fi1, ↓vf2, ↓vm2, rf2, rm2, ↓qf2, ↓qm2, ↓zf2, ↓zm2, ↓im2, ss2, fi2, ↓vf3, ↓vm3, rf3, rm3, ↓qf3, ↓qm3, ↓zf3, ↓zm3, ↓im3, ss3, fi3, ↓vf4, ↓vm4, rf4, rm4, ↓qf4, ↓qm4, ↓zf4, ↓zm4, ↓im4, ss4, fi4, S2f0_law_deal, S0_law_deal, S1_law_deal, S2_law_deal, S3_law_deal, U2f0_law_deal, U3_law_deal, U2_law_deal, U1_law_deal, U0_law_deal, m1]); (try simp only [T.bind_ret]); exact rfl) ?_); (try (with_reducible refine al_nx ?_))
  (simp only [U2f0_law_deal, U3_law_deal, U2_law_deal, U1_law_deal, U0_law_deal, al_seq, nx_nx, lq_nx]; refine al_rd _ (by (simp -dsimp only [↓fBin_b, ↓fUn_b, ↓fBlT_b, ↓lCons_b, ↓fSl_b, ↓sSeq_b, ↓sSet_b, ↓iSeq_b, ↓sFor_b, ↓fNew_b, ↓nLc_b, ↓fC_b, ↓lNil_b, ↓sNil_b, ↓fYes_b, ↓tgName_b, ↓tgNil_b, ↓tgCons_b, ↓tgTup_b, ↓lcRun_b, ↓fPart_n, ↓fPart_s, ↓frz_val, ↓lrs_val, ↓liftS_b, ↓liftN_b, ↓sRetDeal_b, ↓seqOf_t_b, ↓seqOf_l_b, ↓lstOf_l_b, ↓intOf_i_b, ↓blOf_b_b, ↓tru_n_b, ↓tru_b_b, ↓tru_i_b, ↓tru_t_b, ↓tru_l_b, ↓pLen_t_b, ↓pLen_l_b, ↓pLen_s_b, ↓pInt_i_b, ↓pInt_b_b, ↓pAbs_i_b, ↓pAdd_i_b, ↓pGe_i_b, ↓pCut_t_b, ↓pCut_l_b, ↓atI_0_b, ↓atI_1_b, ↓atI_2_b, ↓atI_3_b, ↓lg0_b, ↓lg1_b, ↓lg2_b, ↓lg3_b, rs_val, outV_rt, outV_nx, backE_n, backE_u, wipeE_n, wipeE_u, froOf_f, froOf_u, seqOf_t, seqOf_l, lstOf_l, intOf_i, blOf_b, tru_n, tru_b, tru_i, tru_t, tru_l, pLen_t, pLen_l, pLen_s, pInt_i, pInt_b, pAbs_i, pAdd_i, pGe_i, pCut_t, pCut_l, atI_0, atI_1, atI_2, atI_3, lg0, lg1, lg2, lg3, pIx_t, pIx_l, pAdd_t, pAdd_l, ↓keyOf1_ib, keyOf1_i, ↓T.bind_assoc, bind_ret', bind_bad', bind_exc', bind_draw', lift_some, lift_none', big, below62', below24', below64', below29', mul_ok, div_ok, mod_ok, addI, subI, addI, subI, ixN_nat, ↓lGive_b, ↓imt0, ↓imt1, ↓imt2, ↓imt3, List.length_cons, List.length_nil, List.map_cons, List.map_nil, List.append_nil, List.nil_append, List.cons_append, List.replicate_succ, List.replicate_zero, List.isEmpty_nil, List.isEmpty_cons, Option.map_some, Option.map_none, Option.bind_some, Option.bind_none, true_and, and_true, and_self, false_and, and_false, true_or, or_true, false_or, or_false, not_true_eq_false, not_false_eq_true, Bool.not_true, Bool.not_false, Bool.true_and, Bool.and_true, Bool.false_and, Bool.and_false, Bool.true_or, Bool.or_true, Bool.or_false, Bool.false_or, decide_true, decide_false, decide_eq_true_eq, decide_eq_false_iff_not, if_true, if_false, ite_true, ite_false, ↓reduceIte, Int.natCast_nonneg, Nat.reduceLT, Nat.reduceLeDiff, Nat.reduceEqDiff, Nat.reduceSub, Nat.reduceMul, Int.reduceLT, Int.reduceLE, Int.reduceEq, Int.reduceAdd, Int.reduceSub, Int.reduceMul, Int.reduceNeg, Int.reducePow, List.length_map, List.length_range, eq_self, ne_eq, Classical.not_not, Bool.not_eq_true, Bool.not_eq_false, Bool.false_eq_true, reduceCtorEq, Int.toNat_natCast, Nat.add_eq, Nat.reduceAdd, Int.cast_ofNat_Int, Int.reduceToNat, Int.zero_add, Int.add_zero, Nat.zero_add, Nat.add_zero, Nat.sub_zero, Int.sub_zero, Int.natCast_zero, Int.natCast_one, Int.natCast_add, Int.natCast_succ, beq_self_eq_true, Bool.decide_eq_true, Bool.decide_eq_false, ↓vf0, ↓vm0, rf0, rm0, ↓qf0, ↓qm0, ↓zf0, ↓zm0, ↓im0, ss0, fi0, ↓vf1, ↓vm1, rf1, rm1, ↓qf1, ↓qm1, ↓zf1, ↓zm1, ↓im1, ss1, fi1, ↓vf2, ↓vm2, rf2, rm2, ↓qf2, ↓qm2, ↓zf2, ↓zm2, ↓im2, ss2, fi2, ↓vf3, ↓vm3, rf3, rm3, ↓qf3, ↓qm3, ↓zf3, ↓zm3, ↓im3, ss3, fi3, ↓vf4, ↓vm4, rf4, rm4, ↓qf4, ↓qm4, ↓zf4, ↓zm4, ↓im4, ss4, fi4, S2f0_law_deal, S0_law_deal, S1_law_deal, S2_law_deal, S3_law_deal, U2f0_law_deal, U3_law_deal, U2_law_deal, U1_law_deal, U0_law_deal]); (try simp only [T.bind_ret]); exact rfl) ?_); (try (with_reducible refine al_nx ?_))
  refine al_forL (fun i ρ => ∃ (b : Int) (s4 : Dn.Slot), 0 ≤ b ∧ b < 2147483647 ∧ (s4 = .un ∨ ∃ v, s4 = .fro (.int v)) ∧ ρ = [.fro (.scr ns), .fro (.int k), .fro (.lst (il L)), .fro (.int b), s4]) ⟨_, _, by omega, by omega, .inl rfl, rfl⟩ (fun i x ρ hx hI => ?_) fun ρ hI => ?_
  · obtain ⟨b, s4, h0, h1, _, rfl⟩ := hI
    have hi : i < L.length := by
      have := (List.getElem?_eq_some_iff.mp hx).1
      rwa [il_len] at this
    rw [il_get hi] at hx
    cases hx
    generalize L.getD i 0 = v
    (try refine al_rd _ (by (simp -dsimp only [↓fBin_b, ↓fUn_b, ↓fTru_b, ↓fBlT_b, ↓fNotT_b, ↓fOrT_b, ↓fAnd_b, ↓fNot_b, ↓fIf_b, ↓fChain_b, ↓lCons_b, ↓fTup_b, ↓fSl_b, ↓fCall_b, ↓fMeth_b, ↓sSeq_b, ↓sExpr_b, ↓sRet_b, ↓sIf_b, ↓sSet_b, ↓sAsg_b, ↓iSeq_b, ↓iRange1_b, ↓sFor_b, ↓fNew_b, ↓sSetN_b, ↓nLst_b, ↓nList_b, ↓fAppend_b, ↓fPopAt_b, ↓nLc_b, ↓sPar_b, ↓sParN_b, ↓sFldSet_b, ↓fMake_b, ↓Dn.iEnum_b, ↓nLc2_b, ↓fC_b, ↓lNil_b, ↓sNil_b, ↓sBad_b, ↓fYes_b, ↓tgName_b, ↓tgNil_b, ↓tgCons_b, ↓tgTup_b, ↓lcRun_b, ↓fPart_n, ↓fPart_s, ↓frz_val, ↓lrs_val, ↓liftS_b, ↓liftN_b, ↓sMix_b, ↓mF_b, ↓mN_b, ↓mNil_b, ↓sRetDeal_b, ↓fMakeD_b, ↓seqOf_t_b, ↓seqOf_l_b, ↓lstOf_l_b, ↓intOf_i_b, ↓blOf_b_b, ↓tru_n_b, ↓tru_b_b, ↓tru_i_b, ↓tru_t_b, ↓tru_l_b, ↓pLen_t_b, ↓pLen_l_b, ↓pLen_s_b, ↓pInt_i_b, ↓pInt_b_b, ↓pAbs_i_b, ↓pTuple_t_b, ↓pTuple_l_b, ↓pAdd_i_b, ↓pSub_i_b, ↓pLt_i_b, ↓pLe_i_b, ↓pGt_i_b, ↓pGe_i_b, ↓pMax2_i_b, ↓pMin2_i_b, ↓pIs_nn_b, ↓pIs_in_b, ↓pIs_tn_b, ↓pIs_ln_b, ↓pIs_bn_b, ↓pIs_bb_b, ↓pNotIs_nn_b, ↓pNotIs_in_b, ↓pNotIs_tn_b, ↓pNotIs_ln_b, ↓pNotIs_bn_b, ↓pNotIs_bb_b, ↓pCut_t_b, ↓pCut_l_b, ↓atI_0_b, ↓atI_1_b, ↓atI_2_b, ↓atI_3_b, ↓lg0_b, ↓lg1_b, ↓lg2_b, ↓lg3_b, ↓isi_bl_int_b, ↓isi_bl_bool_b, ↓isi_bl_tuple_b, ↓isi2_bl_b, ↓isi_int_int_b, ↓isi_int_bool_b, ↓isi_int_tuple_b, ↓isi2_int_b, ↓isi_str_int_b, ↓isi_str_bool_b, ↓isi_str_tuple_b, ↓isi2_str_b, ↓isi_tup_int_b, ↓isi_tup_bool_b, ↓isi_tup_tuple_b, ↓isi2_tup_b, ↓isi_lst_int_b, ↓isi_lst_bool_b, ↓isi_lst_tuple_b, ↓isi2_lst_b, rs_val, outV_rt, outV_nx, backE_n, backE_u, wipeE_n, wipeE_u, froOf_f, froOf_u, setM_nil, setM_fr, setM_nl, seqOf_t, seqOf_l, lstOf_l, intOf_i, blOf_b, tru_n, tru_b, tru_i, tru_t, tru_l, pLen_t, pLen_l, pLen_s, pInt_i, pInt_b, pAbs_i, pTuple_t, pTuple_l, pAdd_i, pSub_i, pLt_i, pLe_i, pGt_i, pGe_i, pMax2_i, pMin2_i, pIs_nn, pIs_in, pIs_tn, pIs_ln, pIs_bn, pIs_bb, pNotIs_nn, pNotIs_in, pNotIs_tn, pNotIs_ln, pNotIs_bn, pNotIs_bb, pCut_t, pCut_l, atI_0, atI_1, atI_2, atI_3, lg0, lg1, lg2, lg3, isi_bl_int, isi_bl_bool, isi_bl_tuple, isi2_bl, isi_int_int, isi_int_bool, isi_int_tuple, isi2_int, isi_str_int, isi_str_bool, isi_str_tuple, isi2_str, isi_tup_int, isi_tup_bool, isi_tup_tuple, isi2_tup, isi_lst_int, isi_lst_bool, isi_lst_tuple, isi2_lst, pIx_t, pIx_l, pFld_i, pAdd_t, pAdd_l, ↓lenK_b, ↓iRange3_b, ↓keyOf1_ib, keyOf1_i, ↓T.bind_assoc, bind_ret', bind_bad', bind_exc', bind_draw', lift_some, lift_none', big, below62', below24', below64', below29', mul_ok, div_ok, mod_ok, ↓sAugI_b, addI, subI, ↓nRep_b, ↓sAugIx_b, addI, subI, ixN_nat, ↓sDputT_b, ↓lGive_b, ↓mD_b, setM_nd, ↓imt0, ↓imt1, ↓imt2, ↓imt3, List.length_cons, List.length_nil, List.map_cons, List.map_nil, List.append_nil, List.nil_append, List.cons_append, List.replicate_succ, List.replicate_zero, List.isEmpty_nil, List.isEmpty_cons, Option.map_some, Option.map_none, Option.bind_some, Option.bind_none, true_and, and_true, and_self, false_and, and_false, true_or, or_true, false_or, or_false, not_true_eq_false, not_false_eq_true, Bool.not_true, Bool.not_false, Bool.true_and, Bool.and_true, Bool.false_and, Bool.and_false, Bool.true_or, Bool.or_true, Bool.or_false, Bool.false_or, decide_true, decide_false, decide_eq_true_eq, decide_eq_false_iff_not, if_true, if_false, ite_true, ite_false, ↓reduceIte, Int.natCast_nonneg, Nat.reduceLT, Nat.reduceLeDiff, Nat.reduceEqDiff, Nat.reduceSub, Nat.reduceMul, Int.reduceLT, Int.reduceLE, Int.reduceEq, Int.reduceAdd, Int.reduceSub, Int.reduceMul, Int.reduceNeg, Int.reducePow, List.length_map, List.length_range, eq_self, ne_eq, Classical.not_not, Bool.not_eq_true, Bool.not_eq_false, Bool.false_eq_true, reduceCtorEq, Int.toNat_natCast, Nat.add_eq, Nat.reduceAdd, Int.cast_ofNat_Int, Int.reduceToNat, Int.zero_add, Int.add_zero, Nat.zero_add, Nat.add_zero, Nat.sub_zero, Int.sub_zero, Int.natCast_zero, Int.natCast_one, Int.natCast_add, Int.natCast_succ, beq_self_eq_true, Bool.decide_eq_true, Bool.decide_eq_false, ↓vf0, ↓vm0, rf0, rm0, ↓qf0, ↓qm0, ↓zf0, ↓zm0, ↓im0, ss0, ↓imd0, fi0, ↓vf1, ↓vm1, rf1, rm1, ↓qf1, ↓qm1, ↓zf1, ↓zm1, ↓im1, ss1, ↓imd1, fi1, ↓vf2, ↓vm2, rf2, rm2, ↓qf2, ↓qm2, ↓zf2, ↓zm2, ↓im2, ss2, ↓imd2, fi2, ↓vf3, ↓vm3, rf3, rm3, ↓qf3, ↓qm3, ↓zf3, ↓zm3, ↓im3, ss3, ↓imd3, fi3, ↓vf4, ↓vm4, rf4, rm4, ↓qf4, ↓qm4, ↓zf4, ↓zm4, ↓im4, ss4, ↓imd4, fi4, ↓vf5, ↓vm5, rf5, rm5, ↓qf5, ↓qm5, ↓zf5, ↓zm5, ↓im5, ss5, ↓imd5, fi5, ↓vf6, ↓vm6, rf6, rm6, ↓qf6, ↓qm6, ↓zf6, ↓zm6, ↓im6, ss6, ↓imd6, fi6, ↓vf7, ↓vm7, rf7, rm7, ↓qf7, ↓qm7, ↓zf7, ↓zm7, ↓im7, ss7, ↓imd7, fi7, ↓vf8, ↓vm8, rf8, rm8, ↓qf8, ↓qm8, ↓zf8, ↓zm8, ↓im8, ss8, ↓imd8, fi8, ↓vf9, ↓vm9, rf9, rm9, ↓qf9, ↓qm9, ↓zf9, ↓zm9, ↓im9, ss9, ↓imd9, fi9, ↓vf10, ↓vm10, rf10, rm10, ↓qf10, ↓qm10, ↓zf10, ↓zm10, ↓im10, ss10, ↓imd10, fi10, ↓vf11, ↓vm11, rf11, rm11, ↓qf11, ↓qm11, ↓zf11, ↓zm11, ↓im11, ss11, ↓imd11, fi11]); (try simp only [T.bind_ret]); exact rfl) ?_); (try (with_reducible refine al_nx ?_)); refine al_retI.mpr ?_
    have r0 := Int.emod_nonneg (b * 40487 + v % 2147483549 + 23) (by decide : (2147483647 : Int) ≠ 0)
    have r1 := Int.emod_lt_of_pos (b * 40487 + v % 2147483549 + 23) (by decide : (0 : Int) < 2147483647)
    have m3 := mul_ok (i := b) (j := 40487) (by omega) (by decide)
    (simp only [U2f0_law_deal, U3_law_deal, U2_law_deal, U1_law_deal, U0_law_deal, al_seq, nx_nx, lq_nx]; refine al_rd _ (by (simp -dsimp only [↓fBin_b, ↓fUn_b, ↓fBlT_b, ↓lCons_b, ↓fSl_b, ↓sSeq_b, ↓sSet_b, ↓iSeq_b, ↓sFor_b, ↓fNew_b, ↓nLc_b, ↓fC_b, ↓lNil_b, ↓sNil_b, ↓fYes_b, ↓tgName_b, ↓tgNil_b, ↓tgCons_b, ↓tgTup_b, ↓lcRun_b, ↓fPart_n, ↓fPart_s, ↓frz_val, ↓lrs_val, ↓liftS_b, ↓liftN_b, ↓sRetDeal_b, ↓seqOf_t_b, ↓seqOf_l_b, ↓lstOf_l_b, ↓intOf_i_b, ↓blOf_b_b, ↓tru_n_b, ↓tru_b_b, ↓tru_i_b, ↓tru_t_b, ↓tru_l_b, ↓pLen_t_b, ↓pLen_l_b, ↓pLen_s_b, ↓pInt_i_b, ↓pInt_b_b, ↓pAbs_i_b, ↓pAdd_i_b, ↓pGe_i_b, ↓pCut_t_b, ↓pCut_l_b, ↓atI_0_b, ↓atI_1_b, ↓atI_2_b, ↓atI_3_b, ↓lg0_b, ↓lg1_b, ↓lg2_b, ↓lg3_b, rs_val, outV_rt, outV_nx, backE_n, backE_u, wipeE_n, wipeE_u, froOf_f, froOf_u, seqOf_t, seqOf_l, lstOf_l, intOf_i, blOf_b, tru_n, tru_b, tru_i, tru_t, tru_l, pLen_t, pLen_l, pLen_s, pInt_i, pInt_b, pAbs_i, pAdd_i, pGe_i, pCut_t, pCut_l, atI_0, atI_1, atI_2, atI_3, lg0, lg1, lg2, lg3, pIx_t, pIx_l, pAdd_t, pAdd_l, ↓keyOf1_ib, keyOf1_i, ↓T.bind_assoc, bind_ret', bind_bad', bind_exc', bind_draw', lift_some, lift_none', big, below62', below24', below64', below29', mul_ok, div_ok, mod_ok, addI, subI, addI, subI, ixN_nat, ↓lGive_b, ↓imt0, ↓imt1, ↓imt2, ↓imt3, List.length_cons, List.length_nil, List.map_cons, List.map_nil, List.append_nil, List.nil_append, List.cons_append, List.replicate_succ, List.replicate_zero, List.isEmpty_nil, List.isEmpty_cons, Option.map_some, Option.map_none, Option.bind_some, Option.bind_none, true_and, and_true, and_self, false_and, and_false, true_or, or_true, false_or, or_false, not_true_eq_false, not_false_eq_true, Bool.not_true, Bool.not_false, Bool.true_and, Bool.and_true, Bool.false_and, Bool.and_false, Bool.true_or, Bool.or_true, Bool.or_false, Bool.false_or, decide_true, decide_false, decide_eq_true_eq, decide_eq_false_iff_not, if_true, if_false, ite_true, ite_false, ↓reduceIte, Int.natCast_nonneg, Nat.reduceLT, Nat.reduceLeDiff, Nat.reduceEqDiff, Nat.reduceSub, Nat.reduceMul, Int.reduceLT, Int.reduceLE, Int.reduceEq, Int.reduceAdd, Int.reduceSub, Int.reduceMul, Int.reduceNeg, Int.reducePow, List.length_map, List.length_range, eq_self, ne_eq, Classical.not_not, Bool.not_eq_true, Bool.not_eq_false, Bool.false_eq_true, reduceCtorEq, Int.toNat_natCast, Nat.add_eq, Nat.reduceAdd, Int.cast_ofNat_Int, Int.reduceToNat, Int.zero_add, Int.add_zero, Nat.zero_add, Nat.add_zero, Nat.sub_zero, Int.sub_zero, Int.natCast_zero, Int.natCast_one, Int.natCast_add, Int.natCast_succ, beq_self_eq_true, Bool.decide_eq_true, Bool.decide_eq_false, ↓vf0, ↓vm0, rf0, rm0, ↓qf0, ↓qm0, ↓zf0, ↓zm0, ↓im0, ss0, fi0, ↓vf1, ↓vm1, rf1, rm1, ↓qf1, ↓qm1, ↓zf1, ↓zm1, ↓im1, ss1, fi1, ↓vf2, ↓vm2, rf2, rm2, ↓qf2, ↓qm2, ↓zf2, ↓zm2, ↓im2, ss2, fi2, ↓vf3, ↓vm3, rf3, rm3, ↓qf3, ↓qm3, ↓zf3, ↓zm3, ↓im3, ss3, fi3, ↓vf4, ↓vm4, rf4, rm4, ↓qf4, ↓qm4, ↓zf4, ↓zm4, ↓im4, ss4, fi4, S2f0_law_deal, S0_law_deal, S1_law_deal, S2_law_deal, S3_law_deal, U2f0_law_deal, U3_law_deal, U2_law_deal, U1_law_deal, U0_law_deal, m3]); (try simp only [T.bind_ret]); exact rfl) ?_); (try (with_reducible refine al_nx ?_))
    refine al_endL ?_
    exact ⟨_, _, r0, r1, .inr ⟨_, rfl⟩, rfl⟩
  · obtain ⟨b, s4, h0, h1, h4, rfl⟩ := hI
    have p18 : pPow (.int 10) (.int 18) = some (.int 1000000000000000000) := pow_ok (i := 10) (j := 18) (by decide) (by decide)
    have c1 : C1_law_deal [.fro (.scr ns), .fro (.int k), .fro (.lst (il L)), .fro (.int b), s4] = .ret ((L.filter fun x => decide ((1000000000000000000 : Int) ≤ x)).map AV.int, [.fro (.scr ns), .fro (.int k), .fro (.lst (il L)), .fro (.int b), s4]) := by
      refine nLc_F (l := L) AV.int _ AV.int (by refine t_eq ?_; simp -dsimp only [↓fBin_b, ↓fUn_b, ↓fBlT_b, ↓lCons_b, ↓fSl_b, ↓sSeq_b, ↓sSet_b, ↓iSeq_b, ↓sFor_b, ↓fNew_b, ↓nLc_b, ↓fC_b, ↓lNil_b, ↓sNil_b, ↓fYes_b, ↓tgName_b, ↓tgNil_b, ↓tgCons_b, ↓tgTup_b, ↓lcRun_b, ↓fPart_n, ↓fPart_s, ↓frz_val, ↓lrs_val, ↓liftS_b, ↓liftN_b, ↓sRetDeal_b, ↓seqOf_t_b, ↓seqOf_l_b, ↓lstOf_l_b, ↓intOf_i_b, ↓blOf_b_b, ↓tru_n_b, ↓tru_b_b, ↓tru_i_b, ↓tru_t_b, ↓tru_l_b, ↓pLen_t_b, ↓pLen_l_b, ↓pLen_s_b, ↓pInt_i_b, ↓pInt_b_b, ↓pAbs_i_b, ↓pAdd_i_b, ↓pGe_i_b, ↓pCut_t_b, ↓pCut_l_b, ↓atI_0_b, ↓atI_1_b, ↓atI_2_b, ↓atI_3_b, ↓lg0_b, ↓lg1_b, ↓lg2_b, ↓lg3_b, rs_val, outV_rt, outV_nx, backE_n, backE_u, wipeE_n, wipeE_u, froOf_f, froOf_u, seqOf_t, seqOf_l, lstOf_l, intOf_i, blOf_b, tru_n, tru_b, tru_i, tru_t, tru_l, pLen_t, pLen_l, pLen_s, pInt_i, pInt_b, pAbs_i, pAdd_i, pGe_i, pCut_t, pCut_l, atI_0, atI_1, atI_2, atI_3, lg0, lg1, lg2, lg3, pIx_t, pIx_l, pAdd_t, pAdd_l, ↓keyOf1_ib, keyOf1_i, ↓T.bind_assoc, bind_ret', bind_bad', bind_exc', bind_draw', lift_some, lift_none', big, below62', below24', below64', below29', mul_ok, div_ok, mod_ok, addI, subI, addI, subI, ixN_nat, ↓lGive_b, ↓imt0, ↓imt1, ↓imt2, ↓imt3, List.length_cons, List.length_nil, List.map_cons, List.map_nil, List.append_nil, List.nil_append, List.cons_append, List.replicate_succ, List.replicate_zero, List.isEmpty_nil, List.isEmpty_cons, Option.map_some, Option.map_none, Option.bind_some, Option.bind_none, true_and, and_true, and_self, false_and, and_false, true_or, or_true, false_or, or_false, not_true_eq_false, not_false_eq_true, Bool.not_true, Bool.not_false, Bool.true_and, Bool.and_true, Bool.false_and, Bool.and_false, Bool.true_or, Bool.or_true, Bool.or_false, Bool.false_or, decide_true, decide_false, decide_eq_true_eq, decide_eq_false_iff_not, if_true, if_false, ite_true, ite_false, ↓reduceIte, Int.natCast_nonneg, Nat.reduceLT, Nat.reduceLeDiff, Nat.reduceEqDiff, Nat.reduceSub, Nat.reduceMul, Int.reduceLT, Int.reduceLE, Int.reduceEq, Int.reduceAdd, Int.reduceSub, Int.reduceMul, Int.reduceNeg, Int.reducePow, List.length_map, List.length_range, eq_self, ne_eq, Classical.not_not, Bool.not_eq_true, Bool.not_eq_false, Bool.false_eq_true, reduceCtorEq, Int.toNat_natCast, Nat.add_eq, Nat.reduceAdd, Int.cast_ofNat_Int, Int.reduceToNat, Int.zero_add, Int.add_zero, Nat.zero_add, Nat.add_zero, Nat.sub_zero, Int.sub_zero, Int.natCast_zero, Int.natCast_one, Int.natCast_add, Int.natCast_succ, beq_self_eq_true, Bool.decide_eq_true, Bool.decide_eq_false, ↓vf0, ↓vm0, rf0, rm0, ↓qf0, ↓qm0, ↓zf0, ↓zm0, ↓im0, ss0, fi0, ↓vf1, ↓vm1, rf1, rm1, ↓qf1, ↓qm1, ↓zf1, ↓zm1, ↓im1, ss1, fi1, ↓vf2, ↓vm2, rf2, rm2, ↓qf2, ↓qm2, ↓zf2, ↓zm2, ↓im2, ss2, fi2, ↓vf3, ↓vm3, rf3, rm3, ↓qf3, ↓qm3, ↓zf3, ↓zm3, ↓im3, ss3, fi3, ↓vf4, ↓vm4, rf4, rm4, ↓qf4, ↓qm4, ↓zf4, ↓zm4, ↓im4, ss4, fi4, il]; (try simp only [T.bind_ret])) (Nat.lt_of_le_of_lt l2 (by decide)) (by rcases h4 with rfl | ⟨v, rfl⟩ <;> rfl) fun v hv => ⟨[.fro (.scr ns), .fro (.int k), .fro (.lst (il L)), .fro (.int b), .fro (.int v)], ?_, rfl⟩
      by_cases h : (1000000000000000000 : Int) ≤ v
      · refine t_eq ?_; simp -dsimp only [↓fBin_b, ↓fUn_b, ↓fBlT_b, ↓lCons_b, ↓fSl_b, ↓sSeq_b, ↓sSet_b, ↓iSeq_b, ↓sFor_b, ↓fNew_b, ↓nLc_b, ↓fC_b, ↓lNil_b, ↓sNil_b, ↓fYes_b, ↓tgName_b, ↓tgNil_b, ↓tgCons_b, ↓tgTup_b, ↓lcRun_b, ↓fPart_n, ↓fPart_s, ↓frz_val, ↓lrs_val, ↓liftS_b, ↓liftN_b, ↓sRetDeal_b, ↓seqOf_t_b, ↓seqOf_l_b, ↓lstOf_l_b, ↓intOf_i_b, ↓blOf_b_b, ↓tru_n_b, ↓tru_b_b, ↓tru_i_b, ↓tru_t_b, ↓tru_l_b, ↓pLen_t_b, ↓pLen_l_b, ↓pLen_s_b, ↓pInt_i_b, ↓pInt_b_b, ↓pAbs_i_b, ↓pAdd_i_b, ↓pGe_i_b, ↓pCut_t_b, ↓pCut_l_b, ↓atI_0_b, ↓atI_1_b, ↓atI_2_b, ↓atI_3_b, ↓lg0_b, ↓lg1_b, ↓lg2_b, ↓lg3_b, rs_val, outV_rt, outV_nx, backE_n, backE_u, wipeE_n, wipeE_u, froOf_f, froOf_u, seqOf_t, seqOf_l, lstOf_l, intOf_i, blOf_b, tru_n, tru_b, tru_i, tru_t, tru_l, pLen_t, pLen_l, pLen_s, pInt_i, pInt_b, pAbs_i, pAdd_i, pGe_i, pCut_t, pCut_l, atI_0, atI_1, atI_2, atI_3, lg0, lg1, lg2, lg3, pIx_t, pIx_l, pAdd_t, pAdd_l, ↓keyOf1_ib, keyOf1_i, ↓T.bind_assoc, bind_ret', bind_bad', bind_exc', bind_draw', lift_some, lift_none', big, below62', below24', below64', below29', mul_ok, div_ok, mod_ok, addI, subI, addI, subI, ixN_nat, ↓lGive_b, ↓imt0, ↓imt1, ↓imt2, ↓imt3, List.length_cons, List.length_nil, List.map_cons, List.map_nil, List.append_nil, List.nil_append, List.cons_append, List.replicate_succ, List.replicate_zero, List.isEmpty_nil, List.isEmpty_cons, Option.map_some, Option.map_none, Option.bind_some, Option.bind_none, true_and, and_true, and_self, false_and, and_false, true_or, or_true, false_or, or_false, not_true_eq_false, not_false_eq_true, Bool.not_true, Bool.not_false, Bool.true_and, Bool.and_true, Bool.false_and, Bool.and_false, Bool.true_or, Bool.or_true, Bool.or_false, Bool.false_or, decide_true, decide_false, decide_eq_true_eq, decide_eq_false_iff_not, if_true, if_false, ite_true, ite_false, ↓reduceIte, Int.natCast_nonneg, Nat.reduceLT, Nat.reduceLeDiff, Nat.reduceEqDiff, Nat.reduceSub, Nat.reduceMul, Int.reduceLT, Int.reduceLE, Int.reduceEq, Int.reduceAdd, Int.reduceSub, Int.reduceMul, Int.reduceNeg, Int.reducePow, List.length_map, List.length_range, eq_self, ne_eq, Classical.not_not, Bool.not_eq_true, Bool.not_eq_false, Bool.false_eq_true, reduceCtorEq, Int.toNat_natCast, Nat.add_eq, Nat.reduceAdd, Int.cast_ofNat_Int, Int.reduceToNat, Int.zero_add, Int.add_zero, Nat.zero_add, Nat.add_zero, Nat.sub_zero, Int.sub_zero, Int.natCast_zero, Int.natCast_one, Int.natCast_add, Int.natCast_succ, beq_self_eq_true, Bool.decide_eq_true, Bool.decide_eq_false, ↓vf0, ↓vm0, rf0, rm0, ↓qf0, ↓qm0, ↓zf0, ↓zm0, ↓im0, ss0, fi0, ↓vf1, ↓vm1, rf1, rm1, ↓qf1, ↓qm1, ↓zf1, ↓zm1, ↓im1, ss1, fi1, ↓vf2, ↓vm2, rf2, rm2, ↓qf2, ↓qm2, ↓zf2, ↓zm2, ↓im2, ss2, fi2, ↓vf3, ↓vm3, rf3, rm3, ↓qf3, ↓qm3, ↓zf3, ↓zm3, ↓im3, ss3, fi3, ↓vf4, ↓vm4, rf4, rm4, ↓qf4, ↓qm4, ↓zf4, ↓zm4, ↓im4, ss4, fi4, p18, h]; (try simp only [T.bind_ret])
      · refine t_eq ?_; simp -dsimp only [↓fBin_b, ↓fUn_b, ↓fBlT_b, ↓lCons_b, ↓fSl_b, ↓sSeq_b, ↓sSet_b, ↓iSeq_b, ↓sFor_b, ↓fNew_b, ↓nLc_b, ↓fC_b, ↓lNil_b, ↓sNil_b, ↓fYes_b, ↓tgName_b, ↓tgNil_b, ↓tgCons_b, ↓tgTup_b, ↓lcRun_b, ↓fPart_n, ↓fPart_s, ↓frz_val, ↓lrs_val, ↓liftS_b, ↓liftN_b, ↓sRetDeal_b, ↓seqOf_t_b, ↓seqOf_l_b, ↓lstOf_l_b, ↓intOf_i_b, ↓blOf_b_b, ↓tru_n_b, ↓tru_b_b, ↓tru_i_b, ↓tru_t_b, ↓tru_l_b, ↓pLen_t_b, ↓pLen_l_b, ↓pLen_s_b, ↓pInt_i_b, ↓pInt_b_b, ↓pAbs_i_b, ↓pAdd_i_b, ↓pGe_i_b, ↓pCut_t_b, ↓pCut_l_b, ↓atI_0_b, ↓atI_1_b, ↓atI_2_b, ↓atI_3_b, ↓lg0_b, ↓lg1_b, ↓lg2_b, ↓lg3_b, rs_val, outV_rt, outV_nx, backE_n, backE_u, wipeE_n, wipeE_u, froOf_f, froOf_u, seqOf_t, seqOf_l, lstOf_l, intOf_i, blOf_b, tru_n, tru_b, tru_i, tru_t, tru_l, pLen_t, pLen_l, pLen_s, pInt_i, pInt_b, pAbs_i, pAdd_i, pGe_i, pCut_t, pCut_l, atI_0, atI_1, atI_2, atI_3, lg0, lg1, lg2, lg3, pIx_t, pIx_l, pAdd_t, pAdd_l, ↓keyOf1_ib, keyOf1_i, ↓T.bind_assoc, bind_ret', bind_bad', bind_exc', bind_draw', lift_some, lift_none', big, below62', below24', below64', below29', mul_ok, div_ok, mod_ok, addI, subI, addI, subI, ixN_nat, ↓lGive_b, ↓imt0, ↓imt1, ↓imt2, ↓imt3, List.length_cons, List.length_nil, List.map_cons, List.map_nil, List.append_nil, List.nil_append, List.cons_append, List.replicate_succ, List.replicate_zero, List.isEmpty_nil, List.isEmpty_cons, Option.map_some, Option.map_none, Option.bind_some, Option.bind_none, true_and, and_true, and_self, false_and, and_false, true_or, or_true, false_or, or_false, not_true_eq_false, not_false_eq_true, Bool.not_true, Bool.not_false, Bool.true_and, Bool.and_true, Bool.false_and, Bool.and_false, Bool.true_or, Bool.or_true, Bool.or_false, Bool.false_or, decide_true, decide_false, decide_eq_true_eq, decide_eq_false_iff_not, if_true, if_false, ite_true, ite_false, ↓reduceIte, Int.natCast_nonneg, Nat.reduceLT, Nat.reduceLeDiff, Nat.reduceEqDiff, Nat.reduceSub, Nat.reduceMul, Int.reduceLT, Int.reduceLE, Int.reduceEq, Int.reduceAdd, Int.reduceSub, Int.reduceMul, Int.reduceNeg, Int.reducePow, List.length_map, List.length_range, eq_self, ne_eq, Classical.not_not, Bool.not_eq_true, Bool.not_eq_false, Bool.false_eq_true, reduceCtorEq, Int.toNat_natCast, Nat.add_eq, Nat.reduceAdd, Int.cast_ofNat_Int, Int.reduceToNat, Int.zero_add, Int.add_zero, Nat.zero_add, Nat.add_zero, Nat.sub_zero, Int.sub_zero, Int.natCast_zero, Int.natCast_one, Int.natCast_add, Int.natCast_succ, beq_self_eq_true, Bool.decide_eq_true, Bool.decide_eq_false, ↓vf0, ↓vm0, rf0, rm0, ↓qf0, ↓qm0, ↓zf0, ↓zm0, ↓im0, ss0, fi0, ↓vf1, ↓vm1, rf1, rm1, ↓qf1, ↓qm1, ↓zf1, ↓zm1, ↓im1, ss1, fi1, ↓vf2, ↓vm2, rf2, rm2, ↓qf2, ↓qm2, ↓zf2, ↓zm2, ↓im2, ss2, fi2, ↓vf3, ↓vm3, rf3, rm3, ↓qf3, ↓qm3, ↓zf3, ↓zm3, ↓im3, ss3, fi3, ↓vf4, ↓vm4, rf4, rm4, ↓qf4, ↓qm4, ↓zf4, ↓zm4, ↓im4, ss4, fi4, p18, h]; (try simp only [T.bind_ret])
    have q1 := isNat_filter L l0
    have q2 : ((L.filter fun x => decide ((1000000000000000000 : Int) ≤ x)).map AV.int).length ≤ 1000 := by
      rw [List.length_map]
      exact Nat.le_trans (List.length_filter_le _ _) (by omega)
    simp only [U2f0_law_deal, U3_law_deal, U2_law_deal, U1_law_deal, U0_law_deal, al_seq, nx_nx, lq_nx]
    unfold S3_law_deal sRetDeal
    rw [c1]
    have q3 : isNatS ([.fro (.scr ns), .fro (.int k), .fro (.lst (il L)), .fro (.int b), s4][3]?) = true := decide_eq_true h0
    rw [bind_ret']
    dsimp only
    rw [q1, q3, decide_eq_true q2]
    exact al_retI.mpr rfl
theorem pNe_nil {rest : List AV} (h : rest.all (dat 11) = true) : pNe (.lst rest) (.lst []) = some (.bl (!rest.isEmpty)) := by
  have e : pNe (.lst rest) (.lst []) = if dat DEP (.lst rest) && dat DEP (.lst []) then some (.bl (!aeq DEP (.lst rest) (.lst []))) else none := rfl
  rw [e, show dat DEP (.lst rest) = rest.all (dat 11) from rfl, h]
  cases rest <;> rfl
theorem law_mixed_all (xs : List AV) (hd : xs.all (dat 11) = true) (h1 : xs.length < 1000) : (f_law_mixed [.box, .lst xs]).Al (ShufR xs) NoX := by
  refine aFnQ rfl ?_
  show (K0_law_mixed [.fro .box, .fro (.lst xs), .un, .un]).Al _ _
  (simp only [U1w0_law_mixed, U2_law_mixed, U1_law_mixed, U0_law_mixed, al_seq, nx_nx, lq_nx]; refine al_rd _ (by (simp -dsimp only [↓fBin_b, ↓fUn_b, ↓fBlT_b, ↓lCons_b, ↓fCall_b, ↓sSeq_b, ↓sExpr_b, ↓sRet_b, ↓iSeq_b, ↓fNew_b, ↓nLst_b, ↓nList_b, ↓fAppend_b, ↓fPopAt_b, ↓sParN_b, ↓fC_b, ↓lNil_b, ↓sNil_b, ↓fYes_b, ↓tgName_b, ↓tgNil_b, ↓tgCons_b, ↓tgTup_b, ↓lcRun_b, ↓frz_val, ↓lrs_val, ↓liftS_b, ↓liftN_b, ↓seqOf_t_b, ↓seqOf_l_b, ↓lstOf_l_b, ↓intOf_i_b, ↓blOf_b_b, ↓tru_n_b, ↓tru_b_b, ↓tru_i_b, ↓tru_t_b, ↓tru_l_b, ↓pLen_t_b, ↓pLen_l_b, ↓pLen_s_b, ↓pAdd_i_b, ↓atI_0_b, ↓atI_1_b, ↓atI_2_b, ↓atI_3_b, ↓lg0_b, ↓lg1_b, ↓lg2_b, ↓lg3_b, rs_val, outV_rt, outV_nx, backE_n, backE_u, wipeE_n, wipeE_u, froOf_f, froOf_u, seqOf_t, seqOf_l, lstOf_l, intOf_i, blOf_b, tru_n, tru_b, tru_i, tru_t, tru_l, pLen_t, pLen_l, pLen_s, pAdd_i, atI_0, atI_1, atI_2, atI_3, lg0, lg1, lg2, lg3, pIx_t, pIx_l, pAdd_t, pAdd_l, ↓keyOf1_ib, keyOf1_i, ↓T.bind_assoc, bind_ret', bind_bad', bind_exc', bind_draw', lift_some, lift_none', big, below62', below24', below64', below29', mul_ok, div_ok, mod_ok, addI, subI, addI, subI, ixN_nat, ↓lGive_b, ↓imt0, ↓imt1, ↓imt2, ↓imt3, List.length_cons, List.length_nil, List.map_cons, List.map_nil, List.append_nil, List.nil_append, List.cons_append, List.replicate_succ, List.replicate_zero, List.isEmpty_nil, List.isEmpty_cons, Option.map_some, Option.map_none, Option.bind_some, Option.bind_none, true_and, and_true, and_self, false_and, and_false, true_or, or_true, false_or, or_false, not_true_eq_false, not_false_eq_true, Bool.not_true, Bool.not_false, Bool.true_and, Bool.and_true, Bool.false_and, Bool.and_false, Bool.true_or, Bool.or_true, Bool.or_false, Bool.false_or, decide_true, decide_false, decide_eq_true_eq, decide_eq_false_iff_not, if_true, if_false, ite_true, ite_false, ↓reduceIte, Int.natCast_nonneg, Nat.reduceLT, Nat.reduceLeDiff, Nat.reduceEqDiff, Nat.reduceSub, Nat.reduceMul, Int.reduceLT, Int.reduceLE, Int.reduceEq, Int.reduceAdd, Int.reduceSub, Int.reduceMul, Int.reduceNeg, Int.reducePow, List.length_map, List.length_range, eq_self, ne_eq, Classical.not_not, Bool.not_eq_true, Bool.not_eq_false, Bool.false_eq_true, reduceCtorEq, Int.toNat_natCast, Nat.add_eq, Nat.reduceAdd, Int.cast_ofNat_Int, Int.reduceToNat, Int.zero_add, Int.add_zero, Nat.zero_add, Nat.add_zero, Nat.sub_zero, Int.sub_zero, Int.natCast_zero, Int.natCast_one, Int.natCast_add, Int.natCast_succ, beq_self_eq_true, Bool.decide_eq_true, Bool.decide_eq_false, ↓vf0, ↓vm0, rf0, rm0, ↓qf0, ↓qm0, ↓zf0, ↓zm0, ↓im0, ss0, fi0, ↓vf1, ↓vm1, rf1, rm1, ↓qf1, ↓qm1, ↓zf1, ↓zm1, ↓im1, ss1, fi1, ↓vf2, ↓vm2, rf2, rm2, ↓qf2, ↓qm2, ↓zf2, ↓zm2, ↓im2, ss2, fi2, ↓vf3, ↓vm3, rf3, rm3, ↓qf3, ↓qm3, ↓zf3, ↓zm3, ↓im3, ss3, fi3, S1w0_law_mixed, S0_law_mixed, S1_law_mixed, S2_law_mixed, U1w0_law_mixed, U2_law_mixed, U1_law_mixed, U0_law_mixed]); (try simp only [T.bind_ret]); exact rfl) ?_); (try (with_reducible refine al_nx ?_))
  simp only [U1w0_law_mixed, U2_law_mixed, U1_law_mixed, U0_law_mixed, al_seq, nx_nx, lq_nx]
  refine al_cut (fun ρ => ∃ found, found.Perm xs ∧ ρ = [.fro .box, .fro (.lst xs), .ml [], .ml found]) ?_ fun ρ hρ => ?_
  · refine al_whileL (fun m ρ => ∃ rest found, rest.length = m ∧ ρ = [.fro .box, .fro (.lst xs), .ml rest, .ml found] ∧ (found ++ rest).Perm xs) (fun m ρ hI => ?_) FUEL xs.length _ ⟨xs, [], rfl, rfl, List.Perm.refl _⟩ (by show _ < 1000; omega)
    obtain ⟨rest, found, hm, rfl, hp⟩ := hI
    have hl := hp.length_eq
    rw [List.length_append] at hl
    cases rest with
    | nil =>
      have e0 : pNe (.lst ([] : List AV)) (.lst []) = some (.bl false) := by rfl
      (try refine al_rd _ (by (simp -dsimp only [↓fBin_b, ↓fUn_b, ↓fTru_b, ↓fBlT_b, ↓fNotT_b, ↓fOrT_b, ↓fAnd_b, ↓fNot_b, ↓fIf_b, ↓fChain_b, ↓lCons_b, ↓fTup_b, ↓fSl_b, ↓fCall_b, ↓fMeth_b, ↓sSeq_b, ↓sExpr_b, ↓sRet_b, ↓sIf_b, ↓sSet_b, ↓sAsg_b, ↓iSeq_b, ↓iRange1_b, ↓sFor_b, ↓fNew_b, ↓sSetN_b, ↓nLst_b, ↓nList_b, ↓fAppend_b, ↓fPopAt_b, ↓nLc_b, ↓sPar_b, ↓sParN_b, ↓sFldSet_b, ↓fMake_b, ↓Dn.iEnum_b, ↓nLc2_b, ↓fC_b, ↓lNil_b, ↓sNil_b, ↓sBad_b, ↓fYes_b, ↓tgName_b, ↓tgNil_b, ↓tgCons_b, ↓tgTup_b, ↓lcRun_b, ↓fPart_n, ↓fPart_s, ↓frz_val, ↓lrs_val, ↓liftS_b, ↓liftN_b, ↓sMix_b, ↓mF_b, ↓mN_b, ↓mNil_b, ↓sRetDeal_b, ↓fMakeD_b, ↓seqOf_t_b, ↓seqOf_l_b, ↓lstOf_l_b, ↓intOf_i_b, ↓blOf_b_b, ↓tru_n_b, ↓tru_b_b, ↓tru_i_b, ↓tru_t_b, ↓tru_l_b, ↓pLen_t_b, ↓pLen_l_b, ↓pLen_s_b, ↓pInt_i_b, ↓pInt_b_b, ↓pAbs_i_b, ↓pTuple_t_b, ↓pTuple_l_b, ↓pAdd_i_b, ↓pSub_i_b, ↓pLt_i_b, ↓pLe_i_b, ↓pGt_i_b, ↓pGe_i_b, ↓pMax2_i_b, ↓pMin2_i_b, ↓pIs_nn_b, ↓pIs_in_b, ↓pIs_tn_b, ↓pIs_ln_b, ↓pIs_bn_b, ↓pIs_bb_b, ↓pNotIs_nn_b, ↓pNotIs_in_b, ↓pNotIs_tn_b, ↓pNotIs_ln_b, ↓pNotIs_bn_b, ↓pNotIs_bb_b, ↓pCut_t_b, ↓pCut_l_b, ↓atI_0_b, ↓atI_1_b, ↓atI_2_b, ↓atI_3_b, ↓lg0_b, ↓lg1_b, ↓lg2_b, ↓lg3_b, ↓isi_bl_int_b, ↓isi_bl_bool_b, ↓isi_bl_tuple_b, ↓isi2_bl_b, ↓isi_int_int_b, ↓isi_int_bool_b, ↓isi_int_tuple_b, ↓isi2_int_b, ↓isi_str_int_b, ↓isi_str_bool_b, ↓isi_str_tuple_b, ↓isi2_str_b, ↓isi_tup_int_b, ↓isi_tup_bool_b, ↓isi_tup_tuple_b, ↓isi2_tup_b, ↓isi_lst_int_b, ↓isi_lst_bool_b, ↓isi_lst_tuple_b, ↓isi2_lst_b, rs_val, outV_rt, outV_nx, backE_n, backE_u, wipeE_n, wipeE_u, froOf_f, froOf_u, setM_nil, setM_fr, setM_nl, seqOf_t, seqOf_l, lstOf_l, intOf_i, blOf_b, tru_n, tru_b, tru_i, tru_t, tru_l, pLen_t, pLen_l, pLen_s, pInt_i, pInt_b, pAbs_i, pTuple_t, pTuple_l, pAdd_i, pSub_i, pLt_i, pLe_i, pGt_i, pGe_i, pMax2_i, pMin2_i, pIs_nn, pIs_in, pIs_tn, pIs_ln, pIs_bn, pIs_bb, pNotIs_nn, pNotIs_in, pNotIs_tn, pNotIs_ln, pNotIs_bn, pNotIs_bb, pCut_t, pCut_l, atI_0, atI_1, atI_2, atI_3, lg0, lg1, lg2, lg3, isi_bl_int, isi_bl_bool, isi_bl_tuple, isi2_bl, isi_int_int, isi_int_bool, isi_int_tuple, isi2_int, isi_str_int, isi_str_bool, isi_str_tuple, isi2_str, isi_tup_int, isi_tup_bool, isi_tup_tuple, isi2_tup, isi_lst_int, isi_lst_bool, isi_lst_tuple, isi2_lst, pIx_t, pIx_l, pFld_i, pAdd_t, pAdd_l, ↓lenK_b, ↓iRange3_b, ↓keyOf1_ib, keyOf1_i, ↓T.bind_assoc, bind_ret', bind_bad', bind_exc', bind_draw', lift_some, lift_none', big, below62', below24', below64', below29', mul_ok, div_ok, mod_ok, ↓sAugI_b, addI, subI, ↓nRep_b, ↓sAugIx_b, addI, subI, ixN_nat, ↓sDputT_b, ↓lGive_b, ↓mD_b, setM_nd, ↓imt0, ↓imt1, ↓imt2, ↓imt3, List.length_cons, List.length_nil, List.map_cons, List.map_nil, List.append_nil, List.nil_append, List.cons_append, List.replicate_succ, List.replicate_zero, List.isEmpty_nil, List.isEmpty_cons, Option.map_some, Option.map_none, Option.bind_some, Option.bind_none, true_and, and_true, and_self, false_and, and_false, true_or, or_true, false_or, or_false, not_true_eq_false, not_false_eq_true, Bool.not_true, Bool.not_false, Bool.true_and, Bool.and_true, Bool.false_and, Bool.and_false, Bool.true_or, Bool.or_true, Bool.or_false, Bool.false_or, decide_true, decide_false, decide_eq_true_eq, decide_eq_false_iff_not, if_true, if_false, ite_true, ite_false, ↓reduceIte, Int.natCast_nonneg, Nat.reduceLT, Nat.reduceLeDiff, Nat.reduceEqDiff, Nat.reduceSub, Nat.reduceMul, Int.reduceLT, Int.reduceLE, Int.reduceEq, Int.reduceAdd, Int.reduceSub, Int.reduceMul, Int.reduceNeg, Int.reducePow, List.length_map, List.length_range, eq_self, ne_eq, Classical.not_not, Bool.not_eq_true, Bool.not_eq_false, Bool.false_eq_true, reduceCtorEq, Int.toNat_natCast, Nat.add_eq, Nat.reduceAdd, Int.cast_ofNat_Int, Int.reduceToNat, Int.zero_add, Int.add_zero, Nat.zero_add, Nat.add_zero, Nat.sub_zero, Int.sub_zero, Int.natCast_zero, Int.natCast_one, Int.natCast_add, Int.natCast_succ, beq_self_eq_true, Bool.decide_eq_true, Bool.decide_eq_false, ↓vf0, ↓vm0, rf0, rm0, ↓qf0, ↓qm0, ↓zf0, ↓zm0, ↓im0, ss0, ↓imd0, fi0, ↓vf1, ↓vm1, rf1, rm1, ↓qf1, ↓qm1, ↓zf1, ↓zm1, ↓im1, ss1, ↓imd1, fi1, ↓vf2, ↓vm2, rf2, rm2, ↓qf2, ↓qm2, ↓zf2, ↓zm2, ↓im2, ss2, ↓imd2, fi2, ↓vf3, ↓vm3, rf3, rm3, ↓qf3, ↓qm3, ↓zf3, ↓zm3, ↓im3, ss3, ↓imd3, fi3, ↓vf4, ↓vm4, rf4, rm4, ↓qf4, ↓qm4, ↓zf4, ↓zm4, ↓im4, ss4, ↓imd4, fi4, ↓vf5, ↓vm5, rf5, rm5, ↓qf5, ↓qm5, ↓zf5, ↓zm5, ↓im5, ss5, ↓imd5, fi5, ↓vf6, ↓vm6, rf6, rm6, ↓qf6, ↓qm6, ↓zf6, ↓zm6, ↓im6, ss6, ↓imd6, fi6, ↓vf7, ↓vm7, rf7, rm7, ↓qf7, ↓qm7, ↓zf7, ↓zm7, ↓im7, ss7, ↓imd7, fi7, ↓vf8, ↓vm8, rf8, rm8, ↓qf8, ↓qm8, ↓zf8, ↓zm8, ↓im8, ss8, ↓imd8, fi8, ↓vf9, ↓vm9, rf9, rm9, ↓qf9, ↓qm9, ↓zf9, ↓zm9, ↓im9, ss9, ↓imd9, fi9, ↓vf10, ↓vm10, rf10, rm10, ↓qf10, ↓qm10, ↓zf10, ↓zm10, ↓im10, ss10, ↓imd10, fi10, ↓vf11, ↓vm11, rf11, rm11, ↓qf11, ↓qm11, ↓zf11, ↓zm11, ↓im11, ss11, ↓imd11, fi11, e0]); (try simp only [T.bind_ret]); exact rfl) ?_); (try (with_reducible refine al_nx ?_))
      refine al_retI.mpr ?_
      rw [List.append_nil] at hp
      exact ⟨found, hp, rfl⟩
    | cons y ys =>
      have hd2 : (y :: ys).all (dat 11) = true := by
        rw [List.all_eq_true] at hd ⊢
        exact fun x hx => hd x (hp.mem_iff.mp (List.mem_append_right _ hx))
      have e0 := pNe_nil hd2
      have e1 : ((y :: ys).length : Int) = ((ys.length + 1 : Nat) : Int) := rfl
      rw [List.length_cons] at hl hm
      have tk := take_eq (b := ((ys.length : Int) + 1)) (by omega) (by omega)
      (try refine al_rd _ (by (simp -dsimp only [↓fBin_b, ↓fUn_b, ↓fTru_b, ↓fBlT_b, ↓fNotT_b, ↓fOrT_b, ↓fAnd_b, ↓fNot_b, ↓fIf_b, ↓fChain_b, ↓lCons_b, ↓fTup_b, ↓fSl_b, ↓fCall_b, ↓fMeth_b, ↓sSeq_b, ↓sExpr_b, ↓sRet_b, ↓sIf_b, ↓sSet_b, ↓sAsg_b, ↓iSeq_b, ↓iRange1_b, ↓sFor_b, ↓fNew_b, ↓sSetN_b, ↓nLst_b, ↓nList_b, ↓fAppend_b, ↓fPopAt_b, ↓nLc_b, ↓sPar_b, ↓sParN_b, ↓sFldSet_b, ↓fMake_b, ↓Dn.iEnum_b, ↓nLc2_b, ↓fC_b, ↓lNil_b, ↓sNil_b, ↓sBad_b, ↓fYes_b, ↓tgName_b, ↓tgNil_b, ↓tgCons_b, ↓tgTup_b, ↓lcRun_b, ↓fPart_n, ↓fPart_s, ↓frz_val, ↓lrs_val, ↓liftS_b, ↓liftN_b, ↓sMix_b, ↓mF_b, ↓mN_b, ↓mNil_b, ↓sRetDeal_b, ↓fMakeD_b, ↓seqOf_t_b, ↓seqOf_l_b, ↓lstOf_l_b, ↓intOf_i_b, ↓blOf_b_b, ↓tru_n_b, ↓tru_b_b, ↓tru_i_b, ↓tru_t_b, ↓tru_l_b, ↓pLen_t_b, ↓pLen_l_b, ↓pLen_s_b, ↓pInt_i_b, ↓pInt_b_b, ↓pAbs_i_b, ↓pTuple_t_b, ↓pTuple_l_b, ↓pAdd_i_b, ↓pSub_i_b, ↓pLt_i_b, ↓pLe_i_b, ↓pGt_i_b, ↓pGe_i_b, ↓pMax2_i_b, ↓pMin2_i_b, ↓pIs_nn_b, ↓pIs_in_b, ↓pIs_tn_b, ↓pIs_ln_b, ↓pIs_bn_b, ↓pIs_bb_b, ↓pNotIs_nn_b, ↓pNotIs_in_b, ↓pNotIs_tn_b, ↓pNotIs_ln_b, ↓pNotIs_bn_b, ↓pNotIs_bb_b, ↓pCut_t_b, ↓pCut_l_b, ↓atI_0_b, ↓atI_1_b, ↓atI_2_b, ↓atI_3_b, ↓lg0_b, ↓lg1_b, ↓lg2_b, ↓lg3_b, ↓isi_bl_int_b, ↓isi_bl_bool_b, ↓isi_bl_tuple_b, ↓isi2_bl_b, ↓isi_int_int_b, ↓isi_int_bool_b, ↓isi_int_tuple_b, ↓isi2_int_b, ↓isi_str_int_b, ↓isi_str_bool_b, ↓isi_str_tuple_b, ↓isi2_str_b, ↓isi_tup_int_b, ↓isi_tup_bool_b, ↓isi_tup_tuple_b, ↓isi2_tup_b, ↓isi_lst_int_b, ↓isi_lst_bool_b, ↓isi_lst_tuple_b, ↓isi2_lst_b, rs_val, outV_rt, outV_nx, backE_n, backE_u, wipeE_n, wipeE_u, froOf_f, froOf_u, setM_nil, setM_fr, setM_nl, seqOf_t, seqOf_l, lstOf_l, intOf_i, blOf_b, tru_n, tru_b, tru_i, tru_t, tru_l, pLen_t, pLen_l, pLen_s, pInt_i, pInt_b, pAbs_i, pTuple_t, pTuple_l, pAdd_i, pSub_i, pLt_i, pLe_i, pGt_i, pGe_i, pMax2_i, pMin2_i, pIs_nn, pIs_in, pIs_tn, pIs_ln, pIs_bn, pIs_bb, pNotIs_nn, pNotIs_in, pNotIs_tn, pNotIs_ln, pNotIs_bn, pNotIs_bb, pCut_t, pCut_l, atI_0, atI_1, atI_2, atI_3, lg0, lg1, lg2, lg3, isi_bl_int, isi_bl_bool, isi_bl_tuple, isi2_bl, isi_int_int, isi_int_bool, isi_int_tuple, isi2_int, isi_str_int, isi_str_bool, isi_str_tuple, isi2_str, isi_tup_int, isi_tup_bool, isi_tup_tuple, isi2_tup, isi_lst_int, isi_lst_bool, isi_lst_tuple, isi2_lst, pIx_t, pIx_l, pFld_i, pAdd_t, pAdd_l, ↓lenK_b, ↓iRange3_b, ↓keyOf1_ib, keyOf1_i, ↓T.bind_assoc, bind_ret', bind_bad', bind_exc', bind_draw', lift_some, lift_none', big, below62', below24', below64', below29', mul_ok, div_ok, mod_ok, ↓sAugI_b, addI, subI, ↓nRep_b, ↓sAugIx_b, addI, subI, ixN_nat, ↓sDputT_b, ↓lGive_b, ↓mD_b, setM_nd, ↓imt0, ↓imt1, ↓imt2, ↓imt3, List.length_cons, List.length_nil, List.map_cons, List.map_nil, List.append_nil, List.nil_append, List.cons_append, List.replicate_succ, List.replicate_zero, List.isEmpty_nil, List.isEmpty_cons, Option.map_some, Option.map_none, Option.bind_some, Option.bind_none, true_and, and_true, and_self, false_and, and_false, true_or, or_true, false_or, or_false, not_true_eq_false, not_false_eq_true, Bool.not_true, Bool.not_false, Bool.true_and, Bool.and_true, Bool.false_and, Bool.and_false, Bool.true_or, Bool.or_true, Bool.or_false, Bool.false_or, decide_true, decide_false, decide_eq_true_eq, decide_eq_false_iff_not, if_true, if_false, ite_true, ite_false, ↓reduceIte, Int.natCast_nonneg, Nat.reduceLT, Nat.reduceLeDiff, Nat.reduceEqDiff, Nat.reduceSub, Nat.reduceMul, Int.reduceLT, Int.reduceLE, Int.reduceEq, Int.reduceAdd, Int.reduceSub, Int.reduceMul, Int.reduceNeg, Int.reducePow, List.length_map, List.length_range, eq_self, ne_eq, Classical.not_not, Bool.not_eq_true, Bool.not_eq_false, Bool.false_eq_true, reduceCtorEq, Int.toNat_natCast, Nat.add_eq, Nat.reduceAdd, Int.cast_ofNat_Int, Int.reduceToNat, Int.zero_add, Int.add_zero, Nat.zero_add, Nat.add_zero, Nat.sub_zero, Int.sub_zero, Int.natCast_zero, Int.natCast_one, Int.natCast_add, Int.natCast_succ, beq_self_eq_true, Bool.decide_eq_true, Bool.decide_eq_false, ↓vf0, ↓vm0, rf0, rm0, ↓qf0, ↓qm0, ↓zf0, ↓zm0, ↓im0, ss0, ↓imd0, fi0, ↓vf1, ↓vm1, rf1, rm1, ↓qf1, ↓qm1, ↓zf1, ↓zm1, ↓im1, ss1, ↓imd1, fi1, ↓vf2, ↓vm2, rf2, rm2, ↓qf2, ↓qm2, ↓zf2, ↓zm2, ↓im2, ss2, ↓imd2, fi2, ↓vf3, ↓vm3, rf3, rm3, ↓qf3, ↓qm3, ↓zf3, ↓zm3, ↓im3, ss3, ↓imd3, fi3, ↓vf4, ↓vm4, rf4, rm4, ↓qf4, ↓qm4, ↓zf4, ↓zm4, ↓im4, ss4, ↓imd4, fi4, ↓vf5, ↓vm5, rf5, rm5, ↓qf5, ↓qm5, ↓zf5, ↓zm5, ↓im5, ss5, ↓imd5, fi5, ↓vf6, ↓vm6, rf6, rm6, ↓qf6, ↓qm6, ↓zf6, ↓zm6, ↓im6, ss6, ↓imd6, fi6, ↓vf7, ↓vm7, rf7, rm7, ↓qf7, ↓qm7, ↓zf7, ↓zm7, ↓im7, ss7, ↓imd7, fi7, ↓vf8, ↓vm8, rf8, rm8, ↓qf8, ↓qm8, ↓zf8, ↓zm8, ↓im8, ss8, ↓imd8, fi8, ↓vf9, ↓vm9, rf9, rm9, ↓qf9, ↓qm9, ↓zf9, ↓zm9, ↓im9, ss9, ↓imd9, fi9, ↓vf10, ↓vm10, rf10, rm10, ↓qf10, ↓qm10, ↓zf10, ↓zm10, ↓im10, ss10, ↓imd10, fi10, ↓vf11, ↓vm11, rf11, rm11, ↓qf11, ↓qm11, ↓zf11, ↓zm11, ↓im11, ss11, ↓imd11, fi11, e0]); (try simp only [T.bind_ret]); exact rfl) ?_); (try (with_reducible refine al_nx ?_))
      refine al_retI.mpr ?_
      rw [if_pos rfl]
      (simp only [U1w0_law_mixed, U2_law_mixed, U1_law_mixed, U0_law_mixed, al_seq, nx_nx, lq_nx]; refine al_rd _ (by (simp -dsimp only [↓fBin_b, ↓fUn_b, ↓fBlT_b, ↓lCons_b, ↓fCall_b, ↓sSeq_b, ↓sExpr_b, ↓sRet_b, ↓iSeq_b, ↓fNew_b, ↓nLst_b, ↓nList_b, ↓fAppend_b, ↓fPopAt_b, ↓sParN_b, ↓fC_b, ↓lNil_b, ↓sNil_b, ↓fYes_b, ↓tgName_b, ↓tgNil_b, ↓tgCons_b, ↓tgTup_b, ↓lcRun_b, ↓frz_val, ↓lrs_val, ↓liftS_b, ↓liftN_b, ↓seqOf_t_b, ↓seqOf_l_b, ↓lstOf_l_b, ↓intOf_i_b, ↓blOf_b_b, ↓tru_n_b, ↓tru_b_b, ↓tru_i_b, ↓tru_t_b, ↓tru_l_b, ↓pLen_t_b, ↓pLen_l_b, ↓pLen_s_b, ↓pAdd_i_b, ↓atI_0_b, ↓atI_1_b, ↓atI_2_b, ↓atI_3_b, ↓lg0_b, ↓lg1_b, ↓lg2_b, ↓lg3_b, rs_val, outV_rt, outV_nx, backE_n, backE_u, wipeE_n, wipeE_u, froOf_f, froOf_u, seqOf_t, seqOf_l, lstOf_l, intOf_i, blOf_b, tru_n, tru_b, tru_i, tru_t, tru_l, pLen_t, pLen_l, pLen_s, pAdd_i, atI_0, atI_1, atI_2, atI_3, lg0, lg1, lg2, lg3, pIx_t, pIx_l, pAdd_t, pAdd_l, ↓keyOf1_ib, keyOf1_i, ↓T.bind_assoc, bind_ret', bind_bad', bind_exc', bind_draw', lift_some, lift_none', big, below62', below24', below64', below29', mul_ok, div_ok, mod_ok, addI, subI, addI, subI, ixN_nat, ↓lGive_b, ↓imt0, ↓imt1, ↓imt2, ↓imt3, List.length_cons, List.length_nil, List.map_cons, List.map_nil, List.append_nil, List.nil_append, List.cons_append, List.replicate_succ, List.replicate_zero, List.isEmpty_nil, List.isEmpty_cons, Option.map_some, Option.map_none, Option.bind_some, Option.bind_none, true_and, and_true, and_self, false_and, and_false, true_or, or_true, false_or, or_false, not_true_eq_false, not_false_eq_true, Bool.not_true, Bool.not_false, Bool.true_and, Bool.and_true, Bool.false_and, Bool.and_false, Bool.true_or, Bool.or_true, Bool.or_false, Bool.false_or, decide_true, decide_false, decide_eq_true_eq, decide_eq_false_iff_not, if_true, if_false, ite_true, ite_false, ↓reduceIte, Int.natCast_nonneg, Nat.reduceLT, Nat.reduceLeDiff, Nat.reduceEqDiff, Nat.reduceSub, Nat.reduceMul, Int.reduceLT, Int.reduceLE, Int.reduceEq, Int.reduceAdd, Int.reduceSub, Int.reduceMul, Int.reduceNeg, Int.reducePow, List.length_map, List.length_range, eq_self, ne_eq, Classical.not_not, Bool.not_eq_true, Bool.not_eq_false, Bool.false_eq_true, reduceCtorEq, Int.toNat_natCast, Nat.add_eq, Nat.reduceAdd, Int.cast_ofNat_Int, Int.reduceToNat, Int.zero_add, Int.add_zero, Nat.zero_add, Nat.add_zero, Nat.sub_zero, Int.sub_zero, Int.natCast_zero, Int.natCast_one, Int.natCast_add, Int.natCast_succ, beq_self_eq_true, Bool.decide_eq_true, Bool.decide_eq_false, ↓vf0, ↓vm0, rf0, rm0, ↓qf0, ↓qm0, ↓zf0, ↓zm0, ↓im0, ss0, fi0, ↓vf1, ↓vm1, rf1, rm1, ↓qf1, ↓qm1, ↓zf1, ↓zm1, ↓im1, ss1, fi1, ↓vf2, ↓vm2, rf2, rm2, ↓qf2, ↓qm2, ↓zf2, ↓zm2, ↓im2, ss2, fi2, ↓vf3, ↓vm3, rf3, rm3, ↓qf3, ↓qm3, ↓zf3, ↓zm3, ↓im3, ss3, fi3, S1w0_law_mixed, S0_law_mixed, S1_law_mixed, S2_law_mixed, U1w0_law_mixed, U2_law_mixed, U1_law_mixed, U0_law_mixed, tk]); (try simp only [T.bind_ret]); exact rfl) ?_); (try (with_reducible refine al_nx ?_))
      refine al_dr fun r hr => ?_
      have hr2 : r < (y :: ys).length := by rw [List.length_cons]; omega
      have e : (y :: ys)[r]? = some (y :: ys)[r] := List.getElem?_eq_getElem hr2
      have hfl : found.length < 1000000 := by omega
      have br : below (r : Int) 62 = true := below_of (by omega)
      generalize hY : y :: ys = Y at *
      (try refine al_rd _ (by (simp -dsimp only [↓fBin_b, ↓fUn_b, ↓fTru_b, ↓fBlT_b, ↓fNotT_b, ↓fOrT_b, ↓fAnd_b, ↓fNot_b, ↓fIf_b, ↓fChain_b, ↓lCons_b, ↓fTup_b, ↓fSl_b, ↓fCall_b, ↓fMeth_b, ↓sSeq_b, ↓sExpr_b, ↓sRet_b, ↓sIf_b, ↓sSet_b, ↓sAsg_b, ↓iSeq_b, ↓iRange1_b, ↓sFor_b, ↓fNew_b, ↓sSetN_b, ↓nLst_b, ↓nList_b, ↓fAppend_b, ↓fPopAt_b, ↓nLc_b, ↓sPar_b, ↓sParN_b, ↓sFldSet_b, ↓fMake_b, ↓Dn.iEnum_b, ↓nLc2_b, ↓fC_b, ↓lNil_b, ↓sNil_b, ↓sBad_b, ↓fYes_b, ↓tgName_b, ↓tgNil_b, ↓tgCons_b, ↓tgTup_b, ↓lcRun_b, ↓fPart_n, ↓fPart_s, ↓frz_val, ↓lrs_val, ↓liftS_b, ↓liftN_b, ↓sMix_b, ↓mF_b, ↓mN_b, ↓mNil_b, ↓sRetDeal_b, ↓fMakeD_b, ↓seqOf_t_b, ↓seqOf_l_b, ↓lstOf_l_b, ↓intOf_i_b, ↓blOf_b_b, ↓tru_n_b, ↓tru_b_b, ↓tru_i_b, ↓tru_t_b, ↓tru_l_b, ↓pLen_t_b, ↓pLen_l_b, ↓pLen_s_b, ↓pInt_i_b, ↓pInt_b_b, ↓pAbs_i_b, ↓pTuple_t_b, ↓pTuple_l_b, ↓pAdd_i_b, ↓pSub_i_b, ↓pLt_i_b, ↓pLe_i_b, ↓pGt_i_b, ↓pGe_i_b, ↓pMax2_i_b, ↓pMin2_i_b, ↓pIs_nn_b, ↓pIs_in_b, ↓pIs_tn_b, ↓pIs_ln_b, ↓pIs_bn_b, ↓pIs_bb_b, ↓pNotIs_nn_b, ↓pNotIs_in_b, ↓pNotIs_tn_b, ↓pNotIs_ln_b, ↓pNotIs_bn_b, ↓pNotIs_bb_b, ↓pCut_t_b, ↓pCut_l_b, ↓atI_0_b, ↓atI_1_b, ↓atI_2_b, ↓atI_3_b, ↓lg0_b, ↓lg1_b, ↓lg2_b, ↓lg3_b, ↓isi_bl_int_b, ↓isi_bl_bool_b, ↓isi_bl_tuple_b, ↓isi2_bl_b, ↓isi_int_int_b, ↓isi_int_bool_b, ↓isi_int_tuple_b, ↓isi2_int_b, ↓isi_str_int_b, ↓isi_str_bool_b, ↓isi_str_tuple_b, ↓isi2_str_b, ↓isi_tup_int_b, ↓isi_tup_bool_b, ↓isi_tup_tuple_b, ↓isi2_tup_b, ↓isi_lst_int_b, ↓isi_lst_bool_b, ↓isi_lst_tuple_b, ↓isi2_lst_b, rs_val, outV_rt, outV_nx, backE_n, backE_u, wipeE_n, wipeE_u, froOf_f, froOf_u, setM_nil, setM_fr, setM_nl, seqOf_t, seqOf_l, lstOf_l, intOf_i, blOf_b, tru_n, tru_b, tru_i, tru_t, tru_l, pLen_t, pLen_l, pLen_s, pInt_i, pInt_b, pAbs_i, pTuple_t, pTuple_l, pAdd_i, pSub_i, pLt_i, pLe_i, pGt_i, pGe_i, pMax2_i, pMin2_i, pIs_nn, pIs_in, pIs_tn, pIs_ln, pIs_bn, pIs_bb, pNotIs_nn, pNotIs_in, pNotIs_tn, pNotIs_ln, pNotIs_bn, pNotIs_bb, pCut_t, pCut_l, atI_0, atI_1, atI_2, atI_3, lg0, lg1, lg2, lg3, isi_bl_int, isi_bl_bool, isi_bl_tuple, isi2_bl, isi_int_int, isi_int_bool, isi_int_tuple, isi2_int, isi_str_int, isi_str_bool, isi_str_tuple, isi2_str, isi_tup_int, isi_tup_bool, isi_tup_tuple, isi2_tup, isi_lst_int, isi_lst_bool, isi_lst_tuple, isi2_lst, pIx_t, pIx_l, pFld_i, pAdd_t, pAdd_l, ↓lenK_b, ↓iRange3_b, ↓keyOf1_ib, keyOf1_i, ↓T.bind_assoc, bind_ret', bind_bad', bind_exc', bind_draw', lift_some, lift_none', big, below62', below24', below64', below29', mul_ok, div_ok, mod_ok, ↓sAugI_b, addI, subI, ↓nRep_b, ↓sAugIx_b, addI, subI, ixN_nat, ↓sDputT_b, ↓lGive_b, ↓mD_b, setM_nd, ↓imt0, ↓imt1, ↓imt2, ↓imt3, List.length_cons, List.length_nil, List.map_cons, List.map_nil, List.append_nil, List.nil_append, List.cons_append, List.replicate_succ, List.replicate_zero, List.isEmpty_nil, List.isEmpty_cons, Option.map_some, Option.map_none, Option.bind_some, Option.bind_none, true_and, and_true, and_self, false_and, and_false, true_or, or_true, false_or, or_false, not_true_eq_false, not_false_eq_true, Bool.not_true, Bool.not_false, Bool.true_and, Bool.and_true, Bool.false_and, Bool.and_false, Bool.true_or, Bool.or_true, Bool.or_false, Bool.false_or, decide_true, decide_false, decide_eq_true_eq, decide_eq_false_iff_not, if_true, if_false, ite_true, ite_false, ↓reduceIte, Int.natCast_nonneg, Nat.reduceLT, Nat.reduceLeDiff, Nat.reduceEqDiff, Nat.reduceSub, Nat.reduceMul, Int.reduceLT, Int.reduceLE, Int.reduceEq, Int.reduceAdd, Int.reduceSub, Int.reduceMul, Int.reduceNeg, Int.reducePow, List.length_map, List.length_range, eq_self, ne_eq, Classical.not_not, Bool.not_eq_true, Bool.not_eq_false, Bool.false_eq_true, reduceCtorEq, Int.toNat_natCast, Nat.add_eq, Nat.reduceAdd, Int.cast_ofNat_Int, Int.reduceToNat, Int.zero_add, Int.add_zero, Nat.zero_add, Nat.add_zero, Nat.sub_zero, Int.sub_zero, Int.natCast_zero, Int.natCast_one, Int.natCast_add, Int.natCast_succ, beq_self_eq_true, Bool.decide_eq_true, Bool.decide_eq_false, ↓vf0, ↓vm0, rf0, rm0, ↓qf0, ↓qm0, ↓zf0, ↓zm0, ↓im0, ss0, ↓imd0, fi0, ↓vf1, ↓vm1, rf1, rm1, ↓qf1, ↓qm1, ↓zf1, ↓zm1, ↓im1, ss1, ↓imd1, fi1, ↓vf2, ↓vm2, rf2, rm2, ↓qf2, ↓qm2, ↓zf2, ↓zm2, ↓im2, ss2, ↓imd2, fi2, ↓vf3, ↓vm3, rf3, rm3, ↓qf3, ↓qm3, ↓zf3, ↓zm3, ↓im3, ss3, ↓imd3, fi3, ↓vf4, ↓vm4, rf4, rm4, ↓qf4, ↓qm4, ↓zf4, ↓zm4, ↓im4, ss4, ↓imd4, fi4, ↓vf5, ↓vm5, rf5, rm5, ↓qf5, ↓qm5, ↓zf5, ↓zm5, ↓im5, ss5, ↓imd5, fi5, ↓vf6, ↓vm6, rf6, rm6, ↓qf6, ↓qm6, ↓zf6, ↓zm6, ↓im6, ss6, ↓imd6, fi6, ↓vf7, ↓vm7, rf7, rm7, ↓qf7, ↓qm7, ↓zf7, ↓zm7, ↓im7, ss7, ↓imd7, fi7, ↓vf8, ↓vm8, rf8, rm8, ↓qf8, ↓qm8, ↓zf8, ↓zm8, ↓im8, ss8, ↓imd8, fi8, ↓vf9, ↓vm9, rf9, rm9, ↓qf9, ↓qm9, ↓zf9, ↓zm9, ↓im9, ss9, ↓imd9, fi9, ↓vf10, ↓vm10, rf10, rm10, ↓qf10, ↓qm10, ↓zf10, ↓zm10, ↓im10, ss10, ↓imd10, fi10, ↓vf11, ↓vm11, rf11, rm11, ↓qf11, ↓qm11, ↓zf11, ↓zm11, ↓im11, ss11, ↓imd11, fi11, e, hfl, br]); (try simp only [T.bind_ret]); exact rfl) ?_); (try (with_reducible refine al_nx ?_))
      refine al_endL ?_
      refine ⟨Y.length - 1, by rw [← hm, ← hY, List.length_cons]; omega, Y.eraseIdx r, found ++ [Y[r]], ?_, rfl, ?_⟩
      · rw [List.length_eraseIdx, if_pos hr2]
      · rw [List.append_assoc]
        exact (List.Perm.append_left found (perm_pop e)).trans hp
  · obtain ⟨found, hp, rfl⟩ := hρ
    (simp only [U1w0_law_mixed, U2_law_mixed, U1_law_mixed, U0_law_mixed, al_seq, nx_nx, lq_nx]; refine al_rd _ (by (simp -dsimp only [↓fBin_b, ↓fUn_b, ↓fBlT_b, ↓lCons_b, ↓fCall_b, ↓sSeq_b, ↓sExpr_b, ↓sRet_b, ↓iSeq_b, ↓fNew_b, ↓nLst_b, ↓nList_b, ↓fAppend_b, ↓fPopAt_b, ↓sParN_b, ↓fC_b, ↓lNil_b, ↓sNil_b, ↓fYes_b, ↓tgName_b, ↓tgNil_b, ↓tgCons_b, ↓tgTup_b, ↓lcRun_b, ↓frz_val, ↓lrs_val, ↓liftS_b, ↓liftN_b, ↓seqOf_t_b, ↓seqOf_l_b, ↓lstOf_l_b, ↓intOf_i_b, ↓blOf_b_b, ↓tru_n_b, ↓tru_b_b, ↓tru_i_b, ↓tru_t_b, ↓tru_l_b, ↓pLen_t_b, ↓pLen_l_b, ↓pLen_s_b, ↓pAdd_i_b, ↓atI_0_b, ↓atI_1_b, ↓atI_2_b, ↓atI_3_b, ↓lg0_b, ↓lg1_b, ↓lg2_b, ↓lg3_b, rs_val, outV_rt, outV_nx, backE_n, backE_u, wipeE_n, wipeE_u, froOf_f, froOf_u, seqOf_t, seqOf_l, lstOf_l, intOf_i, blOf_b, tru_n, tru_b, tru_i, tru_t, tru_l, pLen_t, pLen_l, pLen_s, pAdd_i, atI_0, atI_1, atI_2, atI_3, lg0, lg1, lg2, lg3, pIx_t, pIx_l, pAdd_t, pAdd_l, ↓keyOf1_ib, keyOf1_i, ↓T.bind_assoc, bind_ret', bind_bad', bind_exc', bind_draw', lift_some, lift_none', big, below62', below24', below64', below29', mul_ok, div_ok, mod_ok, addI, subI, addI, subI, ixN_nat, ↓lGive_b, ↓imt0, ↓imt1, ↓imt2, ↓imt3, List.length_cons, List.length_nil, List.map_cons, List.map_nil, List.append_nil, List.nil_append, List.cons_append, List.replicate_succ, List.replicate_zero, List.isEmpty_nil, List.isEmpty_cons, Option.map_some, Option.map_none, Option.bind_some, Option.bind_none, true_and, and_true, and_self, false_and, and_false, true_or, or_true, false_or, or_false, not_true_eq_false, not_false_eq_true, Bool.not_true, Bool.not_false, Bool.true_and, Bool.and_true, Bool.false_and, Bool.and_false, Bool.true_or, Bool.or_true, Bool.or_false, Bool.false_or, decide_true, decide_false, decide_eq_true_eq, decide_eq_false_iff_not, if_true, if_false, ite_true, ite_false, ↓reduceIte, Int.natCast_nonneg, Nat.reduceLT, Nat.reduceLeDiff, Nat.reduceEqDiff, Nat.reduceSub, Nat.reduceMul, Int.reduceLT, Int.reduceLE, Int.reduceEq, Int.reduceAdd, Int.reduceSub, Int.reduceMul, Int.reduceNeg, Int.reducePow, List.length_map, List.length_range, eq_self, ne_eq, Classical.not_not, Bool.not_eq_true, Bool.not_eq_false, Bool.false_eq_true, reduceCtorEq, Int.toNat_natCast, Nat.add_eq, Nat.reduceAdd, Int.cast_ofNat_Int, Int.reduceToNat, Int.zero_add, Int.add_zero, Nat.zero_add, Nat.add_zero, Nat.sub_zero, Int.sub_zero, Int.natCast_zero, Int.natCast_one, Int.natCast_add, Int.natCast_succ, beq_self_eq_true, Bool.decide_eq_true, Bool.decide_eq_false, ↓vf0, ↓vm0, rf0, rm0, ↓qf0, ↓qm0, ↓zf0, ↓zm0, ↓im0, ss0, fi0, ↓vf1, ↓vm1, rf1, rm1, ↓qf1, ↓qm1, ↓zf1, ↓zm1, ↓im1, ss1, fi1, ↓vf2, ↓vm2, rf2, rm2, ↓qf2, ↓qm2, ↓zf2, ↓zm2, ↓im2, ss2, fi2, ↓vf3, ↓vm3, rf3, rm3, ↓qf3, ↓qm3, ↓zf3, ↓zm3, ↓im3, ss3, fi3, S1w0_law_mixed, S0_law_mixed, S1_law_mixed, S2_law_mixed, U1w0_law_mixed, U2_law_mixed, U1_law_mixed, U0_law_mixed]); (try simp only [T.bind_ret]); exact rfl) ?_); (try (with_reducible refine al_nx ?_))
    refine al_rtF ?_
    exact ⟨found, rfl, hp⟩
theorem aeq_self : ∀ (n : Nat) (a : AV), dat n a = true → aeq n a a = true
  | n, .non, _ => by cases n <;> rfl
  | n, .bl b, _ => by cases n <;> exact beq_self_eq_true b
  | n, .int i, _ => by cases n <;> exact beq_self_eq_true i
  | n, .str s, _ => by cases n <;> exact beq_self_eq_true s
  | n + 1, .tup xs, h => by
    have q : ∀ ys : List AV, ys.all (dat n) = true → allEq (aeq n) ys ys = true := fun ys => by
      induction ys with
      | nil => exact fun _ => rfl
      | cons x r ih =>
        intro h
        rw [List.all_cons, Bool.and_eq_true] at h
        show (aeq n x x && allEq (aeq n) r r) = true
        rw [aeq_self n x h.1, ih h.2]
        rfl
    exact q xs h
  | n + 1, .lst xs, h => by
    have q : ∀ ys : List AV, ys.all (dat n) = true → allEq (aeq n) ys ys = true := fun ys => by
      induction ys with
      | nil => exact fun _ => rfl
      | cons x r ih =>
        intro h
        rw [List.all_cons, Bool.and_eq_true] at h
        show (aeq n x x && allEq (aeq n) r r) = true
        rw [aeq_self n x h.1, ih h.2]
        rfl
    exact q xs h
  | 0, .tup _, h => by cases h
  | 0, .lst _, h => by cases h
  | n, .ins _ _, h => by cases n <;> cases h
  | n, .dic _ _, h => by cases n <;> cases h
  | n, .dct _ _, h => by cases n <;> cases h
  | n, .box, h => by cases n <;> cases h
  | n, .scr _, h => by cases n <;> cases h
  | n, .any, h => by cases n <;> cases h
theorem pNe_self {a : AV} (h : dat DEP a = true) : pNe a a = some (.bl false) := by
  unfold pNe
  rw [h, aeq_self DEP a h]
  rfl
theorem pEq_s {a : AV} (h : dat DEP a = true) : pEq a a = some (.bl true) := by
  unfold pEq
  rw [h, aeq_self DEP a h]
  rfl
theorem case_right_eq {U : AV} (c : Cs) (hU : U = UL) (a : chkA c = true) (b : chkB c = true) (s : chkS c = true) (t : chkT c = true) (p : List AV) (hp : p.Perm c.ls) : f_law_case_right [U, .int c.b, .lst p, .int c.few, .str c.ups, .str c.turns] = .ret (.bl true) := by
  subst hU
  unfold chkA at a
  simp only [Bool.and_eq_true, decide_eq_true_eq] at a
  obtain ⟨a1, a2, a3, a4, a5, a6, a7, a8, a9⟩ := a
  have hS := isR_eq (List.all_eq_true.mp a1 p (mem_prm hp))
  have hl := isR_eq a2
  have hpo := isR_eq a3
  have h5 := isP_eq a5
  have h6 := isP_eq a6
  have h7 := isP_eq a7
  obtain ⟨S, eS⟩ : ∃ S, c.S = S := ⟨_, rfl⟩
  unfold chkB at b
  unfold chkS at s
  unfold chkT at t
  rw [eS] at hS hl hpo b s
  generalize UL = U at *
  obtain ⟨le, ele⟩ : ∃ le, c.le = le := ⟨_, rfl⟩
  rw [ele] at hl h5
  have f1 : pEq (.int c.few) (.int 9) = some (.bl (decide (c.few = 9))) := rfl
  have h8 : pNe (.bl c.op) (.bl c.op) = some (.bl false) := pNe_self (a := .bl c.op) rfl
  have hs1 : pSub (.int c.b) (.int c.few) = some (.int (c.b - c.few)) := rfl
  cases ho : c.op with
  | false =>
    rw [ho] at hpo h6 h7 h8
    by_cases h9 : c.few = 9
    · rw [if_pos h9] at h5
      rw [decide_eq_true h9] at f1
      unfold f_law_case_right b_law_case_right; refine t_eq ?_; simp -dsimp only [fnOf, List.reduceReplicate, ↓fBin_b, ↓fUn_b, ↓fBlT_b, ↓fAnd_b, ↓fIf_b, ↓lCons_b, ↓fTup_b, ↓fCall_b, ↓sSeq_b, ↓sRet_b, ↓sIf_b, ↓sSet_b, ↓iSeq_b, ↓iRange1_b, ↓fNew_b, ↓nLc_b, ↓fC_b, ↓lNil_b, ↓sNil_b, ↓fYes_b, ↓tgName_b, ↓tgNil_b, ↓tgCons_b, ↓tgTup_b, ↓lcRun_b, ↓frz_val, ↓lrs_val, ↓liftS_b, ↓liftN_b, ↓fMakeD_b, ↓seqOf_t_b, ↓seqOf_l_b, ↓lstOf_l_b, ↓intOf_i_b, ↓blOf_b_b, ↓tru_n_b, ↓tru_b_b, ↓tru_i_b, ↓tru_t_b, ↓tru_l_b, ↓pLen_t_b, ↓pLen_l_b, ↓pLen_s_b, ↓pTuple_t_b, ↓pTuple_l_b, ↓pAdd_i_b, ↓pSub_i_b, ↓atI_0_b, ↓atI_1_b, ↓atI_2_b, ↓atI_3_b, ↓lg0_b, ↓lg1_b, ↓lg2_b, ↓lg3_b, rs_val, outV_rt, outV_nx, backE_n, backE_u, wipeE_n, wipeE_u, froOf_f, froOf_u, seqOf_t, seqOf_l, lstOf_l, intOf_i, blOf_b, tru_n, tru_b, tru_i, tru_t, tru_l, pLen_t, pLen_l, pLen_s, pTuple_t, pTuple_l, pAdd_i, pSub_i, atI_0, atI_1, atI_2, atI_3, lg0, lg1, lg2, lg3, pIx_t, pIx_l, pAdd_t, pAdd_l, ↓keyOf1_ib, keyOf1_i, ↓T.bind_assoc, bind_ret', bind_bad', bind_exc', bind_draw', lift_some, lift_none', big, below62', below24', below64', below29', mul_ok, div_ok, mod_ok, addI, subI, addI, subI, ixN_nat, ↓lGive_b, ↓imt0, ↓imt1, ↓imt2, ↓imt3, List.length_cons, List.length_nil, List.map_cons, List.map_nil, List.append_nil, List.nil_append, List.cons_append, List.replicate_succ, List.replicate_zero, List.isEmpty_nil, List.isEmpty_cons, Option.map_some, Option.map_none, Option.bind_some, Option.bind_none, true_and, and_true, and_self, false_and, and_false, true_or, or_true, false_or, or_false, not_true_eq_false, not_false_eq_true, Bool.not_true, Bool.not_false, Bool.true_and, Bool.and_true, Bool.false_and, Bool.and_false, Bool.true_or, Bool.or_true, Bool.or_false, Bool.false_or, decide_true, decide_false, decide_eq_true_eq, decide_eq_false_iff_not, if_true, if_false, ite_true, ite_false, ↓reduceIte, Int.natCast_nonneg, Nat.reduceLT, Nat.reduceLeDiff, Nat.reduceEqDiff, Nat.reduceSub, Nat.reduceMul, Int.reduceLT, Int.reduceLE, Int.reduceEq, Int.reduceAdd, Int.reduceSub, Int.reduceMul, Int.reduceNeg, Int.reducePow, List.length_map, List.length_range, eq_self, ne_eq, Classical.not_not, Bool.not_eq_true, Bool.not_eq_false, Bool.false_eq_true, reduceCtorEq, Int.toNat_natCast, Nat.add_eq, Nat.reduceAdd, Int.cast_ofNat_Int, Int.reduceToNat, Int.zero_add, Int.add_zero, Nat.zero_add, Nat.add_zero, Nat.sub_zero, Int.sub_zero, Int.natCast_zero, Int.natCast_one, Int.natCast_add, Int.natCast_succ, beq_self_eq_true, Bool.decide_eq_true, Bool.decide_eq_false, ↓vf0, ↓vm0, rf0, rm0, ↓qf0, ↓qm0, ↓zf0, ↓zm0, ↓im0, ss0, fi0, ↓vf1, ↓vm1, rf1, rm1, ↓qf1, ↓qm1, ↓zf1, ↓zm1, ↓im1, ss1, fi1, ↓vf2, ↓vm2, rf2, rm2, ↓qf2, ↓qm2, ↓zf2, ↓zm2, ↓im2, ss2, fi2, ↓vf3, ↓vm3, rf3, rm3, ↓qf3, ↓qm3, ↓zf3, ↓zm3, ↓im3, ss3, fi3, ↓vf4, ↓vm4, rf4, rm4, ↓qf4, ↓qm4, ↓zf4, ↓zm4, ↓im4, ss4, fi4, ↓vf5, ↓vm5, rf5, rm5, ↓qf5, ↓qm5, ↓zf5, ↓zm5, ↓im5, ss5, fi5, ↓vf6, ↓vm6, rf6, rm6, ↓qf6, ↓qm6, ↓zf6, ↓zm6, ↓im6, ss6, fi6, ↓vf7, ↓vm7, rf7, rm7, ↓qf7, ↓qm7, ↓zf7, ↓zm7, ↓im7, ss7, fi7, ↓vf8, ↓vm8, rf8, rm8, ↓qf8, ↓qm8, ↓zf8, ↓zm8, ↓im8, ss8, fi8, ↓vf9, ↓vm9, rf9, rm9, ↓qf9, ↓qm9, ↓zf9, ↓zm9, ↓im9, ss9, fi9, ↓vf10, ↓vm10, rf10, rm10, ↓qf10, ↓qm10, ↓zf10, ↓zm10, ↓im10, ss10, fi10, S1t0_law_case_right, U1t0_law_case_right, S2t0_law_case_right, U2t0_law_case_right, S3t0_law_case_right, U3t0_law_case_right, S0_law_case_right, S1_law_case_right, S2_law_case_right, S3_law_case_right, S4_law_case_right, S5_law_case_right, S6_law_case_right, S7_law_case_right, U7_law_case_right, U6_law_case_right, U5_law_case_right, U4_law_case_right, U3_law_case_right, U2_law_case_right, U1_law_case_right, U0_law_case_right, hS, hl, f1, h5, hpo, h6, h7, h8]
    · rw [if_neg h9] at h5
      rw [decide_eq_false h9] at f1
      unfold f_law_case_right b_law_case_right; refine t_eq ?_; simp -dsimp only [fnOf, List.reduceReplicate, ↓fBin_b, ↓fUn_b, ↓fBlT_b, ↓fAnd_b, ↓fIf_b, ↓lCons_b, ↓fTup_b, ↓fCall_b, ↓sSeq_b, ↓sRet_b, ↓sIf_b, ↓sSet_b, ↓iSeq_b, ↓iRange1_b, ↓fNew_b, ↓nLc_b, ↓fC_b, ↓lNil_b, ↓sNil_b, ↓fYes_b, ↓tgName_b, ↓tgNil_b, ↓tgCons_b, ↓tgTup_b, ↓lcRun_b, ↓frz_val, ↓lrs_val, ↓liftS_b, ↓liftN_b, ↓fMakeD_b, ↓seqOf_t_b, ↓seqOf_l_b, ↓lstOf_l_b, ↓intOf_i_b, ↓blOf_b_b, ↓tru_n_b, ↓tru_b_b, ↓tru_i_b, ↓tru_t_b, ↓tru_l_b, ↓pLen_t_b, ↓pLen_l_b, ↓pLen_s_b, ↓pTuple_t_b, ↓pTuple_l_b, ↓pAdd_i_b, ↓pSub_i_b, ↓atI_0_b, ↓atI_1_b, ↓atI_2_b, ↓atI_3_b, ↓lg0_b, ↓lg1_b, ↓lg2_b, ↓lg3_b, rs_val, outV_rt, outV_nx, backE_n, backE_u, wipeE_n, wipeE_u, froOf_f, froOf_u, seqOf_t, seqOf_l, lstOf_l, intOf_i, blOf_b, tru_n, tru_b, tru_i, tru_t, tru_l, pLen_t, pLen_l, pLen_s, pTuple_t, pTuple_l, pAdd_i, pSub_i, atI_0, atI_1, atI_2, atI_3, lg0, lg1, lg2, lg3, pIx_t, pIx_l, pAdd_t, pAdd_l, ↓keyOf1_ib, keyOf1_i, ↓T.bind_assoc, bind_ret', bind_bad', bind_exc', bind_draw', lift_some, lift_none', big, below62', below24', below64', below29', mul_ok, div_ok, mod_ok, addI, subI, addI, subI, ixN_nat, ↓lGive_b, ↓imt0, ↓imt1, ↓imt2, ↓imt3, List.length_cons, List.length_nil, List.map_cons, List.map_nil, List.append_nil, List.nil_append, List.cons_append, List.replicate_succ, List.replicate_zero, List.isEmpty_nil, List.isEmpty_cons, Option.map_some, Option.map_none, Option.bind_some, Option.bind_none, true_and, and_true, and_self, false_and, and_false, true_or, or_true, false_or, or_false, not_true_eq_false, not_false_eq_true, Bool.not_true, Bool.not_false, Bool.true_and, Bool.and_true, Bool.false_and, Bool.and_false, Bool.true_or, Bool.or_true, Bool.or_false, Bool.false_or, decide_true, decide_false, decide_eq_true_eq, decide_eq_false_iff_not, if_true, if_false, ite_true, ite_false, ↓reduceIte, Int.natCast_nonneg, Nat.reduceLT, Nat.reduceLeDiff, Nat.reduceEqDiff, Nat.reduceSub, Nat.reduceMul, Int.reduceLT, Int.reduceLE, Int.reduceEq, Int.reduceAdd, Int.reduceSub, Int.reduceMul, Int.reduceNeg, Int.reducePow, List.length_map, List.length_range, eq_self, ne_eq, Classical.not_not, Bool.not_eq_true, Bool.not_eq_false, Bool.false_eq_true, reduceCtorEq, Int.toNat_natCast, Nat.add_eq, Nat.reduceAdd, Int.cast_ofNat_Int, Int.reduceToNat, Int.zero_add, Int.add_zero, Nat.zero_add, Nat.add_zero, Nat.sub_zero, Int.sub_zero, Int.natCast_zero, Int.natCast_one, Int.natCast_add, Int.natCast_succ, beq_self_eq_true, Bool.decide_eq_true, Bool.decide_eq_false, ↓vf0, ↓vm0, rf0, rm0, ↓qf0, ↓qm0, ↓zf0, ↓zm0, ↓im0, ss0, fi0, ↓vf1, ↓vm1, rf1, rm1, ↓qf1, ↓qm1, ↓zf1, ↓zm1, ↓im1, ss1, fi1, ↓vf2, ↓vm2, rf2, rm2, ↓qf2, ↓qm2, ↓zf2, ↓zm2, ↓im2, ss2, fi2, ↓vf3, ↓vm3, rf3, rm3, ↓qf3, ↓qm3, ↓zf3, ↓zm3, ↓im3, ss3, fi3, ↓vf4, ↓vm4, rf4, rm4, ↓qf4, ↓qm4, ↓zf4, ↓zm4, ↓im4, ss4, fi4, ↓vf5, ↓vm5, rf5, rm5, ↓qf5, ↓qm5, ↓zf5, ↓zm5, ↓im5, ss5, fi5, ↓vf6, ↓vm6, rf6, rm6, ↓qf6, ↓qm6, ↓zf6, ↓zm6, ↓im6, ss6, fi6, ↓vf7, ↓vm7, rf7, rm7, ↓qf7, ↓qm7, ↓zf7, ↓zm7, ↓im7, ss7, fi7, ↓vf8, ↓vm8, rf8, rm8, ↓qf8, ↓qm8, ↓zf8, ↓zm8, ↓im8, ss8, fi8, ↓vf9, ↓vm9, rf9, rm9, ↓qf9, ↓qm9, ↓zf9, ↓zm9, ↓im9, ss9, fi9, ↓vf10, ↓vm10, rf10, rm10, ↓qf10, ↓qm10, ↓zf10, ↓zm10, ↓im10, ss10, fi10, S1t0_law_case_right, U1t0_law_case_right, S2t0_law_case_right, U2t0_law_case_right, S3t0_law_case_right, U3t0_law_case_right, S0_law_case_right, S1_law_case_right, S2_law_case_right, S3_law_case_right, S4_law_case_right, S5_law_case_right, S6_law_case_right, S7_law_case_right, U7_law_case_right, U6_law_case_right, U5_law_case_right, U4_law_case_right, U3_law_case_right, U2_law_case_right, U1_law_case_right, U0_law_case_right, hS, hl, f1, h5, hpo, h6, h7, h8]
  | true =>
    rw [ho] at hpo h6 h7 h8 b s t
    simp only [Bool.and_eq_true, decide_eq_true_eq, Bool.not_true, Bool.false_or] at b s t
    obtain ⟨b1, b2, b3, b4, b5, b6, b7, b8, b9, b10, b11⟩ := b
    have g1 := isR_eq b1
    have g2 := isR_eq b2
    have g3 := isP_eq b3
    have g4 := isP_eq b4
    have g5 := isP_eq b9
    have g6 := isP_eq b10
    have g7 := isP_eq b11
    have c0 : C0_law_case_right [.fro U, .fro (.int c.b), .fro (.lst p), .fro (.int c.few), .fro (.str c.ups), .fro (.str c.turns), .fro S, .un, .un, .un, .un] = .ret (c.cu.map AV.str, [.fro U, .fro (.int c.b), .fro (.lst p), .fro (.int c.few), .fro (.str c.ups), .fro (.str c.turns), .fro S, .un, .un, .un, .un]) := by
      rw [show c.cu.map AV.str = (List.range 7).map (fun d => AV.str (c.cu.getD d "")) from by exact (congrArg (List.map AV.str) b5).symm.trans (List.map_map ..)]
      refine nLc_M (l := List.range 7) (fun d : Nat => AV.int (d : Int)) (fun d => AV.str (c.cu.getD d "")) (by refine t_eq ?_; simp -dsimp only [↓fBin_b, ↓fUn_b, ↓fBlT_b, ↓fAnd_b, ↓fIf_b, ↓lCons_b, ↓fTup_b, ↓fCall_b, ↓sSeq_b, ↓sRet_b, ↓sIf_b, ↓sSet_b, ↓iSeq_b, ↓iRange1_b, ↓fNew_b, ↓nLc_b, ↓fC_b, ↓lNil_b, ↓sNil_b, ↓fYes_b, ↓tgName_b, ↓tgNil_b, ↓tgCons_b, ↓tgTup_b, ↓lcRun_b, ↓frz_val, ↓lrs_val, ↓liftS_b, ↓liftN_b, ↓fMakeD_b, ↓seqOf_t_b, ↓seqOf_l_b, ↓lstOf_l_b, ↓intOf_i_b, ↓blOf_b_b, ↓tru_n_b, ↓tru_b_b, ↓tru_i_b, ↓tru_t_b, ↓tru_l_b, ↓pLen_t_b, ↓pLen_l_b, ↓pLen_s_b, ↓pTuple_t_b, ↓pTuple_l_b, ↓pAdd_i_b, ↓pSub_i_b, ↓atI_0_b, ↓atI_1_b, ↓atI_2_b, ↓atI_3_b, ↓lg0_b, ↓lg1_b, ↓lg2_b, ↓lg3_b, rs_val, outV_rt, outV_nx, backE_n, backE_u, wipeE_n, wipeE_u, froOf_f, froOf_u, seqOf_t, seqOf_l, lstOf_l, intOf_i, blOf_b, tru_n, tru_b, tru_i, tru_t, tru_l, pLen_t, pLen_l, pLen_s, pTuple_t, pTuple_l, pAdd_i, pSub_i, atI_0, atI_1, atI_2, atI_3, lg0, lg1, lg2, lg3, pIx_t, pIx_l, pAdd_t, pAdd_l, ↓keyOf1_ib, keyOf1_i, ↓T.bind_assoc, bind_ret', bind_bad', bind_exc', bind_draw', lift_some, lift_none', big, below62', below24', below64', below29', mul_ok, div_ok, mod_ok, addI, subI, addI, subI, ixN_nat, ↓lGive_b, ↓imt0, ↓imt1, ↓imt2, ↓imt3, List.length_cons, List.length_nil, List.map_cons, List.map_nil, List.append_nil, List.nil_append, List.cons_append, List.replicate_succ, List.replicate_zero, List.isEmpty_nil, List.isEmpty_cons, Option.map_some, Option.map_none, Option.bind_some, Option.bind_none, true_and, and_true, and_self, false_and, and_false, true_or, or_true, false_or, or_false, not_true_eq_false, not_false_eq_true, Bool.not_true, Bool.not_false, Bool.true_and, Bool.and_true, Bool.false_and, Bool.and_false, Bool.true_or, Bool.or_true, Bool.or_false, Bool.false_or, decide_true, decide_false, decide_eq_true_eq, decide_eq_false_iff_not, if_true, if_false, ite_true, ite_false, ↓reduceIte, Int.natCast_nonneg, Nat.reduceLT, Nat.reduceLeDiff, Nat.reduceEqDiff, Nat.reduceSub, Nat.reduceMul, Int.reduceLT, Int.reduceLE, Int.reduceEq, Int.reduceAdd, Int.reduceSub, Int.reduceMul, Int.reduceNeg, Int.reducePow, List.length_map, List.length_range, eq_self, ne_eq, Classical.not_not, Bool.not_eq_true, Bool.not_eq_false, Bool.false_eq_true, reduceCtorEq, Int.toNat_natCast, Nat.add_eq, Nat.reduceAdd, Int.cast_ofNat_Int, Int.reduceToNat, Int.zero_add, Int.add_zero, Nat.zero_add, Nat.add_zero, Nat.sub_zero, Int.sub_zero, Int.natCast_zero, Int.natCast_one, Int.natCast_add, Int.natCast_succ, beq_self_eq_true, Bool.decide_eq_true, Bool.decide_eq_false, ↓vf0, ↓vm0, rf0, rm0, ↓qf0, ↓qm0, ↓zf0, ↓zm0, ↓im0, ss0, fi0, ↓vf1, ↓vm1, rf1, rm1, ↓qf1, ↓qm1, ↓zf1, ↓zm1, ↓im1, ss1, fi1, ↓vf2, ↓vm2, rf2, rm2, ↓qf2, ↓qm2, ↓zf2, ↓zm2, ↓im2, ss2, fi2, ↓vf3, ↓vm3, rf3, rm3, ↓qf3, ↓qm3, ↓zf3, ↓zm3, ↓im3, ss3, fi3, ↓vf4, ↓vm4, rf4, rm4, ↓qf4, ↓qm4, ↓zf4, ↓zm4, ↓im4, ss4, fi4, ↓vf5, ↓vm5, rf5, rm5, ↓qf5, ↓qm5, ↓zf5, ↓zm5, ↓im5, ss5, fi5, ↓vf6, ↓vm6, rf6, rm6, ↓qf6, ↓qm6, ↓zf6, ↓zm6, ↓im6, ss6, fi6, ↓vf7, ↓vm7, rf7, rm7, ↓qf7, ↓qm7, ↓zf7, ↓zm7, ↓im7, ss7, fi7, ↓vf8, ↓vm8, rf8, rm8, ↓qf8, ↓qm8, ↓zf8, ↓zm8, ↓im8, ss8, fi8, ↓vf9, ↓vm9, rf9, rm9, ↓qf9, ↓qm9, ↓zf9, ↓zm9, ↓im9, ss9, fi9, ↓vf10, ↓vm10, rf10, rm10, ↓qf10, ↓qm10, ↓zf10, ↓zm10, ↓im10, ss10, fi10]; (try simp only [T.bind_ret]); rfl) (by decide) rfl fun k hk => ⟨[.fro U, .fro (.int c.b), .fro (.lst p), .fro (.int c.few), .fro (.str c.ups), .fro (.str c.turns), .fro S, .un, .un, .un, .fro (.int (k : Int))], ?_, rfl⟩
      have s1 := isR_eq (List.all_eq_true.mp s k hk)
      have s2 := isP_eq (List.all_eq_true.mp b7 k hk)
      refine t_eq ?_; simp -dsimp only [↓fBin_b, ↓fUn_b, ↓fBlT_b, ↓fAnd_b, ↓fIf_b, ↓lCons_b, ↓fTup_b, ↓fCall_b, ↓sSeq_b, ↓sRet_b, ↓sIf_b, ↓sSet_b, ↓iSeq_b, ↓iRange1_b, ↓fNew_b, ↓nLc_b, ↓fC_b, ↓lNil_b, ↓sNil_b, ↓fYes_b, ↓tgName_b, ↓tgNil_b, ↓tgCons_b, ↓tgTup_b, ↓lcRun_b, ↓frz_val, ↓lrs_val, ↓liftS_b, ↓liftN_b, ↓fMakeD_b, ↓seqOf_t_b, ↓seqOf_l_b, ↓lstOf_l_b, ↓intOf_i_b, ↓blOf_b_b, ↓tru_n_b, ↓tru_b_b, ↓tru_i_b, ↓tru_t_b, ↓tru_l_b, ↓pLen_t_b, ↓pLen_l_b, ↓pLen_s_b, ↓pTuple_t_b, ↓pTuple_l_b, ↓pAdd_i_b, ↓pSub_i_b, ↓atI_0_b, ↓atI_1_b, ↓atI_2_b, ↓atI_3_b, ↓lg0_b, ↓lg1_b, ↓lg2_b, ↓lg3_b, rs_val, outV_rt, outV_nx, backE_n, backE_u, wipeE_n, wipeE_u, froOf_f, froOf_u, seqOf_t, seqOf_l, lstOf_l, intOf_i, blOf_b, tru_n, tru_b, tru_i, tru_t, tru_l, pLen_t, pLen_l, pLen_s, pTuple_t, pTuple_l, pAdd_i, pSub_i, atI_0, atI_1, atI_2, atI_3, lg0, lg1, lg2, lg3, pIx_t, pIx_l, pAdd_t, pAdd_l, ↓keyOf1_ib, keyOf1_i, ↓T.bind_assoc, bind_ret', bind_bad', bind_exc', bind_draw', lift_some, lift_none', big, below62', below24', below64', below29', mul_ok, div_ok, mod_ok, addI, subI, addI, subI, ixN_nat, ↓lGive_b, ↓imt0, ↓imt1, ↓imt2, ↓imt3, List.length_cons, List.length_nil, List.map_cons, List.map_nil, List.append_nil, List.nil_append, List.cons_append, List.replicate_succ, List.replicate_zero, List.isEmpty_nil, List.isEmpty_cons, Option.map_some, Option.map_none, Option.bind_some, Option.bind_none, true_and, and_true, and_self, false_and, and_false, true_or, or_true, false_or, or_false, not_true_eq_false, not_false_eq_true, Bool.not_true, Bool.not_false, Bool.true_and, Bool.and_true, Bool.false_and, Bool.and_false, Bool.true_or, Bool.or_true, Bool.or_false, Bool.false_or, decide_true, decide_false, decide_eq_true_eq, decide_eq_false_iff_not, if_true, if_false, ite_true, ite_false, ↓reduceIte, Int.natCast_nonneg, Nat.reduceLT, Nat.reduceLeDiff, Nat.reduceEqDiff, Nat.reduceSub, Nat.reduceMul, Int.reduceLT, Int.reduceLE, Int.reduceEq, Int.reduceAdd, Int.reduceSub, Int.reduceMul, Int.reduceNeg, Int.reducePow, List.length_map, List.length_range, eq_self, ne_eq, Classical.not_not, Bool.not_eq_true, Bool.not_eq_false, Bool.false_eq_true, reduceCtorEq, Int.toNat_natCast, Nat.add_eq, Nat.reduceAdd, Int.cast_ofNat_Int, Int.reduceToNat, Int.zero_add, Int.add_zero, Nat.zero_add, Nat.add_zero, Nat.sub_zero, Int.sub_zero, Int.natCast_zero, Int.natCast_one, Int.natCast_add, Int.natCast_succ, beq_self_eq_true, Bool.decide_eq_true, Bool.decide_eq_false, ↓vf0, ↓vm0, rf0, rm0, ↓qf0, ↓qm0, ↓zf0, ↓zm0, ↓im0, ss0, fi0, ↓vf1, ↓vm1, rf1, rm1, ↓qf1, ↓qm1, ↓zf1, ↓zm1, ↓im1, ss1, fi1, ↓vf2, ↓vm2, rf2, rm2, ↓qf2, ↓qm2, ↓zf2, ↓zm2, ↓im2, ss2, fi2, ↓vf3, ↓vm3, rf3, rm3, ↓qf3, ↓qm3, ↓zf3, ↓zm3, ↓im3, ss3, fi3, ↓vf4, ↓vm4, rf4, rm4, ↓qf4, ↓qm4, ↓zf4, ↓zm4, ↓im4, ss4, fi4, ↓vf5, ↓vm5, rf5, rm5, ↓qf5, ↓qm5, ↓zf5, ↓zm5, ↓im5, ss5, fi5, ↓vf6, ↓vm6, rf6, rm6, ↓qf6, ↓qm6, ↓zf6, ↓zm6, ↓im6, ss6, fi6, ↓vf7, ↓vm7, rf7, rm7, ↓qf7, ↓qm7, ↓zf7, ↓zm7, ↓im7, ss7, fi7, ↓vf8, ↓vm8, rf8, rm8, ↓qf8, ↓qm8, ↓zf8, ↓zm8, ↓im8, ss8, fi8, ↓vf9, ↓vm9, rf9, rm9, ↓qf9, ↓qm9, ↓zf9, ↓zm9, ↓im9, ss9, fi9, ↓vf10, ↓vm10, rf10, rm10, ↓qf10, ↓qm10, ↓zf10, ↓zm10, ↓im10, ss10, fi10, s1, s2]; (try simp only [T.bind_ret])
    have c1 : C1_law_case_right [.fro U, .fro (.int c.b), .fro (.lst p), .fro (.int c.few), .fro (.str c.ups), .fro (.str c.turns), .fro S, .fro (.str c.ups), .un, .un, .un] = .ret (c.ct.map AV.str, [.fro U, .fro (.int c.b), .fro (.lst p), .fro (.int c.few), .fro (.str c.ups), .fro (.str c.turns), .fro S, .fro (.str c.ups), .un, .un, .un]) := by
      rw [show c.ct.map AV.str = (List.range 6).map (fun d => AV.str (c.ct.getD d "")) from by exact (congrArg (List.map AV.str) b6).symm.trans (List.map_map ..)]
      refine nLc_M (l := List.range 6) (fun d : Nat => AV.int (d : Int)) (fun d => AV.str (c.ct.getD d "")) (by refine t_eq ?_; simp -dsimp only [↓fBin_b, ↓fUn_b, ↓fBlT_b, ↓fAnd_b, ↓fIf_b, ↓lCons_b, ↓fTup_b, ↓fCall_b, ↓sSeq_b, ↓sRet_b, ↓sIf_b, ↓sSet_b, ↓iSeq_b, ↓iRange1_b, ↓fNew_b, ↓nLc_b, ↓fC_b, ↓lNil_b, ↓sNil_b, ↓fYes_b, ↓tgName_b, ↓tgNil_b, ↓tgCons_b, ↓tgTup_b, ↓lcRun_b, ↓frz_val, ↓lrs_val, ↓liftS_b, ↓liftN_b, ↓fMakeD_b, ↓seqOf_t_b, ↓seqOf_l_b, ↓lstOf_l_b, ↓intOf_i_b, ↓blOf_b_b, ↓tru_n_b, ↓tru_b_b, ↓tru_i_b, ↓tru_t_b, ↓tru_l_b, ↓pLen_t_b, ↓pLen_l_b, ↓pLen_s_b, ↓pTuple_t_b, ↓pTuple_l_b, ↓pAdd_i_b, ↓pSub_i_b, ↓atI_0_b, ↓atI_1_b, ↓atI_2_b, ↓atI_3_b, ↓lg0_b, ↓lg1_b, ↓lg2_b, ↓lg3_b, rs_val, outV_rt, outV_nx, backE_n, backE_u, wipeE_n, wipeE_u, froOf_f, froOf_u, seqOf_t, seqOf_l, lstOf_l, intOf_i, blOf_b, tru_n, tru_b, tru_i, tru_t, tru_l, pLen_t, pLen_l, pLen_s, pTuple_t, pTuple_l, pAdd_i, pSub_i, atI_0, atI_1, atI_2, atI_3, lg0, lg1, lg2, lg3, pIx_t, pIx_l, pAdd_t, pAdd_l, ↓keyOf1_ib, keyOf1_i, ↓T.bind_assoc, bind_ret', bind_bad', bind_exc', bind_draw', lift_some, lift_none', big, below62', below24', below64', below29', mul_ok, div_ok, mod_ok, addI, subI, addI, subI, ixN_nat, ↓lGive_b, ↓imt0, ↓imt1, ↓imt2, ↓imt3, List.length_cons, List.length_nil, List.map_cons, List.map_nil, List.append_nil, List.nil_append, List.cons_append, List.replicate_succ, List.replicate_zero, List.isEmpty_nil, List.isEmpty_cons, Option.map_some, Option.map_none, Option.bind_some, Option.bind_none, true_and, and_true, and_self, false_and, and_false, true_or, or_true, false_or, or_false, not_true_eq_false, not_false_eq_true, Bool.not_true, Bool.not_false, Bool.true_and, Bool.and_true, Bool.false_and, Bool.and_false, Bool.true_or, Bool.or_true, Bool.or_false, Bool.false_or, decide_true, decide_false, decide_eq_true_eq, decide_eq_false_iff_not, if_true, if_false, ite_true, ite_false, ↓reduceIte, Int.natCast_nonneg, Nat.reduceLT, Nat.reduceLeDiff, Nat.reduceEqDiff, Nat.reduceSub, Nat.reduceMul, Int.reduceLT, Int.reduceLE, Int.reduceEq, Int.reduceAdd, Int.reduceSub, Int.reduceMul, Int.reduceNeg, Int.reducePow, List.length_map, List.length_range, eq_self, ne_eq, Classical.not_not, Bool.not_eq_true, Bool.not_eq_false, Bool.false_eq_true, reduceCtorEq, Int.toNat_natCast, Nat.add_eq, Nat.reduceAdd, Int.cast_ofNat_Int, Int.reduceToNat, Int.zero_add, Int.add_zero, Nat.zero_add, Nat.add_zero, Nat.sub_zero, Int.sub_zero, Int.natCast_zero, Int.natCast_one, Int.natCast_add, Int.natCast_succ, beq_self_eq_true, Bool.decide_eq_true, Bool.decide_eq_false, ↓vf0, ↓vm0, rf0, rm0, ↓qf0, ↓qm0, ↓zf0, ↓zm0, ↓im0, ss0, fi0, ↓vf1, ↓vm1, rf1, rm1, ↓qf1, ↓qm1, ↓zf1, ↓zm1, ↓im1, ss1, fi1, ↓vf2, ↓vm2, rf2, rm2, ↓qf2, ↓qm2, ↓zf2, ↓zm2, ↓im2, ss2, fi2, ↓vf3, ↓vm3, rf3, rm3, ↓qf3, ↓qm3, ↓zf3, ↓zm3, ↓im3, ss3, fi3, ↓vf4, ↓vm4, rf4, rm4, ↓qf4, ↓qm4, ↓zf4, ↓zm4, ↓im4, ss4, fi4, ↓vf5, ↓vm5, rf5, rm5, ↓qf5, ↓qm5, ↓zf5, ↓zm5, ↓im5, ss5, fi5, ↓vf6, ↓vm6, rf6, rm6, ↓qf6, ↓qm6, ↓zf6, ↓zm6, ↓im6, ss6, fi6, ↓vf7, ↓vm7, rf7, rm7, ↓qf7, ↓qm7, ↓zf7, ↓zm7, ↓im7, ss7, fi7, ↓vf8, ↓vm8, rf8, rm8, ↓qf8, ↓qm8, ↓zf8, ↓zm8, ↓im8, ss8, fi8, ↓vf9, ↓vm9, rf9, rm9, ↓qf9, ↓qm9, ↓zf9, ↓zm9, ↓im9, ss9, fi9, ↓vf10, ↓vm10, rf10, rm10, ↓qf10, ↓qm10, ↓zf10, ↓zm10, ↓im10, ss10, fi10]; (try simp only [T.bind_ret]); rfl) (by decide) rfl fun k hk => ⟨[.fro U, .fro (.int c.b), .fro (.lst p), .fro (.int c.few), .fro (.str c.ups), .fro (.str c.turns), .fro S, .fro (.str c.ups), .un, .un, .fro (.int (k : Int))], ?_, rfl⟩
      have s1 : f_turning [S, .int (k : Int), .int 0] = .ret (c.tn.getD k .non) := isR_eq (by
        rw [← eS]
        have hk' := List.mem_range.mp hk
        obtain ⟨t0, t1, t2, t3, t4, t5⟩ := t
        match k, hk' with
        | 0, _ => exact t0
        | 1, _ => exact t1
        | 2, _ => exact t2
        | 3, _ => exact t3
        | 4, _ => exact t4
        | 5, _ => exact t5)
      have q := List.all_eq_true.mp b8 k hk
      rw [Bool.and_eq_true] at q
      have s2 := isP_eq q.1
      refine t_eq ?_; simp -dsimp only [↓fBin_b, ↓fUn_b, ↓fBlT_b, ↓fAnd_b, ↓fIf_b, ↓lCons_b, ↓fTup_b, ↓fCall_b, ↓sSeq_b, ↓sRet_b, ↓sIf_b, ↓sSet_b, ↓iSeq_b, ↓iRange1_b, ↓fNew_b, ↓nLc_b, ↓fC_b, ↓lNil_b, ↓sNil_b, ↓fYes_b, ↓tgName_b, ↓tgNil_b, ↓tgCons_b, ↓tgTup_b, ↓lcRun_b, ↓frz_val, ↓lrs_val, ↓liftS_b, ↓liftN_b, ↓fMakeD_b, ↓seqOf_t_b, ↓seqOf_l_b, ↓lstOf_l_b, ↓intOf_i_b, ↓blOf_b_b, ↓tru_n_b, ↓tru_b_b, ↓tru_i_b, ↓tru_t_b, ↓tru_l_b, ↓pLen_t_b, ↓pLen_l_b, ↓pLen_s_b, ↓pTuple_t_b, ↓pTuple_l_b, ↓pAdd_i_b, ↓pSub_i_b, ↓atI_0_b, ↓atI_1_b, ↓atI_2_b, ↓atI_3_b, ↓lg0_b, ↓lg1_b, ↓lg2_b, ↓lg3_b, rs_val, outV_rt, outV_nx, backE_n, backE_u, wipeE_n, wipeE_u, froOf_f, froOf_u, seqOf_t, seqOf_l, lstOf_l, intOf_i, blOf_b, tru_n, tru_b, tru_i, tru_t, tru_l, pLen_t, pLen_l, pLen_s, pTuple_t, pTuple_l, pAdd_i, pSub_i, atI_0, atI_1, atI_2, atI_3, lg0, lg1, lg2, lg3, pIx_t, pIx_l, pAdd_t, pAdd_l, ↓keyOf1_ib, keyOf1_i, ↓T.bind_assoc, bind_ret', bind_bad', bind_exc', bind_draw', lift_some, lift_none', big, below62', below24', below64', below29', mul_ok, div_ok, mod_ok, addI, subI, addI, subI, ixN_nat, ↓lGive_b, ↓imt0, ↓imt1, ↓imt2, ↓imt3, List.length_cons, List.length_nil, List.map_cons, List.map_nil, List.append_nil, List.nil_append, List.cons_append, List.replicate_succ, List.replicate_zero, List.isEmpty_nil, List.isEmpty_cons, Option.map_some, Option.map_none, Option.bind_some, Option.bind_none, true_and, and_true, and_self, false_and, and_false, true_or, or_true, false_or, or_false, not_true_eq_false, not_false_eq_true, Bool.not_true, Bool.not_false, Bool.true_and, Bool.and_true, Bool.false_and, Bool.and_false, Bool.true_or, Bool.or_true, Bool.or_false, Bool.false_or, decide_true, decide_false, decide_eq_true_eq, decide_eq_false_iff_not, if_true, if_false, ite_true, ite_false, ↓reduceIte, Int.natCast_nonneg, Nat.reduceLT, Nat.reduceLeDiff, Nat.reduceEqDiff, Nat.reduceSub, Nat.reduceMul, Int.reduceLT, Int.reduceLE, Int.reduceEq, Int.reduceAdd, Int.reduceSub, Int.reduceMul, Int.reduceNeg, Int.reducePow, List.length_map, List.length_range, eq_self, ne_eq, Classical.not_not, Bool.not_eq_true, Bool.not_eq_false, Bool.false_eq_true, reduceCtorEq, Int.toNat_natCast, Nat.add_eq, Nat.reduceAdd, Int.cast_ofNat_Int, Int.reduceToNat, Int.zero_add, Int.add_zero, Nat.zero_add, Nat.add_zero, Nat.sub_zero, Int.sub_zero, Int.natCast_zero, Int.natCast_one, Int.natCast_add, Int.natCast_succ, beq_self_eq_true, Bool.decide_eq_true, Bool.decide_eq_false, ↓vf0, ↓vm0, rf0, rm0, ↓qf0, ↓qm0, ↓zf0, ↓zm0, ↓im0, ss0, fi0, ↓vf1, ↓vm1, rf1, rm1, ↓qf1, ↓qm1, ↓zf1, ↓zm1, ↓im1, ss1, fi1, ↓vf2, ↓vm2, rf2, rm2, ↓qf2, ↓qm2, ↓zf2, ↓zm2, ↓im2, ss2, fi2, ↓vf3, ↓vm3, rf3, rm3, ↓qf3, ↓qm3, ↓zf3, ↓zm3, ↓im3, ss3, fi3, ↓vf4, ↓vm4, rf4, rm4, ↓qf4, ↓qm4, ↓zf4, ↓zm4, ↓im4, ss4, fi4, ↓vf5, ↓vm5, rf5, rm5, ↓qf5, ↓qm5, ↓zf5, ↓zm5, ↓im5, ss5, fi5, ↓vf6, ↓vm6, rf6, rm6, ↓qf6, ↓qm6, ↓zf6, ↓zm6, ↓im6, ss6, fi6, ↓vf7, ↓vm7, rf7, rm7, ↓qf7, ↓qm7, ↓zf7, ↓zm7, ↓im7, ss7, fi7, ↓vf8, ↓vm8, rf8, rm8, ↓qf8, ↓qm8, ↓zf8, ↓zm8, ↓im8, ss8, fi8, ↓vf9, ↓vm9, rf9, rm9, ↓qf9, ↓qm9, ↓zf9, ↓zm9, ↓im9, ss9, fi9, ↓vf10, ↓vm10, rf10, rm10, ↓qf10, ↓qm10, ↓zf10, ↓zm10, ↓im10, ss10, fi10, s1, s2]; (try simp only [T.bind_ret])
    have c2 : C2_law_case_right [.fro U, .fro (.int c.b), .fro (.lst p), .fro (.int c.few), .fro (.str c.ups), .fro (.str c.turns), .fro S, .fro (.str c.ups), .fro (.str c.turns), .un, .un] = .ret ((goneD c).map gnV, [.fro U, .fro (.int c.b), .fro (.lst p), .fro (.int c.few), .fro (.str c.ups), .fro (.str c.turns), .fro S, .fro (.str c.ups), .fro (.str c.turns), .un, .un]) := by
      refine nLc_F (l := List.range 6) (fun d : Nat => AV.int (d : Int)) (fun d => decide (c.ct.getD d "" = "X")) gnV (by refine t_eq ?_; simp -dsimp only [↓fBin_b, ↓fUn_b, ↓fBlT_b, ↓fAnd_b, ↓fIf_b, ↓lCons_b, ↓fTup_b, ↓fCall_b, ↓sSeq_b, ↓sRet_b, ↓sIf_b, ↓sSet_b, ↓iSeq_b, ↓iRange1_b, ↓fNew_b, ↓nLc_b, ↓fC_b, ↓lNil_b, ↓sNil_b, ↓fYes_b, ↓tgName_b, ↓tgNil_b, ↓tgCons_b, ↓tgTup_b, ↓lcRun_b, ↓frz_val, ↓lrs_val, ↓liftS_b, ↓liftN_b, ↓fMakeD_b, ↓seqOf_t_b, ↓seqOf_l_b, ↓lstOf_l_b, ↓intOf_i_b, ↓blOf_b_b, ↓tru_n_b, ↓tru_b_b, ↓tru_i_b, ↓tru_t_b, ↓tru_l_b, ↓pLen_t_b, ↓pLen_l_b, ↓pLen_s_b, ↓pTuple_t_b, ↓pTuple_l_b, ↓pAdd_i_b, ↓pSub_i_b, ↓atI_0_b, ↓atI_1_b, ↓atI_2_b, ↓atI_3_b, ↓lg0_b, ↓lg1_b, ↓lg2_b, ↓lg3_b, rs_val, outV_rt, outV_nx, backE_n, backE_u, wipeE_n, wipeE_u, froOf_f, froOf_u, seqOf_t, seqOf_l, lstOf_l, intOf_i, blOf_b, tru_n, tru_b, tru_i, tru_t, tru_l, pLen_t, pLen_l, pLen_s, pTuple_t, pTuple_l, pAdd_i, pSub_i, atI_0, atI_1, atI_2, atI_3, lg0, lg1, lg2, lg3, pIx_t, pIx_l, pAdd_t, pAdd_l, ↓keyOf1_ib, keyOf1_i, ↓T.bind_assoc, bind_ret', bind_bad', bind_exc', bind_draw', lift_some, lift_none', big, below62', below24', below64', below29', mul_ok, div_ok, mod_ok, addI, subI, addI, subI, ixN_nat, ↓lGive_b, ↓imt0, ↓imt1, ↓imt2, ↓imt3, List.length_cons, List.length_nil, List.map_cons, List.map_nil, List.append_nil, List.nil_append, List.cons_append, List.replicate_succ, List.replicate_zero, List.isEmpty_nil, List.isEmpty_cons, Option.map_some, Option.map_none, Option.bind_some, Option.bind_none, true_and, and_true, and_self, false_and, and_false, true_or, or_true, false_or, or_false, not_true_eq_false, not_false_eq_true, Bool.not_true, Bool.not_false, Bool.true_and, Bool.and_true, Bool.false_and, Bool.and_false, Bool.true_or, Bool.or_true, Bool.or_false, Bool.false_or, decide_true, decide_false, decide_eq_true_eq, decide_eq_false_iff_not, if_true, if_false, ite_true, ite_false, ↓reduceIte, Int.natCast_nonneg, Nat.reduceLT, Nat.reduceLeDiff, Nat.reduceEqDiff, Nat.reduceSub, Nat.reduceMul, Int.reduceLT, Int.reduceLE, Int.reduceEq, Int.reduceAdd, Int.reduceSub, Int.reduceMul, Int.reduceNeg, Int.reducePow, List.length_map, List.length_range, eq_self, ne_eq, Classical.not_not, Bool.not_eq_true, Bool.not_eq_false, Bool.false_eq_true, reduceCtorEq, Int.toNat_natCast, Nat.add_eq, Nat.reduceAdd, Int.cast_ofNat_Int, Int.reduceToNat, Int.zero_add, Int.add_zero, Nat.zero_add, Nat.add_zero, Nat.sub_zero, Int.sub_zero, Int.natCast_zero, Int.natCast_one, Int.natCast_add, Int.natCast_succ, beq_self_eq_true, Bool.decide_eq_true, Bool.decide_eq_false, ↓vf0, ↓vm0, rf0, rm0, ↓qf0, ↓qm0, ↓zf0, ↓zm0, ↓im0, ss0, fi0, ↓vf1, ↓vm1, rf1, rm1, ↓qf1, ↓qm1, ↓zf1, ↓zm1, ↓im1, ss1, fi1, ↓vf2, ↓vm2, rf2, rm2, ↓qf2, ↓qm2, ↓zf2, ↓zm2, ↓im2, ss2, fi2, ↓vf3, ↓vm3, rf3, rm3, ↓qf3, ↓qm3, ↓zf3, ↓zm3, ↓im3, ss3, fi3, ↓vf4, ↓vm4, rf4, rm4, ↓qf4, ↓qm4, ↓zf4, ↓zm4, ↓im4, ss4, fi4, ↓vf5, ↓vm5, rf5, rm5, ↓qf5, ↓qm5, ↓zf5, ↓zm5, ↓im5, ss5, fi5, ↓vf6, ↓vm6, rf6, rm6, ↓qf6, ↓qm6, ↓zf6, ↓zm6, ↓im6, ss6, fi6, ↓vf7, ↓vm7, rf7, rm7, ↓qf7, ↓qm7, ↓zf7, ↓zm7, ↓im7, ss7, fi7, ↓vf8, ↓vm8, rf8, rm8, ↓qf8, ↓qm8, ↓zf8, ↓zm8, ↓im8, ss8, fi8, ↓vf9, ↓vm9, rf9, rm9, ↓qf9, ↓qm9, ↓zf9, ↓zm9, ↓im9, ss9, fi9, ↓vf10, ↓vm10, rf10, rm10, ↓qf10, ↓qm10, ↓zf10, ↓zm10, ↓im10, ss10, fi10]; (try simp only [T.bind_ret]); rfl) (by decide) rfl fun k hk => ⟨[.fro U, .fro (.int c.b), .fro (.lst p), .fro (.int c.few), .fro (.str c.ups), .fro (.str c.turns), .fro S, .fro (.str c.ups), .fro (.str c.turns), .un, .fro (.int (k : Int))], ?_, rfl⟩
      have q := List.all_eq_true.mp b8 k hk
      rw [Bool.and_eq_true, Bool.and_eq_true] at q
      obtain ⟨_, q1, q2⟩ := q
      have s1 := isP_eq q1
      have s2 := isP_eq q2
      unfold gnV
      by_cases z : c.ct.getD k "" = "X"
      · rw [decide_eq_true z] at s2
        rw [if_pos (decide_eq_true z)]
        refine t_eq ?_; simp -dsimp only [↓fBin_b, ↓fUn_b, ↓fBlT_b, ↓fAnd_b, ↓fIf_b, ↓lCons_b, ↓fTup_b, ↓fCall_b, ↓sSeq_b, ↓sRet_b, ↓sIf_b, ↓sSet_b, ↓iSeq_b, ↓iRange1_b, ↓fNew_b, ↓nLc_b, ↓fC_b, ↓lNil_b, ↓sNil_b, ↓fYes_b, ↓tgName_b, ↓tgNil_b, ↓tgCons_b, ↓tgTup_b, ↓lcRun_b, ↓frz_val, ↓lrs_val, ↓liftS_b, ↓liftN_b, ↓fMakeD_b, ↓seqOf_t_b, ↓seqOf_l_b, ↓lstOf_l_b, ↓intOf_i_b, ↓blOf_b_b, ↓tru_n_b, ↓tru_b_b, ↓tru_i_b, ↓tru_t_b, ↓tru_l_b, ↓pLen_t_b, ↓pLen_l_b, ↓pLen_s_b, ↓pTuple_t_b, ↓pTuple_l_b, ↓pAdd_i_b, ↓pSub_i_b, ↓atI_0_b, ↓atI_1_b, ↓atI_2_b, ↓atI_3_b, ↓lg0_b, ↓lg1_b, ↓lg2_b, ↓lg3_b, rs_val, outV_rt, outV_nx, backE_n, backE_u, wipeE_n, wipeE_u, froOf_f, froOf_u, seqOf_t, seqOf_l, lstOf_l, intOf_i, blOf_b, tru_n, tru_b, tru_i, tru_t, tru_l, pLen_t, pLen_l, pLen_s, pTuple_t, pTuple_l, pAdd_i, pSub_i, atI_0, atI_1, atI_2, atI_3, lg0, lg1, lg2, lg3, pIx_t, pIx_l, pAdd_t, pAdd_l, ↓keyOf1_ib, keyOf1_i, ↓T.bind_assoc, bind_ret', bind_bad', bind_exc', bind_draw', lift_some, lift_none', big, below62', below24', below64', below29', mul_ok, div_ok, mod_ok, addI, subI, addI, subI, ixN_nat, ↓lGive_b, ↓imt0, ↓imt1, ↓imt2, ↓imt3, List.length_cons, List.length_nil, List.map_cons, List.map_nil, List.append_nil, List.nil_append, List.cons_append, List.replicate_succ, List.replicate_zero, List.isEmpty_nil, List.isEmpty_cons, Option.map_some, Option.map_none, Option.bind_some, Option.bind_none, true_and, and_true, and_self, false_and, and_false, true_or, or_true, false_or, or_false, not_true_eq_false, not_false_eq_true, Bool.not_true, Bool.not_false, Bool.true_and, Bool.and_true, Bool.false_and, Bool.and_false, Bool.true_or, Bool.or_true, Bool.or_false, Bool.false_or, decide_true, decide_false, decide_eq_true_eq, decide_eq_false_iff_not, if_true, if_false, ite_true, ite_false, ↓reduceIte, Int.natCast_nonneg, Nat.reduceLT, Nat.reduceLeDiff, Nat.reduceEqDiff, Nat.reduceSub, Nat.reduceMul, Int.reduceLT, Int.reduceLE, Int.reduceEq, Int.reduceAdd, Int.reduceSub, Int.reduceMul, Int.reduceNeg, Int.reducePow, List.length_map, List.length_range, eq_self, ne_eq, Classical.not_not, Bool.not_eq_true, Bool.not_eq_false, Bool.false_eq_true, reduceCtorEq, Int.toNat_natCast, Nat.add_eq, Nat.reduceAdd, Int.cast_ofNat_Int, Int.reduceToNat, Int.zero_add, Int.add_zero, Nat.zero_add, Nat.add_zero, Nat.sub_zero, Int.sub_zero, Int.natCast_zero, Int.natCast_one, Int.natCast_add, Int.natCast_succ, beq_self_eq_true, Bool.decide_eq_true, Bool.decide_eq_false, ↓vf0, ↓vm0, rf0, rm0, ↓qf0, ↓qm0, ↓zf0, ↓zm0, ↓im0, ss0, fi0, ↓vf1, ↓vm1, rf1, rm1, ↓qf1, ↓qm1, ↓zf1, ↓zm1, ↓im1, ss1, fi1, ↓vf2, ↓vm2, rf2, rm2, ↓qf2, ↓qm2, ↓zf2, ↓zm2, ↓im2, ss2, fi2, ↓vf3, ↓vm3, rf3, rm3, ↓qf3, ↓qm3, ↓zf3, ↓zm3, ↓im3, ss3, fi3, ↓vf4, ↓vm4, rf4, rm4, ↓qf4, ↓qm4, ↓zf4, ↓zm4, ↓im4, ss4, fi4, ↓vf5, ↓vm5, rf5, rm5, ↓qf5, ↓qm5, ↓zf5, ↓zm5, ↓im5, ss5, fi5, ↓vf6, ↓vm6, rf6, rm6, ↓qf6, ↓qm6, ↓zf6, ↓zm6, ↓im6, ss6, fi6, ↓vf7, ↓vm7, rf7, rm7, ↓qf7, ↓qm7, ↓zf7, ↓zm7, ↓im7, ss7, fi7, ↓vf8, ↓vm8, rf8, rm8, ↓qf8, ↓qm8, ↓zf8, ↓zm8, ↓im8, ss8, fi8, ↓vf9, ↓vm9, rf9, rm9, ↓qf9, ↓qm9, ↓zf9, ↓zm9, ↓im9, ss9, fi9, ↓vf10, ↓vm10, rf10, rm10, ↓qf10, ↓qm10, ↓zf10, ↓zm10, ↓im10, ss10, fi10, s1, s2]; (try simp only [T.bind_ret])
      · rw [decide_eq_false z] at s2
        rw [if_neg (by rw [decide_eq_false z]; decide)]
        refine t_eq ?_; simp -dsimp only [↓fBin_b, ↓fUn_b, ↓fBlT_b, ↓fAnd_b, ↓fIf_b, ↓lCons_b, ↓fTup_b, ↓fCall_b, ↓sSeq_b, ↓sRet_b, ↓sIf_b, ↓sSet_b, ↓iSeq_b, ↓iRange1_b, ↓fNew_b, ↓nLc_b, ↓fC_b, ↓lNil_b, ↓sNil_b, ↓fYes_b, ↓tgName_b, ↓tgNil_b, ↓tgCons_b, ↓tgTup_b, ↓lcRun_b, ↓frz_val, ↓lrs_val, ↓liftS_b, ↓liftN_b, ↓fMakeD_b, ↓seqOf_t_b, ↓seqOf_l_b, ↓lstOf_l_b, ↓intOf_i_b, ↓blOf_b_b, ↓tru_n_b, ↓tru_b_b, ↓tru_i_b, ↓tru_t_b, ↓tru_l_b, ↓pLen_t_b, ↓pLen_l_b, ↓pLen_s_b, ↓pTuple_t_b, ↓pTuple_l_b, ↓pAdd_i_b, ↓pSub_i_b, ↓atI_0_b, ↓atI_1_b, ↓atI_2_b, ↓atI_3_b, ↓lg0_b, ↓lg1_b, ↓lg2_b, ↓lg3_b, rs_val, outV_rt, outV_nx, backE_n, backE_u, wipeE_n, wipeE_u, froOf_f, froOf_u, seqOf_t, seqOf_l, lstOf_l, intOf_i, blOf_b, tru_n, tru_b, tru_i, tru_t, tru_l, pLen_t, pLen_l, pLen_s, pTuple_t, pTuple_l, pAdd_i, pSub_i, atI_0, atI_1, atI_2, atI_3, lg0, lg1, lg2, lg3, pIx_t, pIx_l, pAdd_t, pAdd_l, ↓keyOf1_ib, keyOf1_i, ↓T.bind_assoc, bind_ret', bind_bad', bind_exc', bind_draw', lift_some, lift_none', big, below62', below24', below64', below29', mul_ok, div_ok, mod_ok, addI, subI, addI, subI, ixN_nat, ↓lGive_b, ↓imt0, ↓imt1, ↓imt2, ↓imt3, List.length_cons, List.length_nil, List.map_cons, List.map_nil, List.append_nil, List.nil_append, List.cons_append, List.replicate_succ, List.replicate_zero, List.isEmpty_nil, List.isEmpty_cons, Option.map_some, Option.map_none, Option.bind_some, Option.bind_none, true_and, and_true, and_self, false_and, and_false, true_or, or_true, false_or, or_false, not_true_eq_false, not_false_eq_true, Bool.not_true, Bool.not_false, Bool.true_and, Bool.and_true, Bool.false_and, Bool.and_false, Bool.true_or, Bool.or_true, Bool.or_false, Bool.false_or, decide_true, decide_false, decide_eq_true_eq, decide_eq_false_iff_not, if_true, if_false, ite_true, ite_false, ↓reduceIte, Int.natCast_nonneg, Nat.reduceLT, Nat.reduceLeDiff, Nat.reduceEqDiff, Nat.reduceSub, Nat.reduceMul, Int.reduceLT, Int.reduceLE, Int.reduceEq, Int.reduceAdd, Int.reduceSub, Int.reduceMul, Int.reduceNeg, Int.reducePow, List.length_map, List.length_range, eq_self, ne_eq, Classical.not_not, Bool.not_eq_true, Bool.not_eq_false, Bool.false_eq_true, reduceCtorEq, Int.toNat_natCast, Nat.add_eq, Nat.reduceAdd, Int.cast_ofNat_Int, Int.reduceToNat, Int.zero_add, Int.add_zero, Nat.zero_add, Nat.add_zero, Nat.sub_zero, Int.sub_zero, Int.natCast_zero, Int.natCast_one, Int.natCast_add, Int.natCast_succ, beq_self_eq_true, Bool.decide_eq_true, Bool.decide_eq_false, ↓vf0, ↓vm0, rf0, rm0, ↓qf0, ↓qm0, ↓zf0, ↓zm0, ↓im0, ss0, fi0, ↓vf1, ↓vm1, rf1, rm1, ↓qf1, ↓qm1, ↓zf1, ↓zm1, ↓im1, ss1, fi1, ↓vf2, ↓vm2, rf2, rm2, ↓qf2, ↓qm2, ↓zf2, ↓zm2, ↓im2, ss2, fi2, ↓vf3, ↓vm3, rf3, rm3, ↓qf3, ↓qm3, ↓zf3, ↓zm3, ↓im3, ss3, fi3, ↓vf4, ↓vm4, rf4, rm4, ↓qf4, ↓qm4, ↓zf4, ↓zm4, ↓im4, ss4, fi4, ↓vf5, ↓vm5, rf5, rm5, ↓qf5, ↓qm5, ↓zf5, ↓zm5, ↓im5, ss5, fi5, ↓vf6, ↓vm6, rf6, rm6, ↓qf6, ↓qm6, ↓zf6, ↓zm6, ↓im6, ss6, fi6, ↓vf7, ↓vm7, rf7, rm7, ↓qf7, ↓qm7, ↓zf7, ↓zm7, ↓im7, ss7, fi7, ↓vf8, ↓vm8, rf8, rm8, ↓qf8, ↓qm8, ↓zf8, ↓zm8, ↓im8, ss8, fi8, ↓vf9, ↓vm9, rf9, rm9, ↓qf9, ↓qm9, ↓zf9, ↓zm9, ↓im9, ss9, fi9, ↓vf10, ↓vm10, rf10, rm10, ↓qf10, ↓qm10, ↓zf10, ↓zm10, ↓im10, ss10, fi10, s1, s2]; (try simp only [T.bind_ret])
    have g8 : pEq (.tup ((goneD c).map gnV)) (.tup ((goneD c).map gnV)) = some (.bl true) := pEq_s (a := .tup ((goneD c).map gnV)) (List.all_eq_true.mpr fun x hx => by
      obtain ⟨y, _, rfl⟩ := List.mem_map.mp hx
      rfl)
    by_cases h9 : c.few = 9
    · rw [if_pos h9] at h5
      rw [decide_eq_true h9] at f1
      unfold f_law_case_right b_law_case_right; refine t_eq ?_; simp -dsimp only [fnOf, List.reduceReplicate, ↓fBin_b, ↓fUn_b, ↓fBlT_b, ↓fAnd_b, ↓fIf_b, ↓lCons_b, ↓fTup_b, ↓fCall_b, ↓sSeq_b, ↓sRet_b, ↓sIf_b, ↓sSet_b, ↓iSeq_b, ↓iRange1_b, ↓fNew_b, ↓nLc_b, ↓fC_b, ↓lNil_b, ↓sNil_b, ↓fYes_b, ↓tgName_b, ↓tgNil_b, ↓tgCons_b, ↓tgTup_b, ↓lcRun_b, ↓frz_val, ↓lrs_val, ↓liftS_b, ↓liftN_b, ↓fMakeD_b, ↓seqOf_t_b, ↓seqOf_l_b, ↓lstOf_l_b, ↓intOf_i_b, ↓blOf_b_b, ↓tru_n_b, ↓tru_b_b, ↓tru_i_b, ↓tru_t_b, ↓tru_l_b, ↓pLen_t_b, ↓pLen_l_b, ↓pLen_s_b, ↓pTuple_t_b, ↓pTuple_l_b, ↓pAdd_i_b, ↓pSub_i_b, ↓atI_0_b, ↓atI_1_b, ↓atI_2_b, ↓atI_3_b, ↓lg0_b, ↓lg1_b, ↓lg2_b, ↓lg3_b, rs_val, outV_rt, outV_nx, backE_n, backE_u, wipeE_n, wipeE_u, froOf_f, froOf_u, seqOf_t, seqOf_l, lstOf_l, intOf_i, blOf_b, tru_n, tru_b, tru_i, tru_t, tru_l, pLen_t, pLen_l, pLen_s, pTuple_t, pTuple_l, pAdd_i, pSub_i, atI_0, atI_1, atI_2, atI_3, lg0, lg1, lg2, lg3, pIx_t, pIx_l, pAdd_t, pAdd_l, ↓keyOf1_ib, keyOf1_i, ↓T.bind_assoc, bind_ret', bind_bad', bind_exc', bind_draw', lift_some, lift_none', big, below62', below24', below64', below29', mul_ok, div_ok, mod_ok, addI, subI, addI, subI, ixN_nat, ↓lGive_b, ↓imt0, ↓imt1, ↓imt2, ↓imt3, List.length_cons, List.length_nil, List.map_cons, List.map_nil, List.append_nil, List.nil_append, List.cons_append, List.replicate_succ, List.replicate_zero, List.isEmpty_nil, List.isEmpty_cons, Option.map_some, Option.map_none, Option.bind_some, Option.bind_none, true_and, and_true, and_self, false_and, and_false, true_or, or_true, false_or, or_false, not_true_eq_false, not_false_eq_true, Bool.not_true, Bool.not_false, Bool.true_and, Bool.and_true, Bool.false_and, Bool.and_false, Bool.true_or, Bool.or_true, Bool.or_false, Bool.false_or, decide_true, decide_false, decide_eq_true_eq, decide_eq_false_iff_not, if_true, if_false, ite_true, ite_false, ↓reduceIte, Int.natCast_nonneg, Nat.reduceLT, Nat.reduceLeDiff, Nat.reduceEqDiff, Nat.reduceSub, Nat.reduceMul, Int.reduceLT, Int.reduceLE, Int.reduceEq, Int.reduceAdd, Int.reduceSub, Int.reduceMul, Int.reduceNeg, Int.reducePow, List.length_map, List.length_range, eq_self, ne_eq, Classical.not_not, Bool.not_eq_true, Bool.not_eq_false, Bool.false_eq_true, reduceCtorEq, Int.toNat_natCast, Nat.add_eq, Nat.reduceAdd, Int.cast_ofNat_Int, Int.reduceToNat, Int.zero_add, Int.add_zero, Nat.zero_add, Nat.add_zero, Nat.sub_zero, Int.sub_zero, Int.natCast_zero, Int.natCast_one, Int.natCast_add, Int.natCast_succ, beq_self_eq_true, Bool.decide_eq_true, Bool.decide_eq_false, ↓vf0, ↓vm0, rf0, rm0, ↓qf0, ↓qm0, ↓zf0, ↓zm0, ↓im0, ss0, fi0, ↓vf1, ↓vm1, rf1, rm1, ↓qf1, ↓qm1, ↓zf1, ↓zm1, ↓im1, ss1, fi1, ↓vf2, ↓vm2, rf2, rm2, ↓qf2, ↓qm2, ↓zf2, ↓zm2, ↓im2, ss2, fi2, ↓vf3, ↓vm3, rf3, rm3, ↓qf3, ↓qm3, ↓zf3, ↓zm3, ↓im3, ss3, fi3, ↓vf4, ↓vm4, rf4, rm4, ↓qf4, ↓qm4, ↓zf4, ↓zm4, ↓im4, ss4, fi4, ↓vf5, ↓vm5, rf5, rm5, ↓qf5, ↓qm5, ↓zf5, ↓zm5, ↓im5, ss5, fi5, ↓vf6, ↓vm6, rf6, rm6, ↓qf6, ↓qm6, ↓zf6, ↓zm6, ↓im6, ss6, fi6, ↓vf7, ↓vm7, rf7, rm7, ↓qf7, ↓qm7, ↓zf7, ↓zm7, ↓im7, ss7, fi7, ↓vf8, ↓vm8, rf8, rm8, ↓qf8, ↓qm8, ↓zf8, ↓zm8, ↓im8, ss8, fi8, ↓vf9, ↓vm9, rf9, rm9, ↓qf9, ↓qm9, ↓zf9, ↓zm9, ↓im9, ss9, fi9, ↓vf10, ↓vm10, rf10, rm10, ↓qf10, ↓qm10, ↓zf10, ↓zm10, ↓im10, ss10, fi10, S1t0_law_case_right, U1t0_law_case_right, S2t0_law_case_right, U2t0_law_case_right, S3t0_law_case_right, U3t0_law_case_right, S0_law_case_right, S1_law_case_right, S2_law_case_right, S3_law_case_right, S4_law_case_right, S5_law_case_right, S6_law_case_right, S7_law_case_right, U7_law_case_right, U6_law_case_right, U5_law_case_right, U4_law_case_right, U3_law_case_right, U2_law_case_right, U1_law_case_right, U0_law_case_right, hS, hl, f1, h5, hpo, h6, h7, h8, c0, c1, c2, g1, g2, g3, g4, g5, g6, g7, g8, hs1]
    · rw [if_neg h9] at h5
      rw [decide_eq_false h9] at f1
      unfold f_law_case_right b_law_case_right; refine t_eq ?_; simp -dsimp only [fnOf, List.reduceReplicate, ↓fBin_b, ↓fUn_b, ↓fBlT_b, ↓fAnd_b, ↓fIf_b, ↓lCons_b, ↓fTup_b, ↓fCall_b, ↓sSeq_b, ↓sRet_b, ↓sIf_b, ↓sSet_b, ↓iSeq_b, ↓iRange1_b, ↓fNew_b, ↓nLc_b, ↓fC_b, ↓lNil_b, ↓sNil_b, ↓fYes_b, ↓tgName_b, ↓tgNil_b, ↓tgCons_b, ↓tgTup_b, ↓lcRun_b, ↓frz_val, ↓lrs_val, ↓liftS_b, ↓liftN_b, ↓fMakeD_b, ↓seqOf_t_b, ↓seqOf_l_b, ↓lstOf_l_b, ↓intOf_i_b, ↓blOf_b_b, ↓tru_n_b, ↓tru_b_b, ↓tru_i_b, ↓tru_t_b, ↓tru_l_b, ↓pLen_t_b, ↓pLen_l_b, ↓pLen_s_b, ↓pTuple_t_b, ↓pTuple_l_b, ↓pAdd_i_b, ↓pSub_i_b, ↓atI_0_b, ↓atI_1_b, ↓atI_2_b, ↓atI_3_b, ↓lg0_b, ↓lg1_b, ↓lg2_b, ↓lg3_b, rs_val, outV_rt, outV_nx, backE_n, backE_u, wipeE_n, wipeE_u, froOf_f, froOf_u, seqOf_t, seqOf_l, lstOf_l, intOf_i, blOf_b, tru_n, tru_b, tru_i, tru_t, tru_l, pLen_t, pLen_l, pLen_s, pTuple_t, pTuple_l, pAdd_i, pSub_i, atI_0, atI_1, atI_2, atI_3, lg0, lg1, lg2, lg3, pIx_t, pIx_l, pAdd_t, pAdd_l, ↓keyOf1_ib, keyOf1_i, ↓T.bind_assoc, bind_ret', bind_bad', bind_exc', bind_draw', lift_some, lift_none', big, below62', below24', below64', below29', mul_ok, div_ok, mod_ok, addI, subI, addI, subI, ixN_nat, ↓lGive_b, ↓imt0, ↓imt1, ↓imt2, ↓imt3, List.length_cons, List.length_nil, List.map_cons, List.map_nil, List.append_nil, List.nil_append, List.cons_append, List.replicate_succ, List.replicate_zero, List.isEmpty_nil, List.isEmpty_cons, Option.map_some, Option.map_none, Option.bind_some, Option.bind_none, true_and, and_true, and_self, false_and, and_false, true_or, or_true, false_or, or_false, not_true_eq_false, not_false_eq_true, Bool.not_true, Bool.not_false, Bool.true_and, Bool.and_true, Bool.false_and, Bool.and_false, Bool.true_or, Bool.or_true, Bool.or_false, Bool.false_or, decide_true, decide_false, decide_eq_true_eq, decide_eq_false_iff_not, if_true, if_false, ite_true, ite_false, ↓reduceIte, Int.natCast_nonneg, Nat.reduceLT, Nat.reduceLeDiff, Nat.reduceEqDiff, Nat.reduceSub, Nat.reduceMul, Int.reduceLT, Int.reduceLE, Int.reduceEq, Int.reduceAdd, Int.reduceSub, Int.reduceMul, Int.reduceNeg, Int.reducePow, List.length_map, List.length_range, eq_self, ne_eq, Classical.not_not, Bool.not_eq_true, Bool.not_eq_false, Bool.false_eq_true, reduceCtorEq, Int.toNat_natCast, Nat.add_eq, Nat.reduceAdd, Int.cast_ofNat_Int, Int.reduceToNat, Int.zero_add, Int.add_zero, Nat.zero_add, Nat.add_zero, Nat.sub_zero, Int.sub_zero, Int.natCast_zero, Int.natCast_one, Int.natCast_add, Int.natCast_succ, beq_self_eq_true, Bool.decide_eq_true, Bool.decide_eq_false, ↓vf0, ↓vm0, rf0, rm0, ↓qf0, ↓qm0, ↓zf0, ↓zm0, ↓im0, ss0, fi0, ↓vf1, ↓vm1, rf1, rm1, ↓qf1, ↓qm1, ↓zf1, ↓zm1, ↓im1, ss1, fi1, ↓vf2, ↓vm2, rf2, rm2, ↓qf2, ↓qm2, ↓zf2, ↓zm2, ↓im2, ss2, fi2, ↓vf3, ↓vm3, rf3, rm3, ↓qf3, ↓qm3, ↓zf3, ↓zm3, ↓im3, ss3, fi3, ↓vf4, ↓vm4, rf4, rm4, ↓qf4, ↓qm4, ↓zf4, ↓zm4, ↓im4, ss4, fi4, ↓vf5, ↓vm5, rf5, rm5, ↓qf5, ↓qm5, ↓zf5, ↓zm5, ↓im5, ss5, fi5, ↓vf6, ↓vm6, rf6, rm6, ↓qf6, ↓qm6, ↓zf6, ↓zm6, ↓im6, ss6, fi6, ↓vf7, ↓vm7, rf7, rm7, ↓qf7, ↓qm7, ↓zf7, ↓zm7, ↓im7, ss7, fi7, ↓vf8, ↓vm8, rf8, rm8, ↓qf8, ↓qm8, ↓zf8, ↓zm8, ↓im8, ss8, fi8, ↓vf9, ↓vm9, rf9, rm9, ↓qf9, ↓qm9, ↓zf9, ↓zm9, ↓im9, ss9, fi9, ↓vf10, ↓vm10, rf10, rm10, ↓qf10, ↓qm10, ↓zf10, ↓zm10, ↓im10, ss10, fi10, S1t0_law_case_right, U1t0_law_case_right, S2t0_law_case_right, U2t0_law_case_right, S3t0_law_case_right, U3t0_law_case_right, S0_law_case_right, S1_law_case_right, S2_law_case_right, S3_law_case_right, S4_law_case_right, S5_law_case_right, S6_law_case_right, S7_law_case_right, U7_law_case_right, U6_law_case_right, U5_law_case_right, U4_law_case_right, U3_law_case_right, U2_law_case_right, U1_law_case_right, U0_law_case_right, hS, hl, f1, h5, hpo, h6, h7, h8, c0, c1, c2, g1, g2, g3, g4, g5, g6, g7, g8, hs1]
end K30
set_option Elab.async false
set_option linter.all false
set_option maxRecDepth 100000
set_option maxHeartbeats 0
namespace K30
open PySem PySem.Spec PyProof.Rows L2 Dn
theorem sS0 : chkS cs0 = true := by decide +kernel
theorem sS1 : chkS cs1 = true := by decide +kernel
theorem sS2 : chkS cs2 = true := by decide +kernel
theorem sS3 : chkS cs3 = true := by decide +kernel
theorem sS4 : chkS cs4 = true := by decide +kernel
theorem sS5 : chkS cs5 = true := by decide +kernel
theorem sS6 : chkS cs6 = true := by decide +kernel
theorem sS7 : chkS cs7 = true := by decide +kernel
theorem sS8 : chkS cs8 = true := by decide +kernel
theorem sS9 : chkS cs9 = true := by decide +kernel
theorem sS10 : chkS cs10 = true := by decide +kernel
theorem sS11 : chkS cs11 = true := by decide +kernel
theorem chk_S : CSS.all chkS = true := by
  unfold CSS
  simp only [List.all_cons, List.all_nil, sS0, sS1, sS2, sS3, sS4, sS5, sS6, sS7, sS8, sS9, sS10, sS11, Bool.and_true]
end K30
set_option Elab.async false
set_option linter.all false
set_option maxRecDepth 100000
set_option maxHeartbeats 0
namespace K30
open PySem PySem.Spec PyProof.Rows L2 Dn
theorem tT0_0 : T1 cs0 0 = true := by decide +kernel
theorem tT0_1 : T1 cs0 1 = true := by decide +kernel
theorem tT0_2 : T1 cs0 2 = true := by decide +kernel
theorem tT0_3 : T1 cs0 3 = true := by decide +kernel
theorem tT0_4 : T1 cs0 4 = true := by decide +kernel
theorem tT0_5 : T1 cs0 5 = true := by decide +kernel
theorem tT0 : chkT cs0 = true := by
  unfold chkT
  rw [tT0_0, tT0_1, tT0_2, tT0_3, tT0_4, tT0_5]
  rfl
theorem tT1_0 : T1 cs1 0 = true := by decide +kernel
theorem tT1_1 : T1 cs1 1 = true := by decide +kernel
theorem tT1_2 : T1 cs1 2 = true := by decide +kernel
theorem tT1_3 : T1 cs1 3 = true := by decide +kernel
theorem tT1_4 : T1 cs1 4 = true := by decide +kernel
theorem tT1_5 : T1 cs1 5 = true := by decide +kernel
theorem tT1 : chkT cs1 = true := by
  unfold chkT
  rw [tT1_0, tT1_1, tT1_2, tT1_3, tT1_4, tT1_5]
  rfl
theorem tT2_0 : T1 cs2 0 = true := by decide +kernel
theorem tT2_1 : T1 cs2 1 = true := by decide +kernel
theorem tT2_2 : T1 cs2 2 = true := by decide +kernel
theorem tT2_3 : T1 cs2 3 = true := by decide +kernel
theorem tT2_4 : T1 cs2 4 = true := by decide +kernel
theorem tT2_5 : T1 cs2 5 = true := by decide +kernel
theorem tT2 : chkT cs2 = true := by
  unfold chkT
  rw [tT2_0, tT2_1, tT2_2, tT2_3, tT2_4, tT2_5]
  rfl
theorem tT3_0 : T1 cs3 0 = true := by decide +kernel
theorem tT3_1 : T1 cs3 1 = true := by decide +kernel
theorem tT3_2 : T1 cs3 2 = true := by decide +kernel
theorem tT3_3 : T1 cs3 3 = true := by decide +kernel
theorem tT3_4 : T1 cs3 4 = true := by decide +kernel
theorem tT3_5 : T1 cs3 5 = true := by decide +kernel
theorem tT3 : chkT cs3 = true := by
  unfold chkT
  rw [tT3_0, tT3_1, tT3_2, tT3_3, tT3_4, tT3_5]
  rfl
theorem tT4_0 : T1 cs4 0 = true := by decide +kernel
theorem tT4_1 : T1 cs4 1 = true := by decide +kernel
theorem tT4_2 : T1 cs4 2 = true := by decide +kernel
theorem tT4_3 : T1 cs4 3 = true := by decide +kernel
theorem tT4_4 : T1 cs4 4 = true := by decide +kernel
theorem tT4_5 : T1 cs4 5 = true := by decide +kernel
theorem tT4 : chkT cs4 = true := by
  unfold chkT
  rw [tT4_0, tT4_1, tT4_2, tT4_3, tT4_4, tT4_5]
  rfl
theorem tT5_0 : T1 cs5 0 = true := by decide +kernel
theorem tT5_1 : T1 cs5 1 = true := by decide +kernel
theorem tT5_2 : T1 cs5 2 = true := by decide +kernel
theorem tT5_3 : T1 cs5 3 = true := by decide +kernel
theorem tT5_4 : T1 cs5 4 = true := by decide +kernel
theorem tT5_5 : T1 cs5 5 = true := by decide +kernel
theorem tT5 : chkT cs5 = true := by
  unfold chkT
  rw [tT5_0, tT5_1, tT5_2, tT5_3, tT5_4, tT5_5]
  rfl
theorem tT6_0 : T1 cs6 0 = true := by decide +kernel
theorem tT6_1 : T1 cs6 1 = true := by decide +kernel
theorem tT6_2 : T1 cs6 2 = true := by decide +kernel
theorem tT6_3 : T1 cs6 3 = true := by decide +kernel
theorem tT6_4 : T1 cs6 4 = true := by decide +kernel
theorem tT6_5 : T1 cs6 5 = true := by decide +kernel
theorem tT6 : chkT cs6 = true := by
  unfold chkT
  rw [tT6_0, tT6_1, tT6_2, tT6_3, tT6_4, tT6_5]
  rfl
theorem tT7_0 : T1 cs7 0 = true := by decide +kernel
theorem tT7_1 : T1 cs7 1 = true := by decide +kernel
theorem tT7_2 : T1 cs7 2 = true := by decide +kernel
theorem tT7_3 : T1 cs7 3 = true := by decide +kernel
theorem tT7_4 : T1 cs7 4 = true := by decide +kernel
theorem tT7_5 : T1 cs7 5 = true := by decide +kernel
theorem tT7 : chkT cs7 = true := by
  unfold chkT
  rw [tT7_0, tT7_1, tT7_2, tT7_3, tT7_4, tT7_5]
  rfl
theorem tT8_0 : T1 cs8 0 = true := by decide +kernel
theorem tT8_1 : T1 cs8 1 = true := by decide +kernel
theorem tT8_2 : T1 cs8 2 = true := by decide +kernel
theorem tT8_3 : T1 cs8 3 = true := by decide +kernel
theorem tT8_4 : T1 cs8 4 = true := by decide +kernel
theorem tT8_5 : T1 cs8 5 = true := by decide +kernel
theorem tT8 : chkT cs8 = true := by
  unfold chkT
  rw [tT8_0, tT8_1, tT8_2, tT8_3, tT8_4, tT8_5]
  rfl
theorem tT9 : chkT cs9 = true := by decide +kernel
theorem tT10 : chkT cs10 = true := by decide +kernel
theorem tT11_0 : T1 cs11 0 = true := by decide +kernel
theorem tT11_1 : T1 cs11 1 = true := by decide +kernel
theorem tT11_2 : T1 cs11 2 = true := by decide +kernel
theorem tT11_3 : T1 cs11 3 = true := by decide +kernel
theorem tT11_4 : T1 cs11 4 = true := by decide +kernel
theorem tT11_5 : T1 cs11 5 = true := by decide +kernel
theorem tT11 : chkT cs11 = true := by
  unfold chkT
  rw [tT11_0, tT11_1, tT11_2, tT11_3, tT11_4, tT11_5]
  rfl
theorem chk_T : CSS.all chkT = true := by
  unfold CSS
  simp only [List.all_cons, List.all_nil, tT0, tT1, tT2, tT3, tT4, tT5, tT6, tT7, tT8, tT9, tT10, tT11, Bool.and_true]
end K30
set_option Elab.async false
set_option linter.all false
set_option maxRecDepth 100000
set_option maxHeartbeats 0
namespace K30
open PySem PySem.Spec PyProof.Rows L2 Dn
def Fz (s : Dn.Slot) : Prop := froOf (some s) = s
theorem law30 (U : AV) (L : List AV) (u : f_Rota [.int 1, .lst [.tup [.tup [.int 0], .tup [.int 0]]]] = .ret U) (cs : f_law_cases [] = .ret (.lst L)) (dL : L.all (dat 11) = true) (lL : L.length < 1000)
    (step : ∀ c ∈ L, ∃ b ls few ups turns many S k, c = .tup [b, .lst ls, few, ups, turns, many] ∧ (∀ p : List AV, p.Perm ls → f_law_case_right [U, b, .lst p, few, ups, turns] = .ret (.bl true)) ∧ ls.all (dat 11) = true ∧ ls.length < 1000 ∧
      f_Season [U, .int 6, b, .lst ls] = .ret S ∧ f_count [S] = .ret k ∧ pNe k many = some (.bl false)) (ns : List Int) (hn : ns.length ≤ 63) : (f_law [.scr ns]).Al (fun t => t = .bl true) NoX := by
  refine aFnQ rfl ?_
  show (K0_law [.fro (.scr ns), .un, .un, .un, .un, .un, .un, .un, .un]).Al _ _
  have bx := law_deal_all ns hn 0 (by decide) (by decide)
  (simp only [U2f0t0_law, U2f1t0_law, U2f1_law, U2f0_law, U3_law, U2_law, U1_law, U0_law, al_seq, nx_nx, lq_nx]; refine al_rd _ (by (simp -dsimp only [↓fBin_b, ↓fTru_b, ↓fBlT_b, ↓fNotT_b, ↓lCons_b, ↓fTup_b, ↓fCall_b, ↓sSeq_b, ↓sRet_b, ↓sIf_b, ↓sSet_b, ↓iSeq_b, ↓sFor_b, ↓fNew_b, ↓nLst_b, ↓fMake_b, ↓fC_b, ↓lNil_b, ↓sNil_b, ↓fYes_b, ↓tgName_b, ↓tgNil_b, ↓tgCons_b, ↓tgTup_b, ↓lcRun_b, ↓frz_val, ↓lrs_val, ↓liftS_b, ↓liftN_b, ↓fMakeD_b, ↓seqOf_t_b, ↓seqOf_l_b, ↓lstOf_l_b, ↓intOf_i_b, ↓blOf_b_b, ↓tru_n_b, ↓tru_b_b, ↓tru_i_b, ↓tru_t_b, ↓tru_l_b, ↓pLen_t_b, ↓pLen_l_b, ↓pLen_s_b, ↓pAdd_i_b, ↓atI_0_b, ↓atI_1_b, ↓atI_2_b, ↓atI_3_b, ↓lg0_b, ↓lg1_b, ↓lg2_b, ↓lg3_b, rs_val, outV_rt, outV_nx, backE_n, backE_u, wipeE_n, wipeE_u, froOf_f, froOf_u, seqOf_t, seqOf_l, lstOf_l, intOf_i, blOf_b, tru_n, tru_b, tru_i, tru_t, tru_l, pLen_t, pLen_l, pLen_s, pAdd_i, atI_0, atI_1, atI_2, atI_3, lg0, lg1, lg2, lg3, pIx_t, pIx_l, pAdd_t, pAdd_l, ↓keyOf1_ib, keyOf1_i, ↓T.bind_assoc, bind_ret', bind_bad', bind_exc', bind_draw', lift_some, lift_none', big, below62', below24', below64', below29', mul_ok, div_ok, mod_ok, addI, subI, addI, subI, ixN_nat, ↓lGive_b, ↓imt0, ↓imt1, ↓imt2, ↓imt3, List.length_cons, List.length_nil, List.map_cons, List.map_nil, List.append_nil, List.nil_append, List.cons_append, List.replicate_succ, List.replicate_zero, List.isEmpty_nil, List.isEmpty_cons, Option.map_some, Option.map_none, Option.bind_some, Option.bind_none, true_and, and_true, and_self, false_and, and_false, true_or, or_true, false_or, or_false, not_true_eq_false, not_false_eq_true, Bool.not_true, Bool.not_false, Bool.true_and, Bool.and_true, Bool.false_and, Bool.and_false, Bool.true_or, Bool.or_true, Bool.or_false, Bool.false_or, decide_true, decide_false, decide_eq_true_eq, decide_eq_false_iff_not, if_true, if_false, ite_true, ite_false, ↓reduceIte, Int.natCast_nonneg, Nat.reduceLT, Nat.reduceLeDiff, Nat.reduceEqDiff, Nat.reduceSub, Nat.reduceMul, Int.reduceLT, Int.reduceLE, Int.reduceEq, Int.reduceAdd, Int.reduceSub, Int.reduceMul, Int.reduceNeg, Int.reducePow, List.length_map, List.length_range, eq_self, ne_eq, Classical.not_not, Bool.not_eq_true, Bool.not_eq_false, Bool.false_eq_true, reduceCtorEq, Int.toNat_natCast, Nat.add_eq, Nat.reduceAdd, Int.cast_ofNat_Int, Int.reduceToNat, Int.zero_add, Int.add_zero, Nat.zero_add, Nat.add_zero, Nat.sub_zero, Int.sub_zero, Int.natCast_zero, Int.natCast_one, Int.natCast_add, Int.natCast_succ, beq_self_eq_true, Bool.decide_eq_true, Bool.decide_eq_false, ↓vf0, ↓vm0, rf0, rm0, ↓qf0, ↓qm0, ↓zf0, ↓zm0, ↓im0, ss0, fi0, ↓vf1, ↓vm1, rf1, rm1, ↓qf1, ↓qm1, ↓zf1, ↓zm1, ↓im1, ss1, fi1, ↓vf2, ↓vm2, rf2, rm2, ↓qf2, ↓qm2, ↓zf2, ↓zm2, ↓im2, ss2, fi2, ↓vf3, ↓vm3, rf3, rm3, ↓qf3, ↓qm3, ↓zf3, ↓zm3, ↓im3, ss3, fi3, ↓vf4, ↓vm4, rf4, rm4, ↓qf4, ↓qm4, ↓zf4, ↓zm4, ↓im4, ss4, fi4, ↓vf5, ↓vm5, rf5, rm5, ↓qf5, ↓qm5, ↓zf5, ↓zm5, ↓im5, ss5, fi5, ↓vf6, ↓vm6, rf6, rm6, ↓qf6, ↓qm6, ↓zf6, ↓zm6, ↓im6, ss6, fi6, ↓vf7, ↓vm7, rf7, rm7, ↓qf7, ↓qm7, ↓zf7, ↓zm7, ↓im7, ss7, fi7, ↓vf8, ↓vm8, rf8, rm8, ↓qf8, ↓qm8, ↓zf8, ↓zm8, ↓im8, ss8, fi8, S2f0t0_law, S2f1t0_law, S2f0_law, S2f1_law, S0_law, S1_law, S2_law, S3_law, U2f0t0_law, U2f1t0_law, U2f1_law, U2f0_law, U3_law, U2_law, U1_law, U0_law]); (try simp only [T.bind_ret]); exact rfl) ?_); (try (with_reducible refine al_nx ?_))
  refine al_by bx fun t ht => ?_
  subst ht
  (try refine al_rd _ (by (simp -dsimp only [↓fBin_b, ↓fUn_b, ↓fTru_b, ↓fBlT_b, ↓fNotT_b, ↓fOrT_b, ↓fAnd_b, ↓fNot_b, ↓fIf_b, ↓fChain_b, ↓lCons_b, ↓fTup_b, ↓fSl_b, ↓fCall_b, ↓fMeth_b, ↓sSeq_b, ↓sExpr_b, ↓sRet_b, ↓sIf_b, ↓sSet_b, ↓sAsg_b, ↓iSeq_b, ↓iRange1_b, ↓sFor_b, ↓fNew_b, ↓sSetN_b, ↓nLst_b, ↓nList_b, ↓fAppend_b, ↓fPopAt_b, ↓nLc_b, ↓sPar_b, ↓sParN_b, ↓sFldSet_b, ↓fMake_b, ↓Dn.iEnum_b, ↓nLc2_b, ↓fC_b, ↓lNil_b, ↓sNil_b, ↓sBad_b, ↓fYes_b, ↓tgName_b, ↓tgNil_b, ↓tgCons_b, ↓tgTup_b, ↓lcRun_b, ↓fPart_n, ↓fPart_s, ↓frz_val, ↓lrs_val, ↓liftS_b, ↓liftN_b, ↓sMix_b, ↓mF_b, ↓mN_b, ↓mNil_b, ↓sRetDeal_b, ↓fMakeD_b, ↓seqOf_t_b, ↓seqOf_l_b, ↓lstOf_l_b, ↓intOf_i_b, ↓blOf_b_b, ↓tru_n_b, ↓tru_b_b, ↓tru_i_b, ↓tru_t_b, ↓tru_l_b, ↓pLen_t_b, ↓pLen_l_b, ↓pLen_s_b, ↓pInt_i_b, ↓pInt_b_b, ↓pAbs_i_b, ↓pTuple_t_b, ↓pTuple_l_b, ↓pAdd_i_b, ↓pSub_i_b, ↓pLt_i_b, ↓pLe_i_b, ↓pGt_i_b, ↓pGe_i_b, ↓pMax2_i_b, ↓pMin2_i_b, ↓pIs_nn_b, ↓pIs_in_b, ↓pIs_tn_b, ↓pIs_ln_b, ↓pIs_bn_b, ↓pIs_bb_b, ↓pNotIs_nn_b, ↓pNotIs_in_b, ↓pNotIs_tn_b, ↓pNotIs_ln_b, ↓pNotIs_bn_b, ↓pNotIs_bb_b, ↓pCut_t_b, ↓pCut_l_b, ↓atI_0_b, ↓atI_1_b, ↓atI_2_b, ↓atI_3_b, ↓lg0_b, ↓lg1_b, ↓lg2_b, ↓lg3_b, ↓isi_bl_int_b, ↓isi_bl_bool_b, ↓isi_bl_tuple_b, ↓isi2_bl_b, ↓isi_int_int_b, ↓isi_int_bool_b, ↓isi_int_tuple_b, ↓isi2_int_b, ↓isi_str_int_b, ↓isi_str_bool_b, ↓isi_str_tuple_b, ↓isi2_str_b, ↓isi_tup_int_b, ↓isi_tup_bool_b, ↓isi_tup_tuple_b, ↓isi2_tup_b, ↓isi_lst_int_b, ↓isi_lst_bool_b, ↓isi_lst_tuple_b, ↓isi2_lst_b, rs_val, outV_rt, outV_nx, backE_n, backE_u, wipeE_n, wipeE_u, froOf_f, froOf_u, setM_nil, setM_fr, setM_nl, seqOf_t, seqOf_l, lstOf_l, intOf_i, blOf_b, tru_n, tru_b, tru_i, tru_t, tru_l, pLen_t, pLen_l, pLen_s, pInt_i, pInt_b, pAbs_i, pTuple_t, pTuple_l, pAdd_i, pSub_i, pLt_i, pLe_i, pGt_i, pGe_i, pMax2_i, pMin2_i, pIs_nn, pIs_in, pIs_tn, pIs_ln, pIs_bn, pIs_bb, pNotIs_nn, pNotIs_in, pNotIs_tn, pNotIs_ln, pNotIs_bn, pNotIs_bb, pCut_t, pCut_l, atI_0, atI_1, atI_2, atI_3, lg0, lg1, lg2, lg3, isi_bl_int, isi_bl_bool, isi_bl_tuple, isi2_bl, isi_int_int, isi_int_bool, isi_int_tuple, isi2_int, isi_str_int, isi_str_bool, isi_str_tuple, isi2_str, isi_tup_int, isi_tup_bool, isi_tup_tuple, isi2_tup, isi_lst_int, isi_lst_bool, isi_lst_tuple, isi2_lst, pIx_t, pIx_l, pFld_i, pAdd_t, pAdd_l, ↓lenK_b, ↓iRange3_b, ↓keyOf1_ib, keyOf1_i, ↓T.bind_assoc, bind_ret', bind_bad', bind_exc', bind_draw', lift_some, lift_none', big, below62', below24', below64', below29', mul_ok, div_ok, mod_ok, ↓sAugI_b, addI, subI, ↓nRep_b, ↓sAugIx_b, addI, subI, ixN_nat, ↓sDputT_b, ↓lGive_b, ↓mD_b, setM_nd, ↓imt0, ↓imt1, ↓imt2, ↓imt3, List.length_cons, List.length_nil, List.map_cons, List.map_nil, List.append_nil, List.nil_append, List.cons_append, List.replicate_succ, List.replicate_zero, List.isEmpty_nil, List.isEmpty_cons, Option.map_some, Option.map_none, Option.bind_some, Option.bind_none, true_and, and_true, and_self, false_and, and_false, true_or, or_true, false_or, or_false, not_true_eq_false, not_false_eq_true, Bool.not_true, Bool.not_false, Bool.true_and, Bool.and_true, Bool.false_and, Bool.and_false, Bool.true_or, Bool.or_true, Bool.or_false, Bool.false_or, decide_true, decide_false, decide_eq_true_eq, decide_eq_false_iff_not, if_true, if_false, ite_true, ite_false, ↓reduceIte, Int.natCast_nonneg, Nat.reduceLT, Nat.reduceLeDiff, Nat.reduceEqDiff, Nat.reduceSub, Nat.reduceMul, Int.reduceLT, Int.reduceLE, Int.reduceEq, Int.reduceAdd, Int.reduceSub, Int.reduceMul, Int.reduceNeg, Int.reducePow, List.length_map, List.length_range, eq_self, ne_eq, Classical.not_not, Bool.not_eq_true, Bool.not_eq_false, Bool.false_eq_true, reduceCtorEq, Int.toNat_natCast, Nat.add_eq, Nat.reduceAdd, Int.cast_ofNat_Int, Int.reduceToNat, Int.zero_add, Int.add_zero, Nat.zero_add, Nat.add_zero, Nat.sub_zero, Int.sub_zero, Int.natCast_zero, Int.natCast_one, Int.natCast_add, Int.natCast_succ, beq_self_eq_true, Bool.decide_eq_true, Bool.decide_eq_false, ↓vf0, ↓vm0, rf0, rm0, ↓qf0, ↓qm0, ↓zf0, ↓zm0, ↓im0, ss0, ↓imd0, fi0, ↓vf1, ↓vm1, rf1, rm1, ↓qf1, ↓qm1, ↓zf1, ↓zm1, ↓im1, ss1, ↓imd1, fi1, ↓vf2, ↓vm2, rf2, rm2, ↓qf2, ↓qm2, ↓zf2, ↓zm2, ↓im2, ss2, ↓imd2, fi2, ↓vf3, ↓vm3, rf3, rm3, ↓qf3, ↓qm3, ↓zf3, ↓zm3, ↓im3, ss3, ↓imd3, fi3, ↓vf4, ↓vm4, rf4, rm4, ↓qf4, ↓qm4, ↓zf4, ↓zm4, ↓im4, ss4, ↓imd4, fi4, ↓vf5, ↓vm5, rf5, rm5, ↓qf5, ↓qm5, ↓zf5, ↓zm5, ↓im5, ss5, ↓imd5, fi5, ↓vf6, ↓vm6, rf6, rm6, ↓qf6, ↓qm6, ↓zf6, ↓zm6, ↓im6, ss6, ↓imd6, fi6, ↓vf7, ↓vm7, rf7, rm7, ↓qf7, ↓qm7, ↓zf7, ↓zm7, ↓im7, ss7, ↓imd7, fi7, ↓vf8, ↓vm8, rf8, rm8, ↓qf8, ↓qm8, ↓zf8, ↓zm8, ↓im8, ss8, ↓imd8, fi8, ↓vf9, ↓vm9, rf9, rm9, ↓qf9, ↓qm9, ↓zf9, ↓zm9, ↓im9, ss9, ↓imd9, fi9, ↓vf10, ↓vm10, rf10, rm10, ↓qf10, ↓qm10, ↓zf10, ↓zm10, ↓im10, ss10, ↓imd10, fi10, ↓vf11, ↓vm11, rf11, rm11, ↓qf11, ↓qm11, ↓zf11, ↓zm11, ↓im11, ss11, ↓imd11, fi11]); (try simp only [T.bind_ret]); exact rfl) ?_); (try (with_reducible refine al_nx ?_))
  (simp only [U2f0t0_law, U2f1t0_law, U2f1_law, U2f0_law, U3_law, U2_law, U1_law, U0_law, al_seq, nx_nx, lq_nx]; refine al_rd _ (by (simp -dsimp only [↓fBin_b, ↓fTru_b, ↓fBlT_b, ↓fNotT_b, ↓lCons_b, ↓fTup_b, ↓fCall_b, ↓sSeq_b, ↓sRet_b, ↓sIf_b, ↓sSet_b, ↓iSeq_b, ↓sFor_b, ↓fNew_b, ↓nLst_b, ↓fMake_b, ↓fC_b, ↓lNil_b, ↓sNil_b, ↓fYes_b, ↓tgName_b, ↓tgNil_b, ↓tgCons_b, ↓tgTup_b, ↓lcRun_b, ↓frz_val, ↓lrs_val, ↓liftS_b, ↓liftN_b, ↓fMakeD_b, ↓seqOf_t_b, ↓seqOf_l_b, ↓lstOf_l_b, ↓intOf_i_b, ↓blOf_b_b, ↓tru_n_b, ↓tru_b_b, ↓tru_i_b, ↓tru_t_b, ↓tru_l_b, ↓pLen_t_b, ↓pLen_l_b, ↓pLen_s_b, ↓pAdd_i_b, ↓atI_0_b, ↓atI_1_b, ↓atI_2_b, ↓atI_3_b, ↓lg0_b, ↓lg1_b, ↓lg2_b, ↓lg3_b, rs_val, outV_rt, outV_nx, backE_n, backE_u, wipeE_n, wipeE_u, froOf_f, froOf_u, seqOf_t, seqOf_l, lstOf_l, intOf_i, blOf_b, tru_n, tru_b, tru_i, tru_t, tru_l, pLen_t, pLen_l, pLen_s, pAdd_i, atI_0, atI_1, atI_2, atI_3, lg0, lg1, lg2, lg3, pIx_t, pIx_l, pAdd_t, pAdd_l, ↓keyOf1_ib, keyOf1_i, ↓T.bind_assoc, bind_ret', bind_bad', bind_exc', bind_draw', lift_some, lift_none', big, below62', below24', below64', below29', mul_ok, div_ok, mod_ok, addI, subI, addI, subI, ixN_nat, ↓lGive_b, ↓imt0, ↓imt1, ↓imt2, ↓imt3, List.length_cons, List.length_nil, List.map_cons, List.map_nil, List.append_nil, List.nil_append, List.cons_append, List.replicate_succ, List.replicate_zero, List.isEmpty_nil, List.isEmpty_cons, Option.map_some, Option.map_none, Option.bind_some, Option.bind_none, true_and, and_true, and_self, false_and, and_false, true_or, or_true, false_or, or_false, not_true_eq_false, not_false_eq_true, Bool.not_true, Bool.not_false, Bool.true_and, Bool.and_true, Bool.false_and, Bool.and_false, Bool.true_or, Bool.or_true, Bool.or_false, Bool.false_or, decide_true, decide_false, decide_eq_true_eq, decide_eq_false_iff_not, if_true, if_false, ite_true, ite_false, ↓reduceIte, Int.natCast_nonneg, Nat.reduceLT, Nat.reduceLeDiff, Nat.reduceEqDiff, Nat.reduceSub, Nat.reduceMul, Int.reduceLT, Int.reduceLE, Int.reduceEq, Int.reduceAdd, Int.reduceSub, Int.reduceMul, Int.reduceNeg, Int.reducePow, List.length_map, List.length_range, eq_self, ne_eq, Classical.not_not, Bool.not_eq_true, Bool.not_eq_false, Bool.false_eq_true, reduceCtorEq, Int.toNat_natCast, Nat.add_eq, Nat.reduceAdd, Int.cast_ofNat_Int, Int.reduceToNat, Int.zero_add, Int.add_zero, Nat.zero_add, Nat.add_zero, Nat.sub_zero, Int.sub_zero, Int.natCast_zero, Int.natCast_one, Int.natCast_add, Int.natCast_succ, beq_self_eq_true, Bool.decide_eq_true, Bool.decide_eq_false, ↓vf0, ↓vm0, rf0, rm0, ↓qf0, ↓qm0, ↓zf0, ↓zm0, ↓im0, ss0, fi0, ↓vf1, ↓vm1, rf1, rm1, ↓qf1, ↓qm1, ↓zf1, ↓zm1, ↓im1, ss1, fi1, ↓vf2, ↓vm2, rf2, rm2, ↓qf2, ↓qm2, ↓zf2, ↓zm2, ↓im2, ss2, fi2, ↓vf3, ↓vm3, rf3, rm3, ↓qf3, ↓qm3, ↓zf3, ↓zm3, ↓im3, ss3, fi3, ↓vf4, ↓vm4, rf4, rm4, ↓qf4, ↓qm4, ↓zf4, ↓zm4, ↓im4, ss4, fi4, ↓vf5, ↓vm5, rf5, rm5, ↓qf5, ↓qm5, ↓zf5, ↓zm5, ↓im5, ss5, fi5, ↓vf6, ↓vm6, rf6, rm6, ↓qf6, ↓qm6, ↓zf6, ↓zm6, ↓im6, ss6, fi6, ↓vf7, ↓vm7, rf7, rm7, ↓qf7, ↓qm7, ↓zf7, ↓zm7, ↓im7, ss7, fi7, ↓vf8, ↓vm8, rf8, rm8, ↓qf8, ↓qm8, ↓zf8, ↓zm8, ↓im8, ss8, fi8, S2f0t0_law, S2f1t0_law, S2f0_law, S2f1_law, S0_law, S1_law, S2_law, S3_law, U2f0t0_law, U2f1t0_law, U2f1_law, U2f0_law, U3_law, U2_law, U1_law, U0_law, u]); (try simp only [T.bind_ret]); exact rfl) ?_); (try (with_reducible refine al_nx ?_))
  (simp only [U2f0t0_law, U2f1t0_law, U2f1_law, U2f0_law, U3_law, U2_law, U1_law, U0_law, al_seq, nx_nx, lq_nx]; refine al_rd _ (by (simp -dsimp only [↓fBin_b, ↓fTru_b, ↓fBlT_b, ↓fNotT_b, ↓lCons_b, ↓fTup_b, ↓fCall_b, ↓sSeq_b, ↓sRet_b, ↓sIf_b, ↓sSet_b, ↓iSeq_b, ↓sFor_b, ↓fNew_b, ↓nLst_b, ↓fMake_b, ↓fC_b, ↓lNil_b, ↓sNil_b, ↓fYes_b, ↓tgName_b, ↓tgNil_b, ↓tgCons_b, ↓tgTup_b, ↓lcRun_b, ↓frz_val, ↓lrs_val, ↓liftS_b, ↓liftN_b, ↓fMakeD_b, ↓seqOf_t_b, ↓seqOf_l_b, ↓lstOf_l_b, ↓intOf_i_b, ↓blOf_b_b, ↓tru_n_b, ↓tru_b_b, ↓tru_i_b, ↓tru_t_b, ↓tru_l_b, ↓pLen_t_b, ↓pLen_l_b, ↓pLen_s_b, ↓pAdd_i_b, ↓atI_0_b, ↓atI_1_b, ↓atI_2_b, ↓atI_3_b, ↓lg0_b, ↓lg1_b, ↓lg2_b, ↓lg3_b, rs_val, outV_rt, outV_nx, backE_n, backE_u, wipeE_n, wipeE_u, froOf_f, froOf_u, seqOf_t, seqOf_l, lstOf_l, intOf_i, blOf_b, tru_n, tru_b, tru_i, tru_t, tru_l, pLen_t, pLen_l, pLen_s, pAdd_i, atI_0, atI_1, atI_2, atI_3, lg0, lg1, lg2, lg3, pIx_t, pIx_l, pAdd_t, pAdd_l, ↓keyOf1_ib, keyOf1_i, ↓T.bind_assoc, bind_ret', bind_bad', bind_exc', bind_draw', lift_some, lift_none', big, below62', below24', below64', below29', mul_ok, div_ok, mod_ok, addI, subI, addI, subI, ixN_nat, ↓lGive_b, ↓imt0, ↓imt1, ↓imt2, ↓imt3, List.length_cons, List.length_nil, List.map_cons, List.map_nil, List.append_nil, List.nil_append, List.cons_append, List.replicate_succ, List.replicate_zero, List.isEmpty_nil, List.isEmpty_cons, Option.map_some, Option.map_none, Option.bind_some, Option.bind_none, true_and, and_true, and_self, false_and, and_false, true_or, or_true, false_or, or_false, not_true_eq_false, not_false_eq_true, Bool.not_true, Bool.not_false, Bool.true_and, Bool.and_true, Bool.false_and, Bool.and_false, Bool.true_or, Bool.or_true, Bool.or_false, Bool.false_or, decide_true, decide_false, decide_eq_true_eq, decide_eq_false_iff_not, if_true, if_false, ite_true, ite_false, ↓reduceIte, Int.natCast_nonneg, Nat.reduceLT, Nat.reduceLeDiff, Nat.reduceEqDiff, Nat.reduceSub, Nat.reduceMul, Int.reduceLT, Int.reduceLE, Int.reduceEq, Int.reduceAdd, Int.reduceSub, Int.reduceMul, Int.reduceNeg, Int.reducePow, List.length_map, List.length_range, eq_self, ne_eq, Classical.not_not, Bool.not_eq_true, Bool.not_eq_false, Bool.false_eq_true, reduceCtorEq, Int.toNat_natCast, Nat.add_eq, Nat.reduceAdd, Int.cast_ofNat_Int, Int.reduceToNat, Int.zero_add, Int.add_zero, Nat.zero_add, Nat.add_zero, Nat.sub_zero, Int.sub_zero, Int.natCast_zero, Int.natCast_one, Int.natCast_add, Int.natCast_succ, beq_self_eq_true, Bool.decide_eq_true, Bool.decide_eq_false, ↓vf0, ↓vm0, rf0, rm0, ↓qf0, ↓qm0, ↓zf0, ↓zm0, ↓im0, ss0, fi0, ↓vf1, ↓vm1, rf1, rm1, ↓qf1, ↓qm1, ↓zf1, ↓zm1, ↓im1, ss1, fi1, ↓vf2, ↓vm2, rf2, rm2, ↓qf2, ↓qm2, ↓zf2, ↓zm2, ↓im2, ss2, fi2, ↓vf3, ↓vm3, rf3, rm3, ↓qf3, ↓qm3, ↓zf3, ↓zm3, ↓im3, ss3, fi3, ↓vf4, ↓vm4, rf4, rm4, ↓qf4, ↓qm4, ↓zf4, ↓zm4, ↓im4, ss4, fi4, ↓vf5, ↓vm5, rf5, rm5, ↓qf5, ↓qm5, ↓zf5, ↓zm5, ↓im5, ss5, fi5, ↓vf6, ↓vm6, rf6, rm6, ↓qf6, ↓qm6, ↓zf6, ↓zm6, ↓im6, ss6, fi6, ↓vf7, ↓vm7, rf7, rm7, ↓qf7, ↓qm7, ↓zf7, ↓zm7, ↓im7, ss7, fi7, ↓vf8, ↓vm8, rf8, rm8, ↓qf8, ↓qm8, ↓zf8, ↓zm8, ↓im8, ss8, fi8, S2f0t0_law, S2f1t0_law, S2f0_law, S2f1_law, S0_law, S1_law, S2_law, S3_law, U2f0t0_law, U2f1t0_law, U2f1_law, U2f0_law, U3_law, U2_law, U1_law, U0_law, cs]); (try simp only [T.bind_ret]); exact rfl) ?_); (try (with_reducible refine al_nx ?_))
  refine al_by (law_mixed_all L dL lL) fun t ht => ?_
  obtain ⟨zs, rfl, hzs⟩ := ht
  have lM : zs.length < 1000000 := by rw [hzs.length_eq]; omega
  (try refine al_rd _ (by (simp -dsimp only [↓fBin_b, ↓fUn_b, ↓fTru_b, ↓fBlT_b, ↓fNotT_b, ↓fOrT_b, ↓fAnd_b, ↓fNot_b, ↓fIf_b, ↓fChain_b, ↓lCons_b, ↓fTup_b, ↓fSl_b, ↓fCall_b, ↓fMeth_b, ↓sSeq_b, ↓sExpr_b, ↓sRet_b, ↓sIf_b, ↓sSet_b, ↓sAsg_b, ↓iSeq_b, ↓iRange1_b, ↓sFor_b, ↓fNew_b, ↓sSetN_b, ↓nLst_b, ↓nList_b, ↓fAppend_b, ↓fPopAt_b, ↓nLc_b, ↓sPar_b, ↓sParN_b, ↓sFldSet_b, ↓fMake_b, ↓Dn.iEnum_b, ↓nLc2_b, ↓fC_b, ↓lNil_b, ↓sNil_b, ↓sBad_b, ↓fYes_b, ↓tgName_b, ↓tgNil_b, ↓tgCons_b, ↓tgTup_b, ↓lcRun_b, ↓fPart_n, ↓fPart_s, ↓frz_val, ↓lrs_val, ↓liftS_b, ↓liftN_b, ↓sMix_b, ↓mF_b, ↓mN_b, ↓mNil_b, ↓sRetDeal_b, ↓fMakeD_b, ↓seqOf_t_b, ↓seqOf_l_b, ↓lstOf_l_b, ↓intOf_i_b, ↓blOf_b_b, ↓tru_n_b, ↓tru_b_b, ↓tru_i_b, ↓tru_t_b, ↓tru_l_b, ↓pLen_t_b, ↓pLen_l_b, ↓pLen_s_b, ↓pInt_i_b, ↓pInt_b_b, ↓pAbs_i_b, ↓pTuple_t_b, ↓pTuple_l_b, ↓pAdd_i_b, ↓pSub_i_b, ↓pLt_i_b, ↓pLe_i_b, ↓pGt_i_b, ↓pGe_i_b, ↓pMax2_i_b, ↓pMin2_i_b, ↓pIs_nn_b, ↓pIs_in_b, ↓pIs_tn_b, ↓pIs_ln_b, ↓pIs_bn_b, ↓pIs_bb_b, ↓pNotIs_nn_b, ↓pNotIs_in_b, ↓pNotIs_tn_b, ↓pNotIs_ln_b, ↓pNotIs_bn_b, ↓pNotIs_bb_b, ↓pCut_t_b, ↓pCut_l_b, ↓atI_0_b, ↓atI_1_b, ↓atI_2_b, ↓atI_3_b, ↓lg0_b, ↓lg1_b, ↓lg2_b, ↓lg3_b, ↓isi_bl_int_b, ↓isi_bl_bool_b, ↓isi_bl_tuple_b, ↓isi2_bl_b, ↓isi_int_int_b, ↓isi_int_bool_b, ↓isi_int_tuple_b, ↓isi2_int_b, ↓isi_str_int_b, ↓isi_str_bool_b, ↓isi_str_tuple_b, ↓isi2_str_b, ↓isi_tup_int_b, ↓isi_tup_bool_b, ↓isi_tup_tuple_b, ↓isi2_tup_b, ↓isi_lst_int_b, ↓isi_lst_bool_b, ↓isi_lst_tuple_b, ↓isi2_lst_b, rs_val, outV_rt, outV_nx, backE_n, backE_u, wipeE_n, wipeE_u, froOf_f, froOf_u, setM_nil, setM_fr, setM_nl, seqOf_t, seqOf_l, lstOf_l, intOf_i, blOf_b, tru_n, tru_b, tru_i, tru_t, tru_l, pLen_t, pLen_l, pLen_s, pInt_i, pInt_b, pAbs_i, pTuple_t, pTuple_l, pAdd_i, pSub_i, pLt_i, pLe_i, pGt_i, pGe_i, pMax2_i, pMin2_i, pIs_nn, pIs_in, pIs_tn, pIs_ln, pIs_bn, pIs_bb, pNotIs_nn, pNotIs_in, pNotIs_tn, pNotIs_ln, pNotIs_bn, pNotIs_bb, pCut_t, pCut_l, atI_0, atI_1, atI_2, atI_3, lg0, lg1, lg2, lg3, isi_bl_int, isi_bl_bool, isi_bl_tuple, isi2_bl, isi_int_int, isi_int_bool, isi_int_tuple, isi2_int, isi_str_int, isi_str_bool, isi_str_tuple, isi2_str, isi_tup_int, isi_tup_bool, isi_tup_tuple, isi2_tup, isi_lst_int, isi_lst_bool, isi_lst_tuple, isi2_lst, pIx_t, pIx_l, pFld_i, pAdd_t, pAdd_l, ↓lenK_b, ↓iRange3_b, ↓keyOf1_ib, keyOf1_i, ↓T.bind_assoc, bind_ret', bind_bad', bind_exc', bind_draw', lift_some, lift_none', big, below62', below24', below64', below29', mul_ok, div_ok, mod_ok, ↓sAugI_b, addI, subI, ↓nRep_b, ↓sAugIx_b, addI, subI, ixN_nat, ↓sDputT_b, ↓lGive_b, ↓mD_b, setM_nd, ↓imt0, ↓imt1, ↓imt2, ↓imt3, List.length_cons, List.length_nil, List.map_cons, List.map_nil, List.append_nil, List.nil_append, List.cons_append, List.replicate_succ, List.replicate_zero, List.isEmpty_nil, List.isEmpty_cons, Option.map_some, Option.map_none, Option.bind_some, Option.bind_none, true_and, and_true, and_self, false_and, and_false, true_or, or_true, false_or, or_false, not_true_eq_false, not_false_eq_true, Bool.not_true, Bool.not_false, Bool.true_and, Bool.and_true, Bool.false_and, Bool.and_false, Bool.true_or, Bool.or_true, Bool.or_false, Bool.false_or, decide_true, decide_false, decide_eq_true_eq, decide_eq_false_iff_not, if_true, if_false, ite_true, ite_false, ↓reduceIte, Int.natCast_nonneg, Nat.reduceLT, Nat.reduceLeDiff, Nat.reduceEqDiff, Nat.reduceSub, Nat.reduceMul, Int.reduceLT, Int.reduceLE, Int.reduceEq, Int.reduceAdd, Int.reduceSub, Int.reduceMul, Int.reduceNeg, Int.reducePow, List.length_map, List.length_range, eq_self, ne_eq, Classical.not_not, Bool.not_eq_true, Bool.not_eq_false, Bool.false_eq_true, reduceCtorEq, Int.toNat_natCast, Nat.add_eq, Nat.reduceAdd, Int.cast_ofNat_Int, Int.reduceToNat, Int.zero_add, Int.add_zero, Nat.zero_add, Nat.add_zero, Nat.sub_zero, Int.sub_zero, Int.natCast_zero, Int.natCast_one, Int.natCast_add, Int.natCast_succ, beq_self_eq_true, Bool.decide_eq_true, Bool.decide_eq_false, ↓vf0, ↓vm0, rf0, rm0, ↓qf0, ↓qm0, ↓zf0, ↓zm0, ↓im0, ss0, ↓imd0, fi0, ↓vf1, ↓vm1, rf1, rm1, ↓qf1, ↓qm1, ↓zf1, ↓zm1, ↓im1, ss1, ↓imd1, fi1, ↓vf2, ↓vm2, rf2, rm2, ↓qf2, ↓qm2, ↓zf2, ↓zm2, ↓im2, ss2, ↓imd2, fi2, ↓vf3, ↓vm3, rf3, rm3, ↓qf3, ↓qm3, ↓zf3, ↓zm3, ↓im3, ss3, ↓imd3, fi3, ↓vf4, ↓vm4, rf4, rm4, ↓qf4, ↓qm4, ↓zf4, ↓zm4, ↓im4, ss4, ↓imd4, fi4, ↓vf5, ↓vm5, rf5, rm5, ↓qf5, ↓qm5, ↓zf5, ↓zm5, ↓im5, ss5, ↓imd5, fi5, ↓vf6, ↓vm6, rf6, rm6, ↓qf6, ↓qm6, ↓zf6, ↓zm6, ↓im6, ss6, ↓imd6, fi6, ↓vf7, ↓vm7, rf7, rm7, ↓qf7, ↓qm7, ↓zf7, ↓zm7, ↓im7, ss7, ↓imd7, fi7, ↓vf8, ↓vm8, rf8, rm8, ↓qf8, ↓qm8, ↓zf8, ↓zm8, ↓im8, ss8, ↓imd8, fi8, ↓vf9, ↓vm9, rf9, rm9, ↓qf9, ↓qm9, ↓zf9, ↓zm9, ↓im9, ss9, ↓imd9, fi9, ↓vf10, ↓vm10, rf10, rm10, ↓qf10, ↓qm10, ↓zf10, ↓zm10, ↓im10, ss10, ↓imd10, fi10, ↓vf11, ↓vm11, rf11, rm11, ↓qf11, ↓qm11, ↓zf11, ↓zm11, ↓im11, ss11, ↓imd11, fi11, lM]); (try simp only [T.bind_ret]); exact rfl) ?_); (try (with_reducible refine al_nx ?_))
  refine al_forL (fun i ρ => ∃ (s3 s4 s5 s6 s7 s8 : Dn.Slot), ρ = [.fro (.scr ns), .fro .box, .fro U, s3, s4, s5, s6, s7, s8]) ⟨_, _, _, _, _, _, rfl⟩ (fun i x ρ hx hI => ?_) fun ρ hI => ?_
  · obtain ⟨s3, s4, s5, s6, s7, s8, rfl⟩ := hI
    obtain ⟨b, ls, few, ups, turns, many, S, k, rfl, h1, h2, h3, h4, h5, h6⟩ := step x (hzs.mem_iff.mp (List.mem_of_getElem? hx))
    (try refine al_rd _ (by (simp -dsimp only [↓fBin_b, ↓fUn_b, ↓fTru_b, ↓fBlT_b, ↓fNotT_b, ↓fOrT_b, ↓fAnd_b, ↓fNot_b, ↓fIf_b, ↓fChain_b, ↓lCons_b, ↓fTup_b, ↓fSl_b, ↓fCall_b, ↓fMeth_b, ↓sSeq_b, ↓sExpr_b, ↓sRet_b, ↓sIf_b, ↓sSet_b, ↓sAsg_b, ↓iSeq_b, ↓iRange1_b, ↓sFor_b, ↓fNew_b, ↓sSetN_b, ↓nLst_b, ↓nList_b, ↓fAppend_b, ↓fPopAt_b, ↓nLc_b, ↓sPar_b, ↓sParN_b, ↓sFldSet_b, ↓fMake_b, ↓Dn.iEnum_b, ↓nLc2_b, ↓fC_b, ↓lNil_b, ↓sNil_b, ↓sBad_b, ↓fYes_b, ↓tgName_b, ↓tgNil_b, ↓tgCons_b, ↓tgTup_b, ↓lcRun_b, ↓fPart_n, ↓fPart_s, ↓frz_val, ↓lrs_val, ↓liftS_b, ↓liftN_b, ↓sMix_b, ↓mF_b, ↓mN_b, ↓mNil_b, ↓sRetDeal_b, ↓fMakeD_b, ↓seqOf_t_b, ↓seqOf_l_b, ↓lstOf_l_b, ↓intOf_i_b, ↓blOf_b_b, ↓tru_n_b, ↓tru_b_b, ↓tru_i_b, ↓tru_t_b, ↓tru_l_b, ↓pLen_t_b, ↓pLen_l_b, ↓pLen_s_b, ↓pInt_i_b, ↓pInt_b_b, ↓pAbs_i_b, ↓pTuple_t_b, ↓pTuple_l_b, ↓pAdd_i_b, ↓pSub_i_b, ↓pLt_i_b, ↓pLe_i_b, ↓pGt_i_b, ↓pGe_i_b, ↓pMax2_i_b, ↓pMin2_i_b, ↓pIs_nn_b, ↓pIs_in_b, ↓pIs_tn_b, ↓pIs_ln_b, ↓pIs_bn_b, ↓pIs_bb_b, ↓pNotIs_nn_b, ↓pNotIs_in_b, ↓pNotIs_tn_b, ↓pNotIs_ln_b, ↓pNotIs_bn_b, ↓pNotIs_bb_b, ↓pCut_t_b, ↓pCut_l_b, ↓atI_0_b, ↓atI_1_b, ↓atI_2_b, ↓atI_3_b, ↓lg0_b, ↓lg1_b, ↓lg2_b, ↓lg3_b, ↓isi_bl_int_b, ↓isi_bl_bool_b, ↓isi_bl_tuple_b, ↓isi2_bl_b, ↓isi_int_int_b, ↓isi_int_bool_b, ↓isi_int_tuple_b, ↓isi2_int_b, ↓isi_str_int_b, ↓isi_str_bool_b, ↓isi_str_tuple_b, ↓isi2_str_b, ↓isi_tup_int_b, ↓isi_tup_bool_b, ↓isi_tup_tuple_b, ↓isi2_tup_b, ↓isi_lst_int_b, ↓isi_lst_bool_b, ↓isi_lst_tuple_b, ↓isi2_lst_b, rs_val, outV_rt, outV_nx, backE_n, backE_u, wipeE_n, wipeE_u, froOf_f, froOf_u, setM_nil, setM_fr, setM_nl, seqOf_t, seqOf_l, lstOf_l, intOf_i, blOf_b, tru_n, tru_b, tru_i, tru_t, tru_l, pLen_t, pLen_l, pLen_s, pInt_i, pInt_b, pAbs_i, pTuple_t, pTuple_l, pAdd_i, pSub_i, pLt_i, pLe_i, pGt_i, pGe_i, pMax2_i, pMin2_i, pIs_nn, pIs_in, pIs_tn, pIs_ln, pIs_bn, pIs_bb, pNotIs_nn, pNotIs_in, pNotIs_tn, pNotIs_ln, pNotIs_bn, pNotIs_bb, pCut_t, pCut_l, atI_0, atI_1, atI_2, atI_3, lg0, lg1, lg2, lg3, isi_bl_int, isi_bl_bool, isi_bl_tuple, isi2_bl, isi_int_int, isi_int_bool, isi_int_tuple, isi2_int, isi_str_int, isi_str_bool, isi_str_tuple, isi2_str, isi_tup_int, isi_tup_bool, isi_tup_tuple, isi2_tup, isi_lst_int, isi_lst_bool, isi_lst_tuple, isi2_lst, pIx_t, pIx_l, pFld_i, pAdd_t, pAdd_l, ↓lenK_b, ↓iRange3_b, ↓keyOf1_ib, keyOf1_i, ↓T.bind_assoc, bind_ret', bind_bad', bind_exc', bind_draw', lift_some, lift_none', big, below62', below24', below64', below29', mul_ok, div_ok, mod_ok, ↓sAugI_b, addI, subI, ↓nRep_b, ↓sAugIx_b, addI, subI, ixN_nat, ↓sDputT_b, ↓lGive_b, ↓mD_b, setM_nd, ↓imt0, ↓imt1, ↓imt2, ↓imt3, List.length_cons, List.length_nil, List.map_cons, List.map_nil, List.append_nil, List.nil_append, List.cons_append, List.replicate_succ, List.replicate_zero, List.isEmpty_nil, List.isEmpty_cons, Option.map_some, Option.map_none, Option.bind_some, Option.bind_none, true_and, and_true, and_self, false_and, and_false, true_or, or_true, false_or, or_false, not_true_eq_false, not_false_eq_true, Bool.not_true, Bool.not_false, Bool.true_and, Bool.and_true, Bool.false_and, Bool.and_false, Bool.true_or, Bool.or_true, Bool.or_false, Bool.false_or, decide_true, decide_false, decide_eq_true_eq, decide_eq_false_iff_not, if_true, if_false, ite_true, ite_false, ↓reduceIte, Int.natCast_nonneg, Nat.reduceLT, Nat.reduceLeDiff, Nat.reduceEqDiff, Nat.reduceSub, Nat.reduceMul, Int.reduceLT, Int.reduceLE, Int.reduceEq, Int.reduceAdd, Int.reduceSub, Int.reduceMul, Int.reduceNeg, Int.reducePow, List.length_map, List.length_range, eq_self, ne_eq, Classical.not_not, Bool.not_eq_true, Bool.not_eq_false, Bool.false_eq_true, reduceCtorEq, Int.toNat_natCast, Nat.add_eq, Nat.reduceAdd, Int.cast_ofNat_Int, Int.reduceToNat, Int.zero_add, Int.add_zero, Nat.zero_add, Nat.add_zero, Nat.sub_zero, Int.sub_zero, Int.natCast_zero, Int.natCast_one, Int.natCast_add, Int.natCast_succ, beq_self_eq_true, Bool.decide_eq_true, Bool.decide_eq_false, ↓vf0, ↓vm0, rf0, rm0, ↓qf0, ↓qm0, ↓zf0, ↓zm0, ↓im0, ss0, ↓imd0, fi0, ↓vf1, ↓vm1, rf1, rm1, ↓qf1, ↓qm1, ↓zf1, ↓zm1, ↓im1, ss1, ↓imd1, fi1, ↓vf2, ↓vm2, rf2, rm2, ↓qf2, ↓qm2, ↓zf2, ↓zm2, ↓im2, ss2, ↓imd2, fi2, ↓vf3, ↓vm3, rf3, rm3, ↓qf3, ↓qm3, ↓zf3, ↓zm3, ↓im3, ss3, ↓imd3, fi3, ↓vf4, ↓vm4, rf4, rm4, ↓qf4, ↓qm4, ↓zf4, ↓zm4, ↓im4, ss4, ↓imd4, fi4, ↓vf5, ↓vm5, rf5, rm5, ↓qf5, ↓qm5, ↓zf5, ↓zm5, ↓im5, ss5, ↓imd5, fi5, ↓vf6, ↓vm6, rf6, rm6, ↓qf6, ↓qm6, ↓zf6, ↓zm6, ↓im6, ss6, ↓imd6, fi6, ↓vf7, ↓vm7, rf7, rm7, ↓qf7, ↓qm7, ↓zf7, ↓zm7, ↓im7, ss7, ↓imd7, fi7, ↓vf8, ↓vm8, rf8, rm8, ↓qf8, ↓qm8, ↓zf8, ↓zm8, ↓im8, ss8, ↓imd8, fi8, ↓vf9, ↓vm9, rf9, rm9, ↓qf9, ↓qm9, ↓zf9, ↓zm9, ↓im9, ss9, ↓imd9, fi9, ↓vf10, ↓vm10, rf10, rm10, ↓qf10, ↓qm10, ↓zf10, ↓zm10, ↓im10, ss10, ↓imd10, fi10, ↓vf11, ↓vm11, rf11, rm11, ↓qf11, ↓qm11, ↓zf11, ↓zm11, ↓im11, ss11, ↓imd11, fi11]); (try simp only [T.bind_ret]); exact rfl) ?_); (try (with_reducible refine al_nx ?_)); refine al_retI.mpr ?_
    (simp only [U2f0t0_law, U2f1t0_law, U2f1_law, U2f0_law, U3_law, U2_law, U1_law, U0_law, al_seq, nx_nx, lq_nx]; refine al_rd _ (by (simp -dsimp only [↓fBin_b, ↓fTru_b, ↓fBlT_b, ↓fNotT_b, ↓lCons_b, ↓fTup_b, ↓fCall_b, ↓sSeq_b, ↓sRet_b, ↓sIf_b, ↓sSet_b, ↓iSeq_b, ↓sFor_b, ↓fNew_b, ↓nLst_b, ↓fMake_b, ↓fC_b, ↓lNil_b, ↓sNil_b, ↓fYes_b, ↓tgName_b, ↓tgNil_b, ↓tgCons_b, ↓tgTup_b, ↓lcRun_b, ↓frz_val, ↓lrs_val, ↓liftS_b, ↓liftN_b, ↓fMakeD_b, ↓seqOf_t_b, ↓seqOf_l_b, ↓lstOf_l_b, ↓intOf_i_b, ↓blOf_b_b, ↓tru_n_b, ↓tru_b_b, ↓tru_i_b, ↓tru_t_b, ↓tru_l_b, ↓pLen_t_b, ↓pLen_l_b, ↓pLen_s_b, ↓pAdd_i_b, ↓atI_0_b, ↓atI_1_b, ↓atI_2_b, ↓atI_3_b, ↓lg0_b, ↓lg1_b, ↓lg2_b, ↓lg3_b, rs_val, outV_rt, outV_nx, backE_n, backE_u, wipeE_n, wipeE_u, froOf_f, froOf_u, seqOf_t, seqOf_l, lstOf_l, intOf_i, blOf_b, tru_n, tru_b, tru_i, tru_t, tru_l, pLen_t, pLen_l, pLen_s, pAdd_i, atI_0, atI_1, atI_2, atI_3, lg0, lg1, lg2, lg3, pIx_t, pIx_l, pAdd_t, pAdd_l, ↓keyOf1_ib, keyOf1_i, ↓T.bind_assoc, bind_ret', bind_bad', bind_exc', bind_draw', lift_some, lift_none', big, below62', below24', below64', below29', mul_ok, div_ok, mod_ok, addI, subI, addI, subI, ixN_nat, ↓lGive_b, ↓imt0, ↓imt1, ↓imt2, ↓imt3, List.length_cons, List.length_nil, List.map_cons, List.map_nil, List.append_nil, List.nil_append, List.cons_append, List.replicate_succ, List.replicate_zero, List.isEmpty_nil, List.isEmpty_cons, Option.map_some, Option.map_none, Option.bind_some, Option.bind_none, true_and, and_true, and_self, false_and, and_false, true_or, or_true, false_or, or_false, not_true_eq_false, not_false_eq_true, Bool.not_true, Bool.not_false, Bool.true_and, Bool.and_true, Bool.false_and, Bool.and_false, Bool.true_or, Bool.or_true, Bool.or_false, Bool.false_or, decide_true, decide_false, decide_eq_true_eq, decide_eq_false_iff_not, if_true, if_false, ite_true, ite_false, ↓reduceIte, Int.natCast_nonneg, Nat.reduceLT, Nat.reduceLeDiff, Nat.reduceEqDiff, Nat.reduceSub, Nat.reduceMul, Int.reduceLT, Int.reduceLE, Int.reduceEq, Int.reduceAdd, Int.reduceSub, Int.reduceMul, Int.reduceNeg, Int.reducePow, List.length_map, List.length_range, eq_self, ne_eq, Classical.not_not, Bool.not_eq_true, Bool.not_eq_false, Bool.false_eq_true, reduceCtorEq, Int.toNat_natCast, Nat.add_eq, Nat.reduceAdd, Int.cast_ofNat_Int, Int.reduceToNat, Int.zero_add, Int.add_zero, Nat.zero_add, Nat.add_zero, Nat.sub_zero, Int.sub_zero, Int.natCast_zero, Int.natCast_one, Int.natCast_add, Int.natCast_succ, beq_self_eq_true, Bool.decide_eq_true, Bool.decide_eq_false, ↓vf0, ↓vm0, rf0, rm0, ↓qf0, ↓qm0, ↓zf0, ↓zm0, ↓im0, ss0, fi0, ↓vf1, ↓vm1, rf1, rm1, ↓qf1, ↓qm1, ↓zf1, ↓zm1, ↓im1, ss1, fi1, ↓vf2, ↓vm2, rf2, rm2, ↓qf2, ↓qm2, ↓zf2, ↓zm2, ↓im2, ss2, fi2, ↓vf3, ↓vm3, rf3, rm3, ↓qf3, ↓qm3, ↓zf3, ↓zm3, ↓im3, ss3, fi3, ↓vf4, ↓vm4, rf4, rm4, ↓qf4, ↓qm4, ↓zf4, ↓zm4, ↓im4, ss4, fi4, ↓vf5, ↓vm5, rf5, rm5, ↓qf5, ↓qm5, ↓zf5, ↓zm5, ↓im5, ss5, fi5, ↓vf6, ↓vm6, rf6, rm6, ↓qf6, ↓qm6, ↓zf6, ↓zm6, ↓im6, ss6, fi6, ↓vf7, ↓vm7, rf7, rm7, ↓qf7, ↓qm7, ↓zf7, ↓zm7, ↓im7, ss7, fi7, ↓vf8, ↓vm8, rf8, rm8, ↓qf8, ↓qm8, ↓zf8, ↓zm8, ↓im8, ss8, fi8, S2f0t0_law, S2f1t0_law, S2f0_law, S2f1_law, S0_law, S1_law, S2_law, S3_law, U2f0t0_law, U2f1t0_law, U2f1_law, U2f0_law, U3_law, U2_law, U1_law, U0_law]); (try simp only [T.bind_ret]); exact rfl) ?_); (try (with_reducible refine al_nx ?_))
    refine al_by (law_mixed_all ls h2 h3) fun t ht => ?_
    obtain ⟨ys, rfl, hys⟩ := ht
    have r := h1 ys hys
    (try refine al_rd _ (by (simp -dsimp only [↓fBin_b, ↓fUn_b, ↓fTru_b, ↓fBlT_b, ↓fNotT_b, ↓fOrT_b, ↓fAnd_b, ↓fNot_b, ↓fIf_b, ↓fChain_b, ↓lCons_b, ↓fTup_b, ↓fSl_b, ↓fCall_b, ↓fMeth_b, ↓sSeq_b, ↓sExpr_b, ↓sRet_b, ↓sIf_b, ↓sSet_b, ↓sAsg_b, ↓iSeq_b, ↓iRange1_b, ↓sFor_b, ↓fNew_b, ↓sSetN_b, ↓nLst_b, ↓nList_b, ↓fAppend_b, ↓fPopAt_b, ↓nLc_b, ↓sPar_b, ↓sParN_b, ↓sFldSet_b, ↓fMake_b, ↓Dn.iEnum_b, ↓nLc2_b, ↓fC_b, ↓lNil_b, ↓sNil_b, ↓sBad_b, ↓fYes_b, ↓tgName_b, ↓tgNil_b, ↓tgCons_b, ↓tgTup_b, ↓lcRun_b, ↓fPart_n, ↓fPart_s, ↓frz_val, ↓lrs_val, ↓liftS_b, ↓liftN_b, ↓sMix_b, ↓mF_b, ↓mN_b, ↓mNil_b, ↓sRetDeal_b, ↓fMakeD_b, ↓seqOf_t_b, ↓seqOf_l_b, ↓lstOf_l_b, ↓intOf_i_b, ↓blOf_b_b, ↓tru_n_b, ↓tru_b_b, ↓tru_i_b, ↓tru_t_b, ↓tru_l_b, ↓pLen_t_b, ↓pLen_l_b, ↓pLen_s_b, ↓pInt_i_b, ↓pInt_b_b, ↓pAbs_i_b, ↓pTuple_t_b, ↓pTuple_l_b, ↓pAdd_i_b, ↓pSub_i_b, ↓pLt_i_b, ↓pLe_i_b, ↓pGt_i_b, ↓pGe_i_b, ↓pMax2_i_b, ↓pMin2_i_b, ↓pIs_nn_b, ↓pIs_in_b, ↓pIs_tn_b, ↓pIs_ln_b, ↓pIs_bn_b, ↓pIs_bb_b, ↓pNotIs_nn_b, ↓pNotIs_in_b, ↓pNotIs_tn_b, ↓pNotIs_ln_b, ↓pNotIs_bn_b, ↓pNotIs_bb_b, ↓pCut_t_b, ↓pCut_l_b, ↓atI_0_b, ↓atI_1_b, ↓atI_2_b, ↓atI_3_b, ↓lg0_b, ↓lg1_b, ↓lg2_b, ↓lg3_b, ↓isi_bl_int_b, ↓isi_bl_bool_b, ↓isi_bl_tuple_b, ↓isi2_bl_b, ↓isi_int_int_b, ↓isi_int_bool_b, ↓isi_int_tuple_b, ↓isi2_int_b, ↓isi_str_int_b, ↓isi_str_bool_b, ↓isi_str_tuple_b, ↓isi2_str_b, ↓isi_tup_int_b, ↓isi_tup_bool_b, ↓isi_tup_tuple_b, ↓isi2_tup_b, ↓isi_lst_int_b, ↓isi_lst_bool_b, ↓isi_lst_tuple_b, ↓isi2_lst_b, rs_val, outV_rt, outV_nx, backE_n, backE_u, wipeE_n, wipeE_u, froOf_f, froOf_u, setM_nil, setM_fr, setM_nl, seqOf_t, seqOf_l, lstOf_l, intOf_i, blOf_b, tru_n, tru_b, tru_i, tru_t, tru_l, pLen_t, pLen_l, pLen_s, pInt_i, pInt_b, pAbs_i, pTuple_t, pTuple_l, pAdd_i, pSub_i, pLt_i, pLe_i, pGt_i, pGe_i, pMax2_i, pMin2_i, pIs_nn, pIs_in, pIs_tn, pIs_ln, pIs_bn, pIs_bb, pNotIs_nn, pNotIs_in, pNotIs_tn, pNotIs_ln, pNotIs_bn, pNotIs_bb, pCut_t, pCut_l, atI_0, atI_1, atI_2, atI_3, lg0, lg1, lg2, lg3, isi_bl_int, isi_bl_bool, isi_bl_tuple, isi2_bl, isi_int_int, isi_int_bool, isi_int_tuple, isi2_int, isi_str_int, isi_str_bool, isi_str_tuple, isi2_str, isi_tup_int, isi_tup_bool, isi_tup_tuple, isi2_tup, isi_lst_int, isi_lst_bool, isi_lst_tuple, isi2_lst, pIx_t, pIx_l, pFld_i, pAdd_t, pAdd_l, ↓lenK_b, ↓iRange3_b, ↓keyOf1_ib, keyOf1_i, ↓T.bind_assoc, bind_ret', bind_bad', bind_exc', bind_draw', lift_some, lift_none', big, below62', below24', below64', below29', mul_ok, div_ok, mod_ok, ↓sAugI_b, addI, subI, ↓nRep_b, ↓sAugIx_b, addI, subI, ixN_nat, ↓sDputT_b, ↓lGive_b, ↓mD_b, setM_nd, ↓imt0, ↓imt1, ↓imt2, ↓imt3, List.length_cons, List.length_nil, List.map_cons, List.map_nil, List.append_nil, List.nil_append, List.cons_append, List.replicate_succ, List.replicate_zero, List.isEmpty_nil, List.isEmpty_cons, Option.map_some, Option.map_none, Option.bind_some, Option.bind_none, true_and, and_true, and_self, false_and, and_false, true_or, or_true, false_or, or_false, not_true_eq_false, not_false_eq_true, Bool.not_true, Bool.not_false, Bool.true_and, Bool.and_true, Bool.false_and, Bool.and_false, Bool.true_or, Bool.or_true, Bool.or_false, Bool.false_or, decide_true, decide_false, decide_eq_true_eq, decide_eq_false_iff_not, if_true, if_false, ite_true, ite_false, ↓reduceIte, Int.natCast_nonneg, Nat.reduceLT, Nat.reduceLeDiff, Nat.reduceEqDiff, Nat.reduceSub, Nat.reduceMul, Int.reduceLT, Int.reduceLE, Int.reduceEq, Int.reduceAdd, Int.reduceSub, Int.reduceMul, Int.reduceNeg, Int.reducePow, List.length_map, List.length_range, eq_self, ne_eq, Classical.not_not, Bool.not_eq_true, Bool.not_eq_false, Bool.false_eq_true, reduceCtorEq, Int.toNat_natCast, Nat.add_eq, Nat.reduceAdd, Int.cast_ofNat_Int, Int.reduceToNat, Int.zero_add, Int.add_zero, Nat.zero_add, Nat.add_zero, Nat.sub_zero, Int.sub_zero, Int.natCast_zero, Int.natCast_one, Int.natCast_add, Int.natCast_succ, beq_self_eq_true, Bool.decide_eq_true, Bool.decide_eq_false, ↓vf0, ↓vm0, rf0, rm0, ↓qf0, ↓qm0, ↓zf0, ↓zm0, ↓im0, ss0, ↓imd0, fi0, ↓vf1, ↓vm1, rf1, rm1, ↓qf1, ↓qm1, ↓zf1, ↓zm1, ↓im1, ss1, ↓imd1, fi1, ↓vf2, ↓vm2, rf2, rm2, ↓qf2, ↓qm2, ↓zf2, ↓zm2, ↓im2, ss2, ↓imd2, fi2, ↓vf3, ↓vm3, rf3, rm3, ↓qf3, ↓qm3, ↓zf3, ↓zm3, ↓im3, ss3, ↓imd3, fi3, ↓vf4, ↓vm4, rf4, rm4, ↓qf4, ↓qm4, ↓zf4, ↓zm4, ↓im4, ss4, ↓imd4, fi4, ↓vf5, ↓vm5, rf5, rm5, ↓qf5, ↓qm5, ↓zf5, ↓zm5, ↓im5, ss5, ↓imd5, fi5, ↓vf6, ↓vm6, rf6, rm6, ↓qf6, ↓qm6, ↓zf6, ↓zm6, ↓im6, ss6, ↓imd6, fi6, ↓vf7, ↓vm7, rf7, rm7, ↓qf7, ↓qm7, ↓zf7, ↓zm7, ↓im7, ss7, ↓imd7, fi7, ↓vf8, ↓vm8, rf8, rm8, ↓qf8, ↓qm8, ↓zf8, ↓zm8, ↓im8, ss8, ↓imd8, fi8, ↓vf9, ↓vm9, rf9, rm9, ↓qf9, ↓qm9, ↓zf9, ↓zm9, ↓im9, ss9, ↓imd9, fi9, ↓vf10, ↓vm10, rf10, rm10, ↓qf10, ↓qm10, ↓zf10, ↓zm10, ↓im10, ss10, ↓imd10, fi10, ↓vf11, ↓vm11, rf11, rm11, ↓qf11, ↓qm11, ↓zf11, ↓zm11, ↓im11, ss11, ↓imd11, fi11, r]); (try simp only [T.bind_ret]); exact rfl) ?_); (try (with_reducible refine al_nx ?_))
    (simp only [U2f0t0_law, U2f1t0_law, U2f1_law, U2f0_law, U3_law, U2_law, U1_law, U0_law, al_seq, nx_nx, lq_nx]; refine al_rd _ (by (simp -dsimp only [↓fBin_b, ↓fTru_b, ↓fBlT_b, ↓fNotT_b, ↓lCons_b, ↓fTup_b, ↓fCall_b, ↓sSeq_b, ↓sRet_b, ↓sIf_b, ↓sSet_b, ↓iSeq_b, ↓sFor_b, ↓fNew_b, ↓nLst_b, ↓fMake_b, ↓fC_b, ↓lNil_b, ↓sNil_b, ↓fYes_b, ↓tgName_b, ↓tgNil_b, ↓tgCons_b, ↓tgTup_b, ↓lcRun_b, ↓frz_val, ↓lrs_val, ↓liftS_b, ↓liftN_b, ↓fMakeD_b, ↓seqOf_t_b, ↓seqOf_l_b, ↓lstOf_l_b, ↓intOf_i_b, ↓blOf_b_b, ↓tru_n_b, ↓tru_b_b, ↓tru_i_b, ↓tru_t_b, ↓tru_l_b, ↓pLen_t_b, ↓pLen_l_b, ↓pLen_s_b, ↓pAdd_i_b, ↓atI_0_b, ↓atI_1_b, ↓atI_2_b, ↓atI_3_b, ↓lg0_b, ↓lg1_b, ↓lg2_b, ↓lg3_b, rs_val, outV_rt, outV_nx, backE_n, backE_u, wipeE_n, wipeE_u, froOf_f, froOf_u, seqOf_t, seqOf_l, lstOf_l, intOf_i, blOf_b, tru_n, tru_b, tru_i, tru_t, tru_l, pLen_t, pLen_l, pLen_s, pAdd_i, atI_0, atI_1, atI_2, atI_3, lg0, lg1, lg2, lg3, pIx_t, pIx_l, pAdd_t, pAdd_l, ↓keyOf1_ib, keyOf1_i, ↓T.bind_assoc, bind_ret', bind_bad', bind_exc', bind_draw', lift_some, lift_none', big, below62', below24', below64', below29', mul_ok, div_ok, mod_ok, addI, subI, addI, subI, ixN_nat, ↓lGive_b, ↓imt0, ↓imt1, ↓imt2, ↓imt3, List.length_cons, List.length_nil, List.map_cons, List.map_nil, List.append_nil, List.nil_append, List.cons_append, List.replicate_succ, List.replicate_zero, List.isEmpty_nil, List.isEmpty_cons, Option.map_some, Option.map_none, Option.bind_some, Option.bind_none, true_and, and_true, and_self, false_and, and_false, true_or, or_true, false_or, or_false, not_true_eq_false, not_false_eq_true, Bool.not_true, Bool.not_false, Bool.true_and, Bool.and_true, Bool.false_and, Bool.and_false, Bool.true_or, Bool.or_true, Bool.or_false, Bool.false_or, decide_true, decide_false, decide_eq_true_eq, decide_eq_false_iff_not, if_true, if_false, ite_true, ite_false, ↓reduceIte, Int.natCast_nonneg, Nat.reduceLT, Nat.reduceLeDiff, Nat.reduceEqDiff, Nat.reduceSub, Nat.reduceMul, Int.reduceLT, Int.reduceLE, Int.reduceEq, Int.reduceAdd, Int.reduceSub, Int.reduceMul, Int.reduceNeg, Int.reducePow, List.length_map, List.length_range, eq_self, ne_eq, Classical.not_not, Bool.not_eq_true, Bool.not_eq_false, Bool.false_eq_true, reduceCtorEq, Int.toNat_natCast, Nat.add_eq, Nat.reduceAdd, Int.cast_ofNat_Int, Int.reduceToNat, Int.zero_add, Int.add_zero, Nat.zero_add, Nat.add_zero, Nat.sub_zero, Int.sub_zero, Int.natCast_zero, Int.natCast_one, Int.natCast_add, Int.natCast_succ, beq_self_eq_true, Bool.decide_eq_true, Bool.decide_eq_false, ↓vf0, ↓vm0, rf0, rm0, ↓qf0, ↓qm0, ↓zf0, ↓zm0, ↓im0, ss0, fi0, ↓vf1, ↓vm1, rf1, rm1, ↓qf1, ↓qm1, ↓zf1, ↓zm1, ↓im1, ss1, fi1, ↓vf2, ↓vm2, rf2, rm2, ↓qf2, ↓qm2, ↓zf2, ↓zm2, ↓im2, ss2, fi2, ↓vf3, ↓vm3, rf3, rm3, ↓qf3, ↓qm3, ↓zf3, ↓zm3, ↓im3, ss3, fi3, ↓vf4, ↓vm4, rf4, rm4, ↓qf4, ↓qm4, ↓zf4, ↓zm4, ↓im4, ss4, fi4, ↓vf5, ↓vm5, rf5, rm5, ↓qf5, ↓qm5, ↓zf5, ↓zm5, ↓im5, ss5, fi5, ↓vf6, ↓vm6, rf6, rm6, ↓qf6, ↓qm6, ↓zf6, ↓zm6, ↓im6, ss6, fi6, ↓vf7, ↓vm7, rf7, rm7, ↓qf7, ↓qm7, ↓zf7, ↓zm7, ↓im7, ss7, fi7, ↓vf8, ↓vm8, rf8, rm8, ↓qf8, ↓qm8, ↓zf8, ↓zm8, ↓im8, ss8, fi8, S2f0t0_law, S2f1t0_law, S2f0_law, S2f1_law, S0_law, S1_law, S2_law, S3_law, U2f0t0_law, U2f1t0_law, U2f1_law, U2f0_law, U3_law, U2_law, U1_law, U0_law, h4, h5, h6]); (try simp only [T.bind_ret]); exact rfl) ?_); (try (with_reducible refine al_nx ?_))
    refine al_endL ?_
    exact ⟨_, _, _, _, _, _, rfl⟩
  · obtain ⟨s3, s4, s5, s6, s7, s8, rfl⟩ := hI
    (simp only [U2f0t0_law, U2f1t0_law, U2f1_law, U2f0_law, U3_law, U2_law, U1_law, U0_law, al_seq, nx_nx, lq_nx]; refine al_rd _ (by (simp -dsimp only [↓fBin_b, ↓fTru_b, ↓fBlT_b, ↓fNotT_b, ↓lCons_b, ↓fTup_b, ↓fCall_b, ↓sSeq_b, ↓sRet_b, ↓sIf_b, ↓sSet_b, ↓iSeq_b, ↓sFor_b, ↓fNew_b, ↓nLst_b, ↓fMake_b, ↓fC_b, ↓lNil_b, ↓sNil_b, ↓fYes_b, ↓tgName_b, ↓tgNil_b, ↓tgCons_b, ↓tgTup_b, ↓lcRun_b, ↓frz_val, ↓lrs_val, ↓liftS_b, ↓liftN_b, ↓fMakeD_b, ↓seqOf_t_b, ↓seqOf_l_b, ↓lstOf_l_b, ↓intOf_i_b, ↓blOf_b_b, ↓tru_n_b, ↓tru_b_b, ↓tru_i_b, ↓tru_t_b, ↓tru_l_b, ↓pLen_t_b, ↓pLen_l_b, ↓pLen_s_b, ↓pAdd_i_b, ↓atI_0_b, ↓atI_1_b, ↓atI_2_b, ↓atI_3_b, ↓lg0_b, ↓lg1_b, ↓lg2_b, ↓lg3_b, rs_val, outV_rt, outV_nx, backE_n, backE_u, wipeE_n, wipeE_u, froOf_f, froOf_u, seqOf_t, seqOf_l, lstOf_l, intOf_i, blOf_b, tru_n, tru_b, tru_i, tru_t, tru_l, pLen_t, pLen_l, pLen_s, pAdd_i, atI_0, atI_1, atI_2, atI_3, lg0, lg1, lg2, lg3, pIx_t, pIx_l, pAdd_t, pAdd_l, ↓keyOf1_ib, keyOf1_i, ↓T.bind_assoc, bind_ret', bind_bad', bind_exc', bind_draw', lift_some, lift_none', big, below62', below24', below64', below29', mul_ok, div_ok, mod_ok, addI, subI, addI, subI, ixN_nat, ↓lGive_b, ↓imt0, ↓imt1, ↓imt2, ↓imt3, List.length_cons, List.length_nil, List.map_cons, List.map_nil, List.append_nil, List.nil_append, List.cons_append, List.replicate_succ, List.replicate_zero, List.isEmpty_nil, List.isEmpty_cons, Option.map_some, Option.map_none, Option.bind_some, Option.bind_none, true_and, and_true, and_self, false_and, and_false, true_or, or_true, false_or, or_false, not_true_eq_false, not_false_eq_true, Bool.not_true, Bool.not_false, Bool.true_and, Bool.and_true, Bool.false_and, Bool.and_false, Bool.true_or, Bool.or_true, Bool.or_false, Bool.false_or, decide_true, decide_false, decide_eq_true_eq, decide_eq_false_iff_not, if_true, if_false, ite_true, ite_false, ↓reduceIte, Int.natCast_nonneg, Nat.reduceLT, Nat.reduceLeDiff, Nat.reduceEqDiff, Nat.reduceSub, Nat.reduceMul, Int.reduceLT, Int.reduceLE, Int.reduceEq, Int.reduceAdd, Int.reduceSub, Int.reduceMul, Int.reduceNeg, Int.reducePow, List.length_map, List.length_range, eq_self, ne_eq, Classical.not_not, Bool.not_eq_true, Bool.not_eq_false, Bool.false_eq_true, reduceCtorEq, Int.toNat_natCast, Nat.add_eq, Nat.reduceAdd, Int.cast_ofNat_Int, Int.reduceToNat, Int.zero_add, Int.add_zero, Nat.zero_add, Nat.add_zero, Nat.sub_zero, Int.sub_zero, Int.natCast_zero, Int.natCast_one, Int.natCast_add, Int.natCast_succ, beq_self_eq_true, Bool.decide_eq_true, Bool.decide_eq_false, ↓vf0, ↓vm0, rf0, rm0, ↓qf0, ↓qm0, ↓zf0, ↓zm0, ↓im0, ss0, fi0, ↓vf1, ↓vm1, rf1, rm1, ↓qf1, ↓qm1, ↓zf1, ↓zm1, ↓im1, ss1, fi1, ↓vf2, ↓vm2, rf2, rm2, ↓qf2, ↓qm2, ↓zf2, ↓zm2, ↓im2, ss2, fi2, ↓vf3, ↓vm3, rf3, rm3, ↓qf3, ↓qm3, ↓zf3, ↓zm3, ↓im3, ss3, fi3, ↓vf4, ↓vm4, rf4, rm4, ↓qf4, ↓qm4, ↓zf4, ↓zm4, ↓im4, ss4, fi4, ↓vf5, ↓vm5, rf5, rm5, ↓qf5, ↓qm5, ↓zf5, ↓zm5, ↓im5, ss5, fi5, ↓vf6, ↓vm6, rf6, rm6, ↓qf6, ↓qm6, ↓zf6, ↓zm6, ↓im6, ss6, fi6, ↓vf7, ↓vm7, rf7, rm7, ↓qf7, ↓qm7, ↓zf7, ↓zm7, ↓im7, ss7, fi7, ↓vf8, ↓vm8, rf8, rm8, ↓qf8, ↓qm8, ↓zf8, ↓zm8, ↓im8, ss8, fi8, S2f0t0_law, S2f1t0_law, S2f0_law, S2f1_law, S0_law, S1_law, S2_law, S3_law, U2f0t0_law, U2f1t0_law, U2f1_law, U2f0_law, U3_law, U2_law, U1_law, U0_law]); (try simp only [T.bind_ret]); exact rfl) ?_); (try (with_reducible refine al_nx ?_))
    exact al_rtF rfl
theorem step_all (c : AV) (hc : c ∈ CSS.map caseV) : ∃ b ls few ups turns many S k, c = .tup [b, .lst ls, few, ups, turns, many] ∧ (∀ p : List AV, p.Perm ls → f_law_case_right [UL, b, .lst p, few, ups, turns] = .ret (.bl true)) ∧ ls.all (dat 11) = true ∧ ls.length < 1000 ∧
    f_Season [UL, .int 6, b, .lst ls] = .ret S ∧ f_count [S] = .ret k ∧ pNe k many = some (.bl false) := by
  obtain ⟨x, hx, rfl⟩ := List.mem_map.mp hc
  have a := List.all_eq_true.mp chk_A x hx
  refine ⟨_, _, _, _, _, _, x.S, .int x.many, rfl, fun p hp => case_right_eq x rfl a (List.all_eq_true.mp chk_B x hx) (List.all_eq_true.mp chk_S x hx) (List.all_eq_true.mp chk_T x hx) p hp, ?_⟩
  unfold chkA at a
  simp only [Bool.and_eq_true, decide_eq_true_eq] at a
  obtain ⟨a1, a2, a3, a4, a5, a6, a7, a8, a9⟩ := a
  exact ⟨a8, a9, isR_eq (List.all_eq_true.mp a1 _ (mem_prm (List.Perm.refl _))), isR_eq a4, pNe_self (a := .int x.many) rfl⟩
theorem law_true (ns : List Int) (hn : ns.length ≤ 63) : (f_law [.scr ns]).Al (fun t => t = .bl true) NoX := law30 UL (CSS.map caseV) hU cases_eq dat_all (by decide) step_all ns hn
end K30
set_option Elab.async false
set_option linter.all false
set_option maxRecDepth 100000
set_option maxHeartbeats 0
namespace K30
open PySem PySem.Spec PyProof.Rows L2 Dn
theorem walkD {l : PySem.W.OpenLaw} {n k : Nat} {q : Program} {loose : List Str} {XP : (Str → Option Value) → Heap → Prop} {YP : World → Heap → Prop} {d : DefRec} {CX : World → CXT} {x : Str} (hn : l.most = some n) (hn2 : n ≤ sizeLine) (hs : n = 63) (hdf : d.params.defaults = []) (hr : Room k callerA)
    (F : ∀ (w : World) (mg : Str → Option Value) (fa : Addr) (h : Heap), YP w h → h.Ns mainGlobals mg → mg d.name = some (.ref fa) → ∃ (K : PySem.W.Frag) (fd : FuncData), K.In h ∧ (∀ (s : Shared) (u : Value), BindsTo s fd ⟨[u], []⟩ [(x, u)]) ∧ ∀ base : Heap, K.In base → base.Ns mainGlobals mg → FnOk l.prog w K mg base (CX w) k fa fd [x] (Dn.spLaw K))
    (hx : ∀ (w : World) (H : Hp) (s : Shared) (e : Value) (s' : Shared), CX w [] H s (fun _ _ _ => False) e s' → False) : PySem.W.WalkO q loose XP YP l.row.toRowW d [] (fun f vs => PySem.call f vs) := by
  subst hs
  refine Att.attach_call hn hdf fun w s0 s1 mg mb fa o pm cd doc a us ns gr yp ho hd hcd hmg hobj hints hlen hgens => ?_
  obtain ⟨K, fd, kin, bd, hF⟩ := F w mg fa _ yp gr.T.g hmg
  exact law_call kin gr.T.g gr.T.b gr.T.builtins gr.T.nolimit hgens hobj hints (Nat.le_trans hlen hn2) hr hF bd (fun H h1 h2 => ⟨a, ns, rfl, h2, hlen, fun _ => rfl⟩) fun H e s' => hx w H s1 e s'
theorem all_mkD {l : PySem.W.OpenLaw} {w : World} {K : PySem.W.Frag} {h : Heap} {mg : Str → Option Value} {fa : Addr} (X : K.In h) (G : h.Ns mainGlobals mg) (hfa : mg "law" = some (.ref fa)) (c : He.SaysD faL fnL K) (xb : (exL.all fun e => e K) = true)
    : ∃ fd : FuncData, (∀ (s : Shared) (v : Value), BindsTo s fd ⟨[v], []⟩ [("_law_script", v)]) ∧ ∀ base : Heap, K.In base → base.Ns mainGlobals mg → FnOk l.prog w K mg base (L2.CX l.prog w) 12 fa fd ["_law_script"] (spLaw K) := by
  have aC_Rota : PySem.W.nsIn K mainGlobals "Rota" = some (some (.ref (He.ga K "Rota"))) := He.eqO_ok (c.fact 0 (f := .glo "Rota") rfl)
  obtain ⟨pg_Rota, q⟩ := He.ba (c.fact 1 (f := .cls "Rota") rfl)
  obtain ⟨hd_Rota, q⟩ := He.ba q
  obtain ⟨po_Rota, q⟩ := He.ba q
  have sa_Rota := He.eqO_ok q
  clear q
  have n_Rota_places := He.eqO_ok (c.fact 2 (f := .noat "Rota" "places") rfl)
  have n_Rota_rows := He.eqO_ok (c.fact 3 (f := .noat "Rota" "rows") rfl)
  have aC_Season : PySem.W.nsIn K mainGlobals "Season" = some (some (.ref (He.ga K "Season"))) := He.eqO_ok (c.fact 4 (f := .glo "Season") rfl)
  obtain ⟨pg_Season, q⟩ := He.ba (c.fact 5 (f := .cls "Season") rfl)
  obtain ⟨hd_Season, q⟩ := He.ba q
  obtain ⟨po_Season, q⟩ := He.ba q
  have sa_Season := He.eqO_ok q
  clear q
  have n_Season_rota := He.eqO_ok (c.fact 6 (f := .noat "Season" "rota") rfl)
  have n_Season_days := He.eqO_ok (c.fact 7 (f := .noat "Season" "days") rfl)
  have n_Season_budget := He.eqO_ok (c.fact 8 (f := .noat "Season" "budget") rfl)
  have n_Season_looks := He.eqO_ok (c.fact 9 (f := .noat "Season" "looks") rfl)
  have n_Season_wheels := He.eqO_ok (c.fact 10 (f := .noat "Season" "wheels") rfl)
  have n_Season_turnings := He.eqO_ok (c.fact 11 (f := .noat "Season" "turnings") rfl)
  have n_Season_due := He.eqO_ok (c.fact 12 (f := .noat "Season" "due") rfl)
  have aC_Course : PySem.W.nsIn K mainGlobals "Course" = some (some (.ref (He.ga K "Course"))) := He.eqO_ok (c.fact 13 (f := .glo "Course") rfl)
  obtain ⟨pg_Course, q⟩ := He.ba (c.fact 14 (f := .cls "Course") rfl)
  obtain ⟨hd_Course, q⟩ := He.ba q
  obtain ⟨po_Course, q⟩ := He.ba q
  have sa_Course := He.eqO_ok q
  clear q
  have n_Course_stretch_of := He.eqO_ok (c.fact 15 (f := .noat "Course" "stretch_of") rfl)
  have n_Course_stretches := He.eqO_ok (c.fact 16 (f := .noat "Course" "stretches") rfl)
  have n_Course_ways := He.eqO_ok (c.fact 17 (f := .noat "Course" "ways") rfl)
  have n_Course_sums := He.eqO_ok (c.fact 18 (f := .noat "Course" "sums") rfl)
  have n_Course_left := He.eqO_ok (c.fact 19 (f := .noat "Course" "left") rfl)
  have a1 : PySem.W.nsIn K mainGlobals "_law_deal" = some (some (.ref (He.ga K "_law_deal"))) := He.eqO_ok (c.fact 20 (f := .glo "_law_deal") rfl)
  obtain ⟨fd1, G1⟩ : ∃ fd, FunD K "_law_deal" "_law_deal" (defArgs s_law_deal) (defBody s_law_deal) (defScope s_law_deal) [] [] (He.ga K "_law_deal") fd := c.def_ 0 rfl
  have k1 := G1.kp
  have a2 : PySem.W.nsIn K mainGlobals "is_integer" = some (some (.ref (He.ga K "is_integer"))) := He.eqO_ok (c.fact 21 (f := .glo "is_integer") rfl)
  obtain ⟨fd2, G2⟩ : ∃ fd, FunD K "is_integer" "is_integer" (defArgs s_is_integer) (defBody s_is_integer) (defScope s_is_integer) [] [] (He.ga K "is_integer") fd := c.def_ 1 rfl
  have k2 := G2.kp
  have a3 : PySem.W.nsIn K mainGlobals "is_whole" = some (some (.ref (He.ga K "is_whole"))) := He.eqO_ok (c.fact 22 (f := .glo "is_whole") rfl)
  obtain ⟨fd3, G3⟩ : ∃ fd, FunD K "is_whole" "is_whole" (defArgs s_is_whole) (defBody s_is_whole) (defScope s_is_whole) [] [] (He.ga K "is_whole") fd := c.def_ 2 rfl
  have k3 := G3.kp
  have a4 : PySem.W.nsIn K mainGlobals "is_sequence" = some (some (.ref (He.ga K "is_sequence"))) := He.eqO_ok (c.fact 23 (f := .glo "is_sequence") rfl)
  obtain ⟨fd4, G4⟩ : ∃ fd, FunD K "is_sequence" "is_sequence" (defArgs s_is_sequence) (defBody s_is_sequence) (defScope s_is_sequence) [] [] (He.ga K "is_sequence") fd := c.def_ 3 rfl
  have k4 := G4.kp
  have a5 : PySem.W.nsIn K mainGlobals "is_below" = some (some (.ref (He.ga K "is_below"))) := He.eqO_ok (c.fact 24 (f := .glo "is_below") rfl)
  obtain ⟨fd5, G5⟩ : ∃ fd, FunD K "is_below" "is_below" (defArgs s_is_below) (defBody s_is_below) (defScope s_is_below) [] [] (He.ga K "is_below") fd := c.def_ 4 rfl
  have k5 := G5.kp
  have a6 : PySem.W.nsIn K mainGlobals "are_spots" = some (some (.ref (He.ga K "are_spots"))) := He.eqO_ok (c.fact 25 (f := .glo "are_spots") rfl)
  obtain ⟨fd6, G6⟩ : ∃ fd, FunD K "are_spots" "are_spots" (defArgs s_are_spots) (defBody s_are_spots) (defScope s_are_spots) [] [] (He.ga K "are_spots") fd := c.def_ 5 rfl
  have k6 := G6.kp
  have a7 : PySem.W.nsIn K mainGlobals "is_row" = some (some (.ref (He.ga K "is_row"))) := He.eqO_ok (c.fact 26 (f := .glo "is_row") rfl)
  obtain ⟨fd7, G7⟩ : ∃ fd, FunD K "is_row" "is_row" (defArgs s_is_row) (defBody s_is_row) (defScope s_is_row) [] [] (He.ga K "is_row") fd := c.def_ 6 rfl
  have k7 := G7.kp
  have a8 : PySem.W.nsIn K mainGlobals "are_rows" = some (some (.ref (He.ga K "are_rows"))) := He.eqO_ok (c.fact 27 (f := .glo "are_rows") rfl)
  obtain ⟨fd8, G8⟩ : ∃ fd, FunD K "are_rows" "are_rows" (defArgs s_are_rows) (defBody s_are_rows) (defScope s_are_rows) [] [] (He.ga K "are_rows") fd := c.def_ 7 rfl
  have k8 := G8.kp
  obtain ⟨mk_Rota, q⟩ := He.ba (c.fact 28 (f := .mkr "Rota") rfl)
  obtain ⟨q1, q⟩ := He.ba q
  obtain ⟨i9, kc_Rota⟩ := He.ba q
  have a9 := He.eqO_ok q1
  clear q q1
  obtain ⟨fd9, G9⟩ : ∃ fd, FunD K "__init__" "Rota.__init__" (defArgs s_Rota_init) (defBody s_Rota_init) (defScope s_Rota_init) [] [] (He.ma K (He.ga K "Rota") "__init__") fd := c.def_ 8 rfl
  have k9 := G9.kp
  have a10 : PySem.W.nsIn K mainGlobals "_law_draw" = some (some (.ref (He.ga K "_law_draw"))) := He.eqO_ok (c.fact 29 (f := .glo "_law_draw") rfl)
  obtain ⟨fd10, G10⟩ : ∃ fd, FunD K "_law_draw" "_law_draw" (defArgs s_law_draw) (defBody s_law_draw) (defScope s_law_draw) [] [] (He.ga K "_law_draw") fd := c.def_ 9 rfl
  have k10 := G10.kp
  have a11 : PySem.W.nsIn K mainGlobals "_law_mixed" = some (some (.ref (He.ga K "_law_mixed"))) := He.eqO_ok (c.fact 30 (f := .glo "_law_mixed") rfl)
  obtain ⟨fd11, G11⟩ : ∃ fd, FunD K "_law_mixed" "_law_mixed" (defArgs s_law_mixed) (defBody s_law_mixed) (defScope s_law_mixed) [] [] (He.ga K "_law_mixed") fd := c.def_ 10 rfl
  have k11 := G11.kp
  have a12 : PySem.W.nsIn K mainGlobals "_law_cases" = some (some (.ref (He.ga K "_law_cases"))) := He.eqO_ok (c.fact 31 (f := .glo "_law_cases") rfl)
  obtain ⟨fd12, G12⟩ : ∃ fd, FunD K "_law_cases" "_law_cases" (defArgs s_law_cases) (defBody s_law_cases) (defScope s_law_cases) [] [] (He.ga K "_law_cases") fd := c.def_ 11 rfl
  have k12 := G12.kp
  have a13 : PySem.W.nsIn K mainGlobals "is_look" = some (some (.ref (He.ga K "is_look"))) := He.eqO_ok (c.fact 32 (f := .glo "is_look") rfl)
  obtain ⟨fd13, G13⟩ : ∃ fd, FunD K "is_look" "is_look" (defArgs s_is_look) (defBody s_is_look) (defScope s_is_look) [] [] (He.ga K "is_look") fd := c.def_ 12 rfl
  have k13 := G13.kp
  have a14 : PySem.W.nsIn K mainGlobals "are_looks" = some (some (.ref (He.ga K "are_looks"))) := He.eqO_ok (c.fact 33 (f := .glo "are_looks") rfl)
  obtain ⟨fd14, G14⟩ : ∃ fd, FunD K "are_looks" "are_looks" (defArgs s_are_looks) (defBody s_are_looks) (defScope s_are_looks) [] [] (He.ga K "are_looks") fd := c.def_ 13 rfl
  have k14 := G14.kp
  have a15 : PySem.W.nsIn K mainGlobals "round_spots" = some (some (.ref (He.ga K "round_spots"))) := He.eqO_ok (c.fact 34 (f := .glo "round_spots") rfl)
  obtain ⟨fd15, G15⟩ : ∃ fd, FunD K "round_spots" "round_spots" (defArgs s_round_spots) (defBody s_round_spots) (defScope s_round_spots) [] [] (He.ga K "round_spots") fd := c.def_ 14 rfl
  have k15 := G15.kp
  obtain ⟨q1, q⟩ := He.ba (c.fact 35 (f := .meth "Rota" "__len__") rfl)
  obtain ⟨i16, _⟩ := He.ba q
  have a16 := He.eqO_ok q1
  clear q q1
  obtain ⟨fd16, G16⟩ : ∃ fd, FunD K "__len__" "Rota.__len__" (defArgs s_Rota_len) (defBody s_Rota_len) (defScope s_Rota_len) [] [] (He.ma K (He.ga K "Rota") "__len__") fd := c.def_ 15 rfl
  have k16 := G16.kp
  have a17 : PySem.W.nsIn K mainGlobals "dues_ahead" = some (some (.ref (He.ga K "dues_ahead"))) := He.eqO_ok (c.fact 36 (f := .glo "dues_ahead") rfl)
  obtain ⟨fd17, G17⟩ : ∃ fd, FunD K "dues_ahead" "dues_ahead" (defArgs s_dues_ahead) (defBody s_dues_ahead) (defScope s_dues_ahead) [] [] (He.ga K "dues_ahead") fd := c.def_ 16 rfl
  have k17 := G17.kp
  obtain ⟨mk_Season, q⟩ := He.ba (c.fact 37 (f := .mkr "Season") rfl)
  obtain ⟨q1, q⟩ := He.ba q
  obtain ⟨i18, kc_Season⟩ := He.ba q
  have a18 := He.eqO_ok q1
  clear q q1
  obtain ⟨fd18, G18⟩ : ∃ fd, FunD K "__init__" "Season.__init__" (defArgs s_Season_init) (defBody s_Season_init) (defScope s_Season_init) [.ref (He.dflAt ("Season", some "__init__") 0 K)] [] (He.ma K (He.ga K "Season") "__init__") fd := c.def_ 17 rfl
  have k18 := G18.kp
  obtain ⟨p18, m18, v18, w18, x18⟩ := unitB_ok (ex_get xb 0 (e := exF0) rfl)
  have a19 : PySem.W.nsIn K mainGlobals "days_between" = some (some (.ref (He.ga K "days_between"))) := He.eqO_ok (c.fact 38 (f := .glo "days_between") rfl)
  obtain ⟨fd19, G19⟩ : ∃ fd, FunD K "days_between" "days_between" (defArgs s_days_between) (defBody s_days_between) (defScope s_days_between) [] [] (He.ga K "days_between") fd := c.def_ 18 rfl
  have k19 := G19.kp
  have a20 : PySem.W.nsIn K mainGlobals "parts" = some (some (.ref (He.ga K "parts"))) := He.eqO_ok (c.fact 39 (f := .glo "parts") rfl)
  obtain ⟨fd20, G20⟩ : ∃ fd, FunD K "parts" "parts" (defArgs s_parts) (defBody s_parts) (defScope s_parts) [] [] (He.ga K "parts") fd := c.def_ 19 rfl
  have k20 := G20.kp
  have a21 : PySem.W.nsIn K mainGlobals "odd_stretches" = some (some (.ref (He.ga K "odd_stretches"))) := He.eqO_ok (c.fact 40 (f := .glo "odd_stretches") rfl)
  obtain ⟨fd21, G21⟩ : ∃ fd, FunD K "odd_stretches" "odd_stretches" (defArgs s_odd_stretches) (defBody s_odd_stretches) (defScope s_odd_stretches) [] [] (He.ga K "odd_stretches") fd := c.def_ 20 rfl
  have k21 := G21.kp
  have a22 : PySem.W.nsIn K mainGlobals "least" = some (some (.ref (He.ga K "least"))) := He.eqO_ok (c.fact 41 (f := .glo "least") rfl)
  obtain ⟨fd22, G22⟩ : ∃ fd, FunD K "least" "least" (defArgs s_least) (defBody s_least) (defScope s_least) [] [] (He.ga K "least") fd := c.def_ 21 rfl
  have k22 := G22.kp
  have a23 : PySem.W.nsIn K mainGlobals "possible" = some (some (.ref (He.ga K "possible"))) := He.eqO_ok (c.fact 42 (f := .glo "possible") rfl)
  obtain ⟨fd23, G23⟩ : ∃ fd, FunD K "possible" "possible" (defArgs s_possible) (defBody s_possible) (defScope s_possible) [] [] (He.ga K "possible") fd := c.def_ 22 rfl
  have k23 := G23.kp
  have a24 : PySem.W.nsIn K mainGlobals "check_possible" = some (some (.ref (He.ga K "check_possible"))) := He.eqO_ok (c.fact 43 (f := .glo "check_possible") rfl)
  obtain ⟨fd24, G24⟩ : ∃ fd, FunD K "check_possible" "check_possible" (defArgs s_check_possible) (defBody s_check_possible) (defScope s_check_possible) [] [] (He.ga K "check_possible") fd := c.def_ 23 rfl
  have k24 := G24.kp
  have a25 : PySem.W.nsIn K mainGlobals "surely_missed" = some (some (.ref (He.ga K "surely_missed"))) := He.eqO_ok (c.fact 44 (f := .glo "surely_missed") rfl)
  obtain ⟨fd25, G25⟩ : ∃ fd, FunD K "surely_missed" "surely_missed" (defArgs s_surely_missed) (defBody s_surely_missed) (defScope s_surely_missed) [] [] (He.ga K "surely_missed") fd := c.def_ 24 rfl
  have k25 := G25.kp
  have a26 : PySem.W.nsIn K mainGlobals "slack" = some (some (.ref (He.ga K "slack"))) := He.eqO_ok (c.fact 45 (f := .glo "slack") rfl)
  obtain ⟨fd26, G26⟩ : ∃ fd, FunD K "slack" "slack" (defArgs s_slack) (defBody s_slack) (defScope s_slack) [] [] (He.ga K "slack") fd := c.def_ 25 rfl
  have k26 := G26.kp
  have a27 : PySem.W.nsIn K mainGlobals "check_wheel" = some (some (.ref (He.ga K "check_wheel"))) := He.eqO_ok (c.fact 46 (f := .glo "check_wheel") rfl)
  obtain ⟨fd27, G27⟩ : ∃ fd, FunD K "check_wheel" "check_wheel" (defArgs s_check_wheel) (defBody s_check_wheel) (defScope s_check_wheel) [] [] (He.ga K "check_wheel") fd := c.def_ 26 rfl
  have k27 := G27.kp
  obtain ⟨q1, q⟩ := He.ba (c.fact 47 (f := .meth "Season" "seen") rfl)
  obtain ⟨i28, _⟩ := He.ba q
  have a28 := He.eqO_ok q1
  clear q q1
  obtain ⟨fd28, G28⟩ : ∃ fd, FunD K "seen" "Season.seen" (defArgs s_Season_seen) (defBody s_Season_seen) (defScope s_Season_seen) [] [] (He.ma K (He.ga K "Season") "seen") fd := c.def_ 27 rfl
  have k28 := G28.kp
  have a29 : PySem.W.nsIn K mainGlobals "possible_sides" = some (some (.ref (He.ga K "possible_sides"))) := He.eqO_ok (c.fact 48 (f := .glo "possible_sides") rfl)
  obtain ⟨fd29, G29⟩ : ∃ fd, FunD K "possible_sides" "possible_sides" (defArgs s_possible_sides) (defBody s_possible_sides) (defScope s_possible_sides) [] [] (He.ga K "possible_sides") fd := c.def_ 28 rfl
  have k29 := G29.kp
  have a30 : PySem.W.nsIn K mainGlobals "side" = some (some (.ref (He.ga K "side"))) := He.eqO_ok (c.fact 49 (f := .glo "side") rfl)
  obtain ⟨fd30, G30⟩ : ∃ fd, FunD K "side" "side" (defArgs s_side) (defBody s_side) (defScope s_side) [] [] (He.ga K "side") fd := c.def_ 29 rfl
  have k30 := G30.kp
  have a31 : PySem.W.nsIn K mainGlobals "is_turning" = some (some (.ref (He.ga K "is_turning"))) := He.eqO_ok (c.fact 50 (f := .glo "is_turning") rfl)
  obtain ⟨fd31, G31⟩ : ∃ fd, FunD K "is_turning" "is_turning" (defArgs s_is_turning) (defBody s_is_turning) (defScope s_is_turning) [] [] (He.ga K "is_turning") fd := c.def_ 30 rfl
  have k31 := G31.kp
  have a32 : PySem.W.nsIn K mainGlobals "check_turning" = some (some (.ref (He.ga K "check_turning"))) := He.eqO_ok (c.fact 51 (f := .glo "check_turning") rfl)
  obtain ⟨fd32, G32⟩ : ∃ fd, FunD K "check_turning" "check_turning" (defArgs s_check_turning) (defBody s_check_turning) (defScope s_check_turning) [] [] (He.ga K "check_turning") fd := c.def_ 31 rfl
  have k32 := G32.kp
  have a33 : PySem.W.nsIn K mainGlobals "if_missed" = some (some (.ref (He.ga K "if_missed"))) := He.eqO_ok (c.fact 52 (f := .glo "if_missed") rfl)
  obtain ⟨fd33, G33⟩ : ∃ fd, FunD K "if_missed" "if_missed" (defArgs s_if_missed) (defBody s_if_missed) (defScope s_if_missed) [] [] (He.ga K "if_missed") fd := c.def_ 32 rfl
  have k33 := G33.kp
  have a34 : PySem.W.nsIn K mainGlobals "if_made" = some (some (.ref (He.ga K "if_made"))) := He.eqO_ok (c.fact 53 (f := .glo "if_made") rfl)
  obtain ⟨fd34, G34⟩ : ∃ fd, FunD K "if_made" "if_made" (defArgs s_if_made) (defBody s_if_made) (defScope s_if_made) [] [] (He.ga K "if_made") fd := c.def_ 33 rfl
  have k34 := G34.kp
  have a35 : PySem.W.nsIn K mainGlobals "turning" = some (some (.ref (He.ga K "turning"))) := He.eqO_ok (c.fact 54 (f := .glo "turning") rfl)
  obtain ⟨fd35, G35⟩ : ∃ fd, FunD K "turning" "turning" (defArgs s_turning) (defBody s_turning) (defScope s_turning) [] [] (He.ga K "turning") fd := c.def_ 34 rfl
  have k35 := G35.kp
  have a36 : PySem.W.nsIn K mainGlobals "_law_case_right" = some (some (.ref (He.ga K "_law_case_right"))) := He.eqO_ok (c.fact 55 (f := .glo "_law_case_right") rfl)
  obtain ⟨fd36, G36⟩ : ∃ fd, FunD K "_law_case_right" "_law_case_right" (defArgs s_law_case_right) (defBody s_law_case_right) (defScope s_law_case_right) [] [] (He.ga K "_law_case_right") fd := c.def_ 35 rfl
  have k36 := G36.kp
  have a37 : PySem.W.nsIn K mainGlobals "least_need" = some (some (.ref (He.ga K "least_need"))) := He.eqO_ok (c.fact 56 (f := .glo "least_need") rfl)
  obtain ⟨fd37, G37⟩ : ∃ fd, FunD K "least_need" "least_need" (defArgs s_least_need) (defBody s_least_need) (defScope s_least_need) [] [] (He.ga K "least_need") fd := c.def_ 36 rfl
  have k37 := G37.kp
  obtain ⟨q1, q⟩ := He.ba (c.fact 57 (f := .meth "Course" "within") rfl)
  obtain ⟨i38, _⟩ := He.ba q
  have a38 := He.eqO_ok q1
  clear q q1
  obtain ⟨fd38, G38⟩ : ∃ fd, FunD K "within" "Course.within" (defArgs s_Course_within) (defBody s_Course_within) (defScope s_Course_within) [] [] (He.ma K (He.ga K "Course") "within") fd := c.def_ 37 rfl
  have k38 := G38.kp
  obtain ⟨q1, q⟩ := He.ba (c.fact 58 (f := .meth "Course" "many") rfl)
  obtain ⟨i39, _⟩ := He.ba q
  have a39 := He.eqO_ok q1
  clear q q1
  obtain ⟨fd39, G39⟩ : ∃ fd, FunD K "many" "Course.many" (defArgs s_Course_many) (defBody s_Course_many) (defScope s_Course_many) [] [] (He.ma K (He.ga K "Course") "many") fd := c.def_ 38 rfl
  have k39 := G39.kp
  obtain ⟨mk_Course, q⟩ := He.ba (c.fact 59 (f := .mkr "Course") rfl)
  obtain ⟨q1, q⟩ := He.ba q
  obtain ⟨i40, kc_Course⟩ := He.ba q
  have a40 := He.eqO_ok q1
  clear q q1
  obtain ⟨fd40, G40⟩ : ∃ fd, FunD K "__init__" "Course.__init__" (defArgs s_Course_init) (defBody s_Course_init) (defScope s_Course_init) [] [] (He.ma K (He.ga K "Course") "__init__") fd := c.def_ 39 rfl
  have k40 := G40.kp
  have a41 : PySem.W.nsIn K mainGlobals "product_of" = some (some (.ref (He.ga K "product_of"))) := He.eqO_ok (c.fact 60 (f := .glo "product_of") rfl)
  obtain ⟨fd41, G41⟩ : ∃ fd, FunD K "product_of" "product_of" (defArgs s_product_of) (defBody s_product_of) (defScope s_product_of) [] [] (He.ga K "product_of") fd := c.def_ 40 rfl
  have k41 := G41.kp
  have a42 : PySem.W.nsIn K mainGlobals "first_sums" = some (some (.ref (He.ga K "first_sums"))) := He.eqO_ok (c.fact 61 (f := .glo "first_sums") rfl)
  obtain ⟨fd42, G42⟩ : ∃ fd, FunD K "first_sums" "first_sums" (defArgs s_first_sums) (defBody s_first_sums) (defScope s_first_sums) [] [] (He.ga K "first_sums") fd := c.def_ 41 rfl
  have k42 := G42.kp
  have a43 : PySem.W.nsIn K mainGlobals "own_ways" = some (some (.ref (He.ga K "own_ways"))) := He.eqO_ok (c.fact 62 (f := .glo "own_ways") rfl)
  obtain ⟨fd43, G43⟩ : ∃ fd, FunD K "own_ways" "own_ways" (defArgs s_own_ways) (defBody s_own_ways) (defScope s_own_ways) [] [] (He.ga K "own_ways") fd := c.def_ 42 rfl
  have k43 := G43.kp
  have a44 : PySem.W.nsIn K mainGlobals "many_ways" = some (some (.ref (He.ga K "many_ways"))) := He.eqO_ok (c.fact 63 (f := .glo "many_ways") rfl)
  obtain ⟨fd44, G44⟩ : ∃ fd, FunD K "many_ways" "many_ways" (defArgs s_many_ways) (defBody s_many_ways) (defScope s_many_ways) [] [] (He.ga K "many_ways") fd := c.def_ 43 rfl
  have k44 := G44.kp
  have a45 : PySem.W.nsIn K mainGlobals "start" = some (some (.ref (He.ga K "start"))) := He.eqO_ok (c.fact 64 (f := .glo "start") rfl)
  obtain ⟨fd45, G45⟩ : ∃ fd, FunD K "start" "start" (defArgs s_start) (defBody s_start) (defScope s_start) [] [] (He.ga K "start") fd := c.def_ 44 rfl
  have k45 := G45.kp
  have a46 : PySem.W.nsIn K mainGlobals "count" = some (some (.ref (He.ga K "count"))) := He.eqO_ok (c.fact 65 (f := .glo "count") rfl)
  obtain ⟨fd46, G46⟩ : ∃ fd, FunD K "count" "count" (defArgs s_count) (defBody s_count) (defScope s_count) [] [] (He.ga K "count") fd := c.def_ 45 rfl
  have k46 := G46.kp
  have a47 : PySem.W.nsIn K mainGlobals "law" = some (some (.ref (He.ga K "law"))) := He.eqO_ok (c.fact 66 (f := .glo "law") rfl)
  obtain ⟨fd47, G47⟩ : ∃ fd, FunD K "law" "law" (defArgs s_law) (defBody s_law) (defScope s_law) [] [] (He.ga K "law") fd := c.def_ 46 rfl
  have k47 := G47.kp
  have z_abs : PySem.W.nsIn K mainGlobals "abs" = some none := He.eqO_ok (c.fact 67 (f := .free "abs") rfl)
  have z_all : PySem.W.nsIn K mainGlobals "all" = some none := He.eqO_ok (c.fact 68 (f := .free "all") rfl)
  have z_any : PySem.W.nsIn K mainGlobals "any" = some none := He.eqO_ok (c.fact 69 (f := .free "any") rfl)
  have z_bool : PySem.W.nsIn K mainGlobals "bool" = some none := He.eqO_ok (c.fact 70 (f := .free "bool") rfl)
  have z_comb : PySem.W.nsIn K mainGlobals "comb" = some (some (.builtin "math.comb")) := He.eqO_ok (ex_get xb 1 (e := exF1) rfl)
  have z_enumerate : PySem.W.nsIn K mainGlobals "enumerate" = some none := He.eqO_ok (c.fact 71 (f := .free "enumerate") rfl)
  have z_int : PySem.W.nsIn K mainGlobals "int" = some none := He.eqO_ok (c.fact 72 (f := .free "int") rfl)
  have z_isinstance : PySem.W.nsIn K mainGlobals "isinstance" = some none := He.eqO_ok (c.fact 73 (f := .free "isinstance") rfl)
  have z_len : PySem.W.nsIn K mainGlobals "len" = some none := He.eqO_ok (c.fact 74 (f := .free "len") rfl)
  have z_list : PySem.W.nsIn K mainGlobals "list" = some none := He.eqO_ok (c.fact 75 (f := .free "list") rfl)
  have z_max : PySem.W.nsIn K mainGlobals "max" = some none := He.eqO_ok (c.fact 76 (f := .free "max") rfl)
  have z_min : PySem.W.nsIn K mainGlobals "min" = some none := He.eqO_ok (c.fact 77 (f := .free "min") rfl)
  have z_range : PySem.W.nsIn K mainGlobals "range" = some none := He.eqO_ok (c.fact 78 (f := .free "range") rfl)
  have z_set : PySem.W.nsIn K mainGlobals "set" = some none := He.eqO_ok (c.fact 79 (f := .free "set") rfl)
  have z_sorted : PySem.W.nsIn K mainGlobals "sorted" = some none := He.eqO_ok (c.fact 80 (f := .free "sorted") rfl)
  have z_sum : PySem.W.nsIn K mainGlobals "sum" = some none := He.eqO_ok (c.fact 81 (f := .free "sum") rfl)
  have z_tuple : PySem.W.nsIn K mainGlobals "tuple" = some none := He.eqO_ok (c.fact 82 (f := .free "tuple") rfl)
  have e := hfa.symm.trans (PySem.W.mg_of X G a47)
  cases e
  have T : Bl mg := ⟨PySem.W.mg_none_of X G z_abs, PySem.W.mg_none_of X G z_all, PySem.W.mg_none_of X G z_any, PySem.W.mg_none_of X G z_bool, PySem.W.mg_of X G z_comb, PySem.W.mg_none_of X G z_enumerate, PySem.W.mg_none_of X G z_int, PySem.W.mg_none_of X G z_isinstance, PySem.W.mg_none_of X G z_len, PySem.W.mg_none_of X G z_list, PySem.W.mg_none_of X G z_max, PySem.W.mg_none_of X G z_min, PySem.W.mg_none_of X G z_range, PySem.W.mg_none_of X G z_set, PySem.W.mg_none_of X G z_sorted, PySem.W.mg_none_of X G z_sum, PySem.W.mg_none_of X G z_tuple⟩
  have Z_Rota : Tx_Rota K mg (He.ga K "Rota") := ⟨PySem.W.mg_of X G aC_Rota, ⟨pg_Rota, hd_Rota, po_Rota, sa_Rota⟩, n_Rota_places, n_Rota_rows⟩
  have Z_Season : Tx_Season K mg (He.ga K "Season") := ⟨PySem.W.mg_of X G aC_Season, ⟨pg_Season, hd_Season, po_Season, sa_Season⟩, n_Season_rota, n_Season_days, n_Season_budget, n_Season_looks, n_Season_wheels, n_Season_turnings, n_Season_due⟩
  have Z_Course : Tx_Course K mg (He.ga K "Course") := ⟨PySem.W.mg_of X G aC_Course, ⟨pg_Course, hd_Course, po_Course, sa_Course⟩, n_Course_stretch_of, n_Course_stretches, n_Course_ways, n_Course_sums, n_Course_left⟩
  have F1 := fun_ofD G1
  have b1 := F1.binds (ps := ["_law_script", "_law_base"]) fun _ _ _ _ _ _ us hl => match us, hl with | [_, _], _ => rfl
  have g1 := PySem.W.mg_of X G a1
  have F2 := fun_ofD G2
  have b2 := F2.binds (ps := ["value"]) fun _ _ _ _ _ _ us hl => match us, hl with | [_], _ => rfl
  have g2 := PySem.W.mg_of X G a2
  have F3 := fun_ofD G3
  have b3 := F3.binds (ps := ["value", "least"]) fun _ _ _ _ _ _ us hl => match us, hl with | [_, _], _ => rfl
  have g3 := PySem.W.mg_of X G a3
  have F4 := fun_ofD G4
  have b4 := F4.binds (ps := ["value"]) fun _ _ _ _ _ _ us hl => match us, hl with | [_], _ => rfl
  have g4 := PySem.W.mg_of X G a4
  have F5 := fun_ofD G5
  have b5 := F5.binds (ps := ["value", "many"]) fun _ _ _ _ _ _ us hl => match us, hl with | [_, _], _ => rfl
  have g5 := PySem.W.mg_of X G a5
  have F6 := fun_ofD G6
  have b6 := F6.binds (ps := ["spots", "places"]) fun _ _ _ _ _ _ us hl => match us, hl with | [_, _], _ => rfl
  have g6 := PySem.W.mg_of X G a6
  have F7 := fun_ofD G7
  have b7 := F7.binds (ps := ["row", "places"]) fun _ _ _ _ _ _ us hl => match us, hl with | [_, _], _ => rfl
  have g7 := PySem.W.mg_of X G a7
  have F8 := fun_ofD G8
  have b8 := F8.binds (ps := ["rows", "places"]) fun _ _ _ _ _ _ us hl => match us, hl with | [_, _], _ => rfl
  have g8 := PySem.W.mg_of X G a8
  have F9 := fun_ofD G9
  have b9 := F9.binds (ps := ["self", "places", "rows"]) fun _ _ _ _ _ _ us hl => match us, hl with | [_, _, _], _ => rfl
  have F10 := fun_ofD G10
  have b10 := F10.binds (ps := ["_law_deal_here", "_law_bound"]) fun _ _ _ _ _ _ us hl => match us, hl with | [_, _], _ => rfl
  have g10 := PySem.W.mg_of X G a10
  have F11 := fun_ofD G11
  have b11 := F11.binds (ps := ["_law_deal_here", "_law_some"]) fun _ _ _ _ _ _ us hl => match us, hl with | [_, _], _ => rfl
  have g11 := PySem.W.mg_of X G a11
  have F12 := fun_ofD G12
  have b12 := F12.binds (ps := []) fun _ _ _ _ _ _ us hl => match us, hl with | [], _ => rfl
  have g12 := PySem.W.mg_of X G a12
  have F13 := fun_ofD G13
  have b13 := F13.binds (ps := ["look", "wheels", "days"]) fun _ _ _ _ _ _ us hl => match us, hl with | [_, _, _], _ => rfl
  have g13 := PySem.W.mg_of X G a13
  have F14 := fun_ofD G14
  have b14 := F14.binds (ps := ["looks", "wheels", "days"]) fun _ _ _ _ _ _ us hl => match us, hl with | [_, _, _], _ => rfl
  have g14 := PySem.W.mg_of X G a14
  have F15 := fun_ofD G15
  have b15 := F15.binds (ps := ["rota", "wheel"]) fun _ _ _ _ _ _ us hl => match us, hl with | [_, _], _ => rfl
  have g15 := PySem.W.mg_of X G a15
  have F16 := fun_ofD G16
  have b16 := F16.binds (ps := ["self"]) fun _ _ _ _ _ _ us hl => match us, hl with | [_], _ => rfl
  have F17 := fun_ofD G17
  have b17 := F17.binds (ps := ["rota", "wheel", "day"]) fun _ _ _ _ _ _ us hl => match us, hl with | [_, _, _], _ => rfl
  have g17 := PySem.W.mg_of X G a17
  have F18 := G18
  have F19 := fun_ofD G19
  have b19 := F19.binds (ps := ["days", "first", "last"]) fun _ _ _ _ _ _ us hl => match us, hl with | [_, _, _], _ => rfl
  have g19 := PySem.W.mg_of X G a19
  have F20 := fun_ofD G20
  have b20 := F20.binds (ps := ["season", "wheel"]) fun _ _ _ _ _ _ us hl => match us, hl with | [_, _], _ => rfl
  have g20 := PySem.W.mg_of X G a20
  have F21 := fun_ofD G21
  have b21 := F21.binds (ps := ["season"]) fun _ _ _ _ _ _ us hl => match us, hl with | [_], _ => rfl
  have g21 := PySem.W.mg_of X G a21
  have F22 := fun_ofD G22
  have b22 := F22.binds (ps := ["season"]) fun _ _ _ _ _ _ us hl => match us, hl with | [_], _ => rfl
  have g22 := PySem.W.mg_of X G a22
  have F23 := fun_ofD G23
  have b23 := F23.binds (ps := ["season"]) fun _ _ _ _ _ _ us hl => match us, hl with | [_], _ => rfl
  have g23 := PySem.W.mg_of X G a23
  have F24 := fun_ofD G24
  have b24 := F24.binds (ps := ["season"]) fun _ _ _ _ _ _ us hl => match us, hl with | [_], _ => rfl
  have g24 := PySem.W.mg_of X G a24
  have F25 := fun_ofD G25
  have b25 := F25.binds (ps := ["season"]) fun _ _ _ _ _ _ us hl => match us, hl with | [_], _ => rfl
  have g25 := PySem.W.mg_of X G a25
  have F26 := fun_ofD G26
  have b26 := F26.binds (ps := ["season"]) fun _ _ _ _ _ _ us hl => match us, hl with | [_], _ => rfl
  have g26 := PySem.W.mg_of X G a26
  have F27 := fun_ofD G27
  have b27 := F27.binds (ps := ["rota", "wheel"]) fun _ _ _ _ _ _ us hl => match us, hl with | [_, _], _ => rfl
  have g27 := PySem.W.mg_of X G a27
  have F28 := fun_ofD G28
  have b28 := F28.binds (ps := ["self", "looks"]) fun _ _ _ _ _ _ us hl => match us, hl with | [_, _], _ => rfl
  have F29 := fun_ofD G29
  have b29 := F29.binds (ps := ["season", "wheel", "day"]) fun _ _ _ _ _ _ us hl => match us, hl with | [_, _, _], _ => rfl
  have g29 := PySem.W.mg_of X G a29
  have F30 := fun_ofD G30
  have b30 := F30.binds (ps := ["season", "wheel", "day"]) fun _ _ _ _ _ _ us hl => match us, hl with | [_, _, _], _ => rfl
  have g30 := PySem.W.mg_of X G a30
  have F31 := fun_ofD G31
  have b31 := F31.binds (ps := ["season", "pair"]) fun _ _ _ _ _ _ us hl => match us, hl with | [_, _], _ => rfl
  have g31 := PySem.W.mg_of X G a31
  have F32 := fun_ofD G32
  have b32 := F32.binds (ps := ["season", "day", "wheel"]) fun _ _ _ _ _ _ us hl => match us, hl with | [_, _, _], _ => rfl
  have g32 := PySem.W.mg_of X G a32
  have F33 := fun_ofD G33
  have b33 := F33.binds (ps := ["season", "day", "wheel"]) fun _ _ _ _ _ _ us hl => match us, hl with | [_, _, _], _ => rfl
  have g33 := PySem.W.mg_of X G a33
  have F34 := fun_ofD G34
  have b34 := F34.binds (ps := ["season", "day", "wheel"]) fun _ _ _ _ _ _ us hl => match us, hl with | [_, _, _], _ => rfl
  have g34 := PySem.W.mg_of X G a34
  have F35 := fun_ofD G35
  have b35 := F35.binds (ps := ["season", "day", "wheel"]) fun _ _ _ _ _ _ us hl => match us, hl with | [_, _, _], _ => rfl
  have g35 := PySem.W.mg_of X G a35
  have F36 := fun_ofD G36
  have b36 := F36.binds (ps := ["_law_rota", "_law_budget", "_law_looks", "_law_few", "_law_ups", "_law_turns"]) fun _ _ _ _ _ _ us hl => match us, hl with | [_, _, _, _, _, _], _ => rfl
  have g36 := PySem.W.mg_of X G a36
  have F37 := fun_ofD G37
  have b37 := F37.binds (ps := ["stretches"]) fun _ _ _ _ _ _ us hl => match us, hl with | [_], _ => rfl
  have g37 := PySem.W.mg_of X G a37
  have F38 := fun_ofD G38
  have b38 := F38.binds (ps := ["self", "most"]) fun _ _ _ _ _ _ us hl => match us, hl with | [_, _], _ => rfl
  have F39 := fun_ofD G39
  have b39 := F39.binds (ps := ["self"]) fun _ _ _ _ _ _ us hl => match us, hl with | [_], _ => rfl
  have F40 := fun_ofD G40
  have b40 := F40.binds (ps := ["self", "stretch_of", "stretches", "ways", "sums", "left"]) fun _ _ _ _ _ _ us hl => match us, hl with | [_, _, _, _, _, _], _ => rfl
  have F41 := fun_ofD G41
  have b41 := F41.binds (ps := ["ways", "others", "many"]) fun _ _ _ _ _ _ us hl => match us, hl with | [_, _, _], _ => rfl
  have g41 := PySem.W.mg_of X G a41
  have F42 := fun_ofD G42
  have b42 := F42.binds (ps := ["free", "most"]) fun _ _ _ _ _ _ us hl => match us, hl with | [_, _], _ => rfl
  have g42 := PySem.W.mg_of X G a42
  have F43 := fun_ofD G43
  have b43 := F43.binds (ps := ["stretch"]) fun _ _ _ _ _ _ us hl => match us, hl with | [_], _ => rfl
  have g43 := PySem.W.mg_of X G a43
  have F44 := fun_ofD G44
  have b44 := F44.binds (ps := ["stretches", "left"]) fun _ _ _ _ _ _ us hl => match us, hl with | [_, _], _ => rfl
  have g44 := PySem.W.mg_of X G a44
  have F45 := fun_ofD G45
  have b45 := F45.binds (ps := ["season"]) fun _ _ _ _ _ _ us hl => match us, hl with | [_], _ => rfl
  have g45 := PySem.W.mg_of X G a45
  have F46 := fun_ofD G46
  have b46 := F46.binds (ps := ["season"]) fun _ _ _ _ _ _ us hl => match us, hl with | [_], _ => rfl
  have g46 := PySem.W.mg_of X G a46
  have F47 := fun_ofD G47
  refine ⟨fd47, fun s v => FunD.bindsA (ps := ["_law_script"]) G47 (fun _ _ _ _ _ _ us hl => match us, hl with | [_], _ => rfl) s [v] rfl, fun base _ _ => ?_⟩
  have D_law_deal : Df l.prog w K mg base CT0 BB 1 "_law_deal" 2 ["_law_script", "_law_base"] f_law_deal := d_law_deal F1 g1 k1 b1 T Z_Rota Z_Season Z_Course 
  have D_is_integer : Df l.prog w K mg base CT0 BB 1 "is_integer" 1 ["value"] f_is_integer := d_is_integer F2 g2 k2 b2 T Z_Rota Z_Season Z_Course 
  have D_is_whole : Df l.prog w K mg base CT0 BB 2 "is_whole" 2 ["value", "least"] f_is_whole := d_is_whole F3 g3 k3 b3 T Z_Rota Z_Season Z_Course D_is_integer
  have D_is_sequence : Df l.prog w K mg base CT0 BB 1 "is_sequence" 1 ["value"] f_is_sequence := d_is_sequence F4 g4 k4 b4 T Z_Rota Z_Season Z_Course 
  have D_is_below : Df l.prog w K mg base CT0 BB 3 "is_below" 2 ["value", "many"] f_is_below := d_is_below F5 g5 k5 b5 T Z_Rota Z_Season Z_Course D_is_whole
  have D_are_spots : Df l.prog w K mg base CT0 BB 4 "are_spots" 2 ["spots", "places"] f_are_spots := d_are_spots F6 g6 k6 b6 T Z_Rota Z_Season Z_Course D_is_sequence D_is_below
  have D_is_row : Df l.prog w K mg base CT0 BB 5 "is_row" 2 ["row", "places"] f_is_row := d_is_row F7 g7 k7 b7 T Z_Rota Z_Season Z_Course D_are_spots
  have D_are_rows : Df l.prog w K mg base CT0 BB 6 "are_rows" 2 ["rows", "places"] f_are_rows := d_are_rows F8 g8 k8 b8 T Z_Rota Z_Season Z_Course D_is_sequence D_is_row
  have D_Rota : Cf l.prog w K mg base CT0 BB 7 "Rota" 0 2 ["self", "places", "rows"] f_Rota := d_Rota F9 ⟨mk_Rota, a9, i9, kc_Rota⟩ b9 T Z_Rota Z_Season Z_Course D_is_whole D_are_rows
  have D_law_draw : Df l.prog w K mg base CT0 BB 1 "_law_draw" 2 ["_law_deal_here", "_law_bound"] f_law_draw := ⟨⟨_, _, drawC_of (ok_draw F10 T), g10, k10, b10⟩, fDraw_len⟩
  have D_law_mixed : Df l.prog w K mg base CT0 BB 2 "_law_mixed" 2 ["_law_deal_here", "_law_some"] f_law_mixed := d_law_mixed F11 g11 k11 b11 T Z_Rota Z_Season Z_Course D_law_draw
  have D_law_cases : Df l.prog w K mg base CT0 BB 1 "_law_cases" 0 [] f_law_cases := d_law_cases F12 g12 k12 b12 T Z_Rota Z_Season Z_Course 
  have D_is_look : Df l.prog w K mg base CT0 BB 4 "is_look" 3 ["look", "wheels", "days"] f_is_look := d_is_look F13 g13 k13 b13 T Z_Rota Z_Season Z_Course D_is_below
  have D_are_looks : Df l.prog w K mg base CT0 BB 5 "are_looks" 3 ["looks", "wheels", "days"] f_are_looks := d_are_looks F14 g14 k14 b14 T Z_Rota Z_Season Z_Course D_is_sequence D_is_look
  have D_round_spots : Df l.prog w K mg base CT0 BB 1 "round_spots" 2 ["rota", "wheel"] f_round_spots := d_round_spots F15 g15 k15 b15 T Z_Rota Z_Season Z_Course 
  have D_Rota_len : Mf l.prog w K mg base CT0 BB 1 0 "__len__" 1 ["self"] f_Rota_len := d_Rota_len F16 ⟨a16, i16, k16⟩ b16 T Z_Rota Z_Season Z_Course 
  have D_dues_ahead : Df l.prog w K mg base CT0 BB 3 "dues_ahead" 3 ["rota", "wheel", "day"] f_dues_ahead := d_dues_ahead F17 g17 k17 b17 T Z_Rota Z_Season Z_Course D_round_spots D_Rota_len
  have D_Season : CfD l.prog w K mg base CT0 BB 6 "Season" 1 4 ["self", "rota", "days", "budget", "looks"] [.tup []] f_Season := d_Season F18 ⟨mk_Season, a18, i18, kc_Season⟩ (deft_unit v18 w18 x18) T Z_Rota Z_Season Z_Course D_is_whole D_are_looks D_dues_ahead
  have D_days_between : Df l.prog w K mg base CT0 BB 1 "days_between" 3 ["days", "first", "last"] f_days_between := d_days_between F19 g19 k19 b19 T Z_Rota Z_Season Z_Course 
  have D_parts : Df l.prog w K mg base CT0 BB 2 "parts" 2 ["season", "wheel"] f_parts := d_parts F20 g20 k20 b20 T Z_Rota Z_Season Z_Course D_days_between
  have D_odd_stretches : Df l.prog w K mg base CT0 BB 3 "odd_stretches" 1 ["season"] f_odd_stretches := d_odd_stretches F21 g21 k21 b21 T Z_Rota Z_Season Z_Course D_parts
  have D_least : Df l.prog w K mg base CT0 BB 4 "least" 1 ["season"] f_least := d_least F22 g22 k22 b22 T Z_Rota Z_Season Z_Course D_odd_stretches
  have D_possible : Df l.prog w K mg base CT0 BB 5 "possible" 1 ["season"] f_possible := d_possible F23 g23 k23 b23 T Z_Rota Z_Season Z_Course D_least
  have D_check_possible : Df l.prog w K mg base CT0 BB 6 "check_possible" 1 ["season"] f_check_possible := d_check_possible F24 g24 k24 b24 T Z_Rota Z_Season Z_Course D_possible
  have D_surely_missed : Df l.prog w K mg base CT0 BB 7 "surely_missed" 1 ["season"] f_surely_missed := d_surely_missed F25 g25 k25 b25 T Z_Rota Z_Season Z_Course D_check_possible D_odd_stretches
  have D_slack : Df l.prog w K mg base CT0 BB 7 "slack" 1 ["season"] f_slack := d_slack F26 g26 k26 b26 T Z_Rota Z_Season Z_Course D_check_possible D_least
  have D_check_wheel : Df l.prog w K mg base CT0 BB 4 "check_wheel" 2 ["rota", "wheel"] f_check_wheel := d_check_wheel F27 g27 k27 b27 T Z_Rota Z_Season Z_Course D_is_below
  have D_Season_seen : Mf l.prog w K mg base CT0 BB 8 1 "seen" 2 ["self", "looks"] f_Season_seen := d_Season_seen F28 ⟨a28, i28, k28⟩ b28 T Z_Rota Z_Season Z_Course D_are_looks D_Season
  have D_possible_sides : Df l.prog w K mg base CT0 BB 9 "possible_sides" 3 ["season", "wheel", "day"] f_possible_sides := d_possible_sides F29 g29 k29 b29 T Z_Rota Z_Season Z_Course D_check_wheel D_check_possible D_possible D_Season_seen
  have D_side : Df l.prog w K mg base CT0 BB 10 "side" 3 ["season", "wheel", "day"] f_side := d_side F30 g30 k30 b30 T Z_Rota Z_Season Z_Course D_possible_sides
  have D_is_turning : Df l.prog w K mg base CT0 BB 4 "is_turning" 2 ["season", "pair"] f_is_turning := d_is_turning F31 g31 k31 b31 T Z_Rota Z_Season Z_Course D_is_below D_is_whole
  have D_check_turning : Df l.prog w K mg base CT0 BB 7 "check_turning" 3 ["season", "day", "wheel"] f_check_turning := d_check_turning F32 g32 k32 b32 T Z_Rota Z_Season Z_Course D_check_wheel D_check_possible D_is_turning
  have D_if_missed : Df l.prog w K mg base CT0 BB 9 "if_missed" 3 ["season", "day", "wheel"] f_if_missed := d_if_missed F33 g33 k33 b33 T Z_Rota Z_Season Z_Course D_Season_seen
  have D_if_made : Df l.prog w K mg base CT0 BB 9 "if_made" 3 ["season", "day", "wheel"] f_if_made := d_if_made F34 g34 k34 b34 T Z_Rota Z_Season Z_Course D_Season_seen
  have D_turning : Df l.prog w K mg base CT0 BB 10 "turning" 3 ["season", "day", "wheel"] f_turning := d_turning F35 g35 k35 b35 T Z_Rota Z_Season Z_Course D_check_turning D_if_missed D_possible D_if_made
  have D_law_case_right : Df l.prog w K mg base CT0 BB 11 "_law_case_right" 6 ["_law_rota", "_law_budget", "_law_looks", "_law_few", "_law_ups", "_law_turns"] f_law_case_right := d_law_case_right F36 g36 k36 b36 T Z_Rota Z_Season Z_Course D_Season D_least D_possible D_side D_turning D_surely_missed D_slack
  have D_least_need : Df l.prog w K mg base CT0 BB 1 "least_need" 1 ["stretches"] f_least_need := d_least_need F37 g37 k37 b37 T Z_Rota Z_Season Z_Course 
  have D_Course_within : Mf l.prog w K mg base CT0 BB 2 2 "within" 2 ["self", "most"] f_Course_within := d_Course_within F38 ⟨a38, i38, k38⟩ b38 T Z_Rota Z_Season Z_Course D_least_need
  have D_Course_many : Mf l.prog w K mg base CT0 BB 3 2 "many" 1 ["self"] f_Course_many := d_Course_many F39 ⟨a39, i39, k39⟩ b39 T Z_Rota Z_Season Z_Course D_Course_within
  have D_Course : Cf l.prog w K mg base CT0 BB 1 "Course" 2 5 ["self", "stretch_of", "stretches", "ways", "sums", "left"] f_Course := d_Course F40 ⟨mk_Course, a40, i40, kc_Course⟩ b40 T Z_Rota Z_Season Z_Course 
  have D_product_of : Df l.prog w K mg base CT0 BB 1 "product_of" 3 ["ways", "others", "many"] f_product_of := d_product_of F41 g41 k41 b41 T Z_Rota Z_Season Z_Course 
  have D_first_sums : Df l.prog w K mg base CT0 BB 1 "first_sums" 2 ["free", "most"] f_first_sums := d_first_sums F42 g42 k42 b42 T Z_Rota Z_Season Z_Course 
  have D_own_ways : Df l.prog w K mg base CT0 BB 1 "own_ways" 1 ["stretch"] f_own_ways := d_own_ways F43 g43 k43 b43 T Z_Rota Z_Season Z_Course 
  have D_many_ways : Df l.prog w K mg base CT0 BB 2 "many_ways" 2 ["stretches", "left"] f_many_ways := d_many_ways F44 g44 k44 b44 T Z_Rota Z_Season Z_Course D_least_need
  have D_start : Df l.prog w K mg base CT0 BB 3 "start" 1 ["season"] f_start := d_start F45 g45 k45 b45 T Z_Rota Z_Season Z_Course D_parts D_product_of D_many_ways D_own_ways D_Course D_first_sums
  have D_count : Df l.prog w K mg base CT0 BB 4 "count" 1 ["season"] f_count := d_count F46 g46 k46 b46 T Z_Rota Z_Season Z_Course D_Course_many D_start
  have FL : FnOk l.prog w K mg base (L2.CX l.prog w) 12 _ _ ["_law_script"] (spM ⟨K, mg, CT0⟩ BB 1 f_law) := fn_def (N := N_law) (ps := ["_law_script"]) (k := 11) (body := b_law) F47 S_law (by decide) fun _ _ _ _ _ _ hr => l_law T Z_Rota Z_Season Z_Course D_law_deal D_Rota D_law_mixed D_law_cases D_law_case_right D_count D_Season hr
  exact law_endA FL (fun _ => ⟨fun _ z => False.elim z, fun _ z => False.elim z, fun _ z => False.elim z⟩) law_true
end K30
open PySem PySem.W PySem.Calls PyProof.Rows
set_option maxHeartbeats 0 in
theorem PySem.Challenge.cw_turnrota_k30_seasons_decided_by_hand_holds : PySem.Challenge.rw_turnrota_k30_seasons_decided_by_hand.Holds := by
  w_on; o_law
  refine HandSHeadRun.head_imp (r := OpenLaw.row PySem.Challenge.rw_turnrota_k30_seasons_decided_by_hand) (q := PySem.W.view (OpenLaw.row PySem.Challenge.rw_turnrota_k30_seasons_decided_by_hand).prog [0, 66]) (H := K30.hk) (ob := K30.obT) (M := 8000) (loose := K30.nmL) (d := HandSHeadRun.topDef (OpenLaw.row PySem.Challenge.rw_turnrota_k30_seasons_decided_by_hand).prog 66) (kwd := []) K30.obT_eq K30.top_run
    (by kernel_rfl) (by kernel_rfl) (by kernel_rfl) (by rfl) (by first | assumption | decide +kernel) (by decide +kernel) ⟨rfl, rfl, rfl, rfl, rfl, by decide +kernel⟩ ?hw ?hc
  case hw => w_witness2
  case hc =>
    refine K30.walkD (l := PySem.Challenge.rw_turnrota_k30_seasons_decided_by_hand) (n := 63) (k := 12) (x := "_law_script") (CX := fun w => L2.CX (PySem.Challenge.rw_turnrota_k30_seasons_decided_by_hand).prog w) rfl (by decide) rfl (by kernel_rfl) ⟨rfl, by decide, by decide⟩ ?F Dn.cx_none
    case F =>
      intro w mg fa h Y G hmg0
      obtain ⟨K, KX, c⟩ := Y
      have hmg : mg ("law" : PySem.Str) = some (.ref fa) := by
        have e : (HandSHeadRun.topDef (OpenLaw.row PySem.Challenge.rw_turnrota_k30_seasons_decided_by_hand).prog 66).name = ("law" : PySem.Str) := by kernel_rfl
        rw [← e]
        exact hmg0
      obtain ⟨fd, hb, hF⟩ := K30.all_mkD (l := PySem.Challenge.rw_turnrota_k30_seasons_decided_by_hand) (w := w) KX G hmg c.t.d c.more
      exact ⟨K, fd, KX, hb, hF⟩
