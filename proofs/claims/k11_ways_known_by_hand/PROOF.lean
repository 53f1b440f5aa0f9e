import PyProof.Rows.All
import Wide.All
import OpenK.AllK
import Wide.FinOn
import HandS.ForMost
import HandS.IsInst
import HandS.Zip
import HandS.SetFor
import HandS.SortInts
import HandS.Wide
import KE.KSortedM
import PySem.Challenge.RW_turnrota_k11_ways_known_by_hand
set_option Elab.async false
set_option linter.all false
set_option maxRecDepth 100000
namespace Tr
open PySem PySem.Spec PyProof.Rows L2
/-! the text by places -/
def top (i : Nat) : Stmt := PySem.Challenge.pw_turnrota_k11_ways_known_by_hand.main.body.getD i (.Pass ⟨0, 0, 0, 0⟩)
abbrev sWhole : Stmt := top 6
abbrev sBelow : Stmt := top 7
abbrev sIsSeq : Stmt := top 8
abbrev sPlace : Stmt := top 11
abbrev sWheelOn : Stmt := top 12
abbrev sRound : Stmt := top 13
abbrev sIsDue : Stmt := top 14
abbrev sDueCount : Stmt := top 15
abbrev sDueDay : Stmt := top 16
abbrev sCheck : Stmt := top 17
abbrev sSpots : Stmt := top 18
abbrev sDues : Stmt := top 19
abbrev sInit : Stmt := inClass (top 21) 0
abbrev sLen : Stmt := inClass (top 21) 2
abbrev sAreRows : Stmt := top 22
abbrev sIsRow : Stmt := top 23
abbrev sAreSpots : Stmt := top 24
abbrev sBox : Stmt := top 32
abbrev sTake : Stmt := top 33
abbrev sPick : Stmt := top 34
abbrev sLaw : Stmt := top 35
/-! any of two readings -/
theorem pi_any {X : Cx} {tg e : Expr} {w1 w2 : TI} (h1 : PI X tg e w1) (h2 : PI X tg e w2) : PI X tg e (fun σ H R => w1 σ H R ∨ w2 σ H R) := ⟨fun pins s σ H R I h => h.elim (h1.run pins s σ H R I) (h2.run pins s σ H R I)⟩
theorem pe_any {X : Cx} {e : Expr} {w1 w2 : TE} (h1 : PE X e w1) (h2 : PE X e w2) : PE X e (fun σ H R => w1 σ H R ∨ w2 σ H R) := ⟨fun pins s σ H R I h => h.elim (h1.run pins s σ H R I) (h2.run pins s σ H R I)⟩
/-! sequences -/
def Sq (K : PySem.W.Frag) (H : Hp) (a : Addr) (xs : List V) : Prop := SqL K H a xs ∨ SqT K H a xs
theorem sameT {K : PySem.W.Frag} {H H' : Hp} {a : Addr} {xs : List V} (e : Same H H') (h : SqT K H a xs) : SqT K H' a xs := by
  rcases h with (h | ⟨o, h⟩) | h
  · exact .inl (.inl (e _ _ h))
  · exact .inl (.inr ⟨o, e _ _ h⟩)
  · exact .inr h
theorem sameQ {K : PySem.W.Frag} {H H' : Hp} {a : Addr} {xs : List V} (e : Same H H') (h : Sq K H a xs) : Sq K H' a xs := h.elim (fun h => .inl (e.seq h)) fun h => .inr (sameT e h)
theorem same_new {H : Hp} {p : Addr} {o : HO} (h : H p = none) : Same H (upd H p o) := fun b x e => by
  rw [upd_ne (ne_of_none e h)]
  exact e
theorem tyL {K : PySem.W.Frag} {H : Hp} {a : Addr} {xs : List V} (h : SqL K H a xs) : TyX K H (.ref a) (.type "list") := by
  rcases h with (h | ⟨o, h⟩) | ⟨o, its, n, h, hc, _⟩
  · exact .base (.lst h)
  · exact .base (.frz h)
  · exact .kList h hc
theorem tyT {K : PySem.W.Frag} {H : Hp} {a : Addr} {xs : List V} (h : SqT K H a xs) : TyX K H (.ref a) (.type "tuple") := by
  rcases h with (h | ⟨o, h⟩) | ⟨o, its, n, h, hc, _⟩
  · exact .base (.tup h)
  · exact .fTuple h
  · exact .kTuple h hc
/-- what the top has written: names that stay built-ins -/
structure Blt (mg : Str → Option Value) : Prop where
  isi : mg "isinstance" = none
  int : mg "int" = none
  bool : mg "bool" = none
  list : mg "list" = none
  tuple : mg "tuple" = none
  all : mg "all" = none
  len : mg "len" = none
  set : mg "set" = none
  sorted : mg "sorted" = none
  range : mg "range" = none
  divmod : mg "divmod" = none
  enumerate : mg "enumerate" = none
  abs : mg "abs" = none
section
variable {P : Program} {w : World} {K : PySem.W.Frag} {mg : Str → Option Value} {base : Heap}
/-! is_whole -/
theorem scWhole : FnScope ["value", "least"] ["value", "least"] (defScope sWhole) := ⟨rfl, rfl, rfl, by decide +kernel, rfl, by decide +kernel, by decide +kernel⟩
def spWhole : Sp := fun vs H Q _ => ∃ i l : Int, vs = [.int i, .int l] ∧ Q (.bl (decide (l ≤ i))) H
theorem ok_whole {f : Addr} {fd : FuncData} (F : Fun K "is_whole" "is_whole" sWhole f fd) (T : Blt mg) : FnOk P w K mg base CX0 1 f fd ["value", "least"] spWhole := by
  refine F.ok scWhole (fun vs H Q E h => ?_) (fun cdv A outer s H vs Q E hr h => ?_)
  · obtain ⟨i, l, rfl, _⟩ := h
    rfl
  · obtain ⟨i, l, rfl, k⟩ := h
    refine ⟨_, pss_one (ps_ret (pe_and (pe_callB call_isi (by rfl) T.isi (by decide +kernel) (pa_cons (pv 0) (pa_cons (pe_bltn (v := .ty "int") (by rfl) T.int (by decide +kernel) rfl) pa_nil)))
      (pe_and (pe_not (pe_callB call_isi (by rfl) T.isi (by decide +kernel) (pa_cons (pv 0) (pa_cons (pe_bltn (v := .ty "bool") (by rfl) T.bool (by decide +kernel) rfl) pa_nil))))
        (pe_one (pe_cmpR op_ge (pv 0) (pv 1) (nomark _)))))), ?_⟩
    refine ⟨_, rfl, _, _, _, _, true, rfl, .ty _, .base (.int i), kit_ty (by decide +kernel), true, rfl, iteT ?_⟩
    refine ⟨_, rfl, _, _, _, _, false, rfl, .ty _, .base (.int i), kit_ty (by decide +kernel), false, rfl, true, rfl, iteT ?_⟩
    exact ⟨_, rfl, _, rfl, _, _, rfl, rfl, k⟩
/-! is_below -/
theorem scBelow : FnScope ["value", "many"] ["value", "many"] (defScope sBelow) := ⟨rfl, rfl, rfl, by decide +kernel, rfl, by decide +kernel, by decide +kernel⟩
def spBelow : Sp := fun vs H Q _ => ∃ i m : Int, vs = [.int i, .int m] ∧ Q (.bl (decide (0 ≤ i ∧ i < m))) H
theorem ok_below {f fW : Addr} {fd fdW : FuncData} (F : Fun K "is_below" "is_below" sBelow f fd) (T : Blt mg) (FW : Fun K "is_whole" "is_whole" sWhole fW fdW) (bW : Binds K fdW ["value", "least"] []) (gW : mg "is_whole" = some (.ref fW)) :
    FnOk P w K mg base CX0 2 f fd ["value", "many"] spBelow := by
  have GW : FnOk P w K mg base CX0 1 fW fdW ["value", "least"] spWhole := ok_whole FW T
  refine F.ok scBelow (fun vs H Q E h => ?_) (fun cdv A outer s H vs Q E hr h => ?_)
  · obtain ⟨i, l, rfl, _⟩ := h
    rfl
  · obtain ⟨i, m, rfl, k⟩ := h
    refine ⟨_, pss_one (ps_ret (pe_and (pe_call GW hr (by rfl) gW FW.kp bW .nil pass0 (pa_cons (pv 0) (pa_cons pe_int pa_nil))) (pe_one (pe_cmpR op_lt (pv 0) (pv 1) (nomark _))))), ?_⟩
    refine ⟨_, rfl, i, 0, rfl, _, rfl, ?_⟩
    by_cases h0 : 0 ≤ i
    · rw [decide_eq_true h0]
      refine iteT ⟨_, rfl, _, rfl, _, _, rfl, rfl, ?_⟩
      have e : decide (0 ≤ i ∧ i < m) = decide (i < m) := by simp [h0]
      rw [e] at k
      exact k
    · rw [decide_eq_false h0]
      refine iteF ?_
      have e : decide (0 ≤ i ∧ i < m) = false := by simp [h0]
      rw [e] at k
      exact k
/-! is_sequence -/
theorem scIsSeq : FnScope ["value"] ["value"] (defScope sIsSeq) := ⟨rfl, rfl, rfl, by decide +kernel, rfl, by decide +kernel, by decide +kernel⟩
def spIsSeq (K : PySem.W.Frag) : Sp := fun vs H Q _ => ∃ (a : Addr) (xs : List V), vs = [.ref a] ∧ Sq K H a xs ∧ ∀ H', Same H H' → Q (.bl true) H'
theorem ok_isseq {f : Addr} {fd : FuncData} (F : Fun K "is_sequence" "is_sequence" sIsSeq f fd) (T : Blt mg) : FnOk P w K mg base CX0 1 f fd ["value"] (spIsSeq K) := by
  refine F.ok scIsSeq (fun vs H Q E h => ?_) (fun cdv A outer s H vs Q E hr h => ?_)
  · obtain ⟨a, xs, rfl, _⟩ := h
    rfl
  · obtain ⟨a, xs, rfl, hs, k⟩ := h
    refine ⟨_, pss_one (ps_ret (pe_callB call_isiT (by rfl) T.isi (by decide +kernel) (pa_cons (pv 0) (pa_cons (pe_tup (pa_cons (pe_bltn (v := .ty "list") (by rfl) T.list (by decide +kernel) rfl) (pa_cons (pe_bltn (v := .ty "tuple") (by rfl) T.tuple (by decide +kernel) rfl) pa_nil))) pa_nil)))), ?_⟩
    refine ⟨_, rfl, (by show 2 ≤ sizeLine; decide), fun p np => ?_⟩
    have sm : Same H (upd H p (.tup [.ty "list", .ty "tuple"])) := same_new np
    rcases sameQ sm hs with h | h
    · exact ⟨_, p, _, _, _, true, rfl, upd_same, .cons (.ty _) (.cons (.ty _) .nil), tyL h, kitAny_cons (b := true) (kit_ty (by decide +kernel)) (fun z => nomatch z) (fun _ => rfl), k _ sm⟩
    · exact ⟨_, p, _, _, _, true, rfl, upd_same, .cons (.ty _) (.cons (.ty _) .nil), tyT h, kitAny_cons (b := false) (kit_ty (by decide +kernel)) (fun _ => kitAny_cons (b := true) (kit_ty (by decide +kernel)) (fun z => nomatch z) (fun _ => rfl)) (fun z => nomatch z), k _ sm⟩
end
end Tr

namespace Tr
open PySem PySem.Spec PyProof.Rows L2
/-! a comprehension of plain values over a list or a tuple -/
abbrev iSeq (K : PySem.W.Frag) (t : TE) : TI := fun σ H R => iList K t σ H R ∨ iTup K t σ H R
theorem take_next {α : Type} {l : List α} {i : Nat} {x : α} (h : l[i]? = some x) : l.take (i + 1) = l.take i ++ [x] := by
  rw [List.take_add_one, h]
  rfl
/-- readings let their end be weakened: asked of the parts of a turn -/
theorem map_sq {K : PySem.W.Frag} {a : Addr} {xs ys : List V} {vs : List Nat} {σ : L2.St} {H : Hp} {g : TG} {te : TE} {Q : VK} {i : Nat} (hσ : σ[i]? = some (some (.ref a))) (hq : Sq K H a xs) (hlen : ys.length = xs.length) (hz : xs.length < sizeLine)
    (hs : ∀ (D : Addr) (j : Nat) (x y : V) (H' : Hp) (R : V → Hp → Prop), xs[j]? = some x → ys[j]? = some y → Same H H' → (∀ H4, Same H' H4 → R y H4) → g x (wipe σ vs) H' fun σ2 H2 => wipe σ2 vs = wipe σ vs ∧ te σ2 H2 R)
    (hd : ∀ (D : Addr) (H' : Hp), H D = none → Same H H' → H' D = some (.lst ys) → Q (.ref D) H') : tLc (iSeq K (tVar i)) g tYes te vs σ H Q := by
  have turn : ∀ (D : Addr) (j : Nat) (x : V) (H' : Hp), H D = none → xs[j]? = some x → (Same H H' ∧ H' D = some (.lst (ys.take j))) → g x (wipe σ vs) H' fun σ2 H2 => wipe σ2 vs = wipe σ vs ∧ tYes σ2 H2 fun b H3 =>
      if b = true then te σ2 H3 fun y H4 => ∃ acc, H4 D = some (.lst acc) ∧ acc.length < sizeLine ∧ (Same H (upd H4 D (.lst (acc ++ [y]))) ∧ (upd H4 D (.lst (acc ++ [y]))) D = some (.lst (ys.take (j + 1)))) else (Same H H3 ∧ H3 D = some (.lst (ys.take (j + 1)))) := by
    intro D j x H' nD hx hP
    have hj : j < xs.length := (List.getElem?_eq_some_iff.mp hx).1
    have hy : ys[j]? = some ys[j] := List.getElem?_eq_getElem (by omega)
    have q := hs D j x _ H' (fun y H4 => ∃ acc, H4 D = some (.lst acc) ∧ acc.length < sizeLine ∧ (Same H (upd H4 D (.lst (acc ++ [y]))) ∧ (upd H4 D (.lst (acc ++ [y]))) D = some (.lst (ys.take (j + 1))))) hx hy hP.1 fun H4 s4 => by
      refine ⟨ys.take j, s4 _ _ hP.2, ?_, fun b o e => ?_, ?_⟩
      · rw [List.length_take]
        omega
      · rw [upd_ne (ne_of_none e nD)]
        exact s4 _ _ (hP.1 _ _ e)
      · rw [upd_same, take_next hy]
    exact q
  rcases hq with h | h
  · refine .inl ⟨_, hσ, a, rfl, ⟨xs, h⟩, fun D nD => ?_⟩
    refine lc_list (K := K) (a := a) (xs := xs) (fun j H' => Same H H' ∧ H' D = some (.lst (ys.take j))) ⟨same_new nD, upd_same⟩ (fun j H' _ p => p.1.seq h) (fun j x H' hx p => turn D j x H' nD hx p) fun H' p => hd D H' nD p.1 ?_
    rw [p.2, ← hlen, List.take_length]
  · refine .inr ⟨_, hσ, a, rfl, ⟨xs, h⟩, fun D nD => ?_⟩
    refine lc_tup (K := K) (a := a) (xs := xs) (fun j H' => Same H H' ∧ H' D = some (.lst (ys.take j))) ⟨same_new nD, upd_same⟩ (fun j H' _ p => sameT p.1 h) (fun j x H' hx p => turn D j x H' nD hx p) fun H' p => hd D H' nD p.1 ?_
    rw [p.2, ← hlen, List.take_length]
/-! len(set(t)), t a tuple of unlike ints -/
def tLenSetT (K : PySem.W.Frag) (ta : TE) : TE := fun σ H Q => ta σ H fun x H1 => ∃ (l : Addr) (ns : List Int), x = .ref l ∧ SqT K H1 l (ns.map V.int) ∧ ns.Nodup ∧ ns.length ≤ 1000 ∧ Q (.int (ns.length : Nat)) H1
theorem pe_lenSetT {X : Cx} {a : Expr} {ta : TE} {p p2 q pos : Pos} (hg : Gl X "len") (hm : X.mg "len" = none) (hg2 : Gl X "set") (hm2 : X.mg "set" = none) (ha : PE X a ta) (hc : X.calm = true := by rfl)
    (na : starEach [a] X.env = (false, eval a X.env) :: starEach [] X.env := by rfl) : PE X (.Call (.Name "len" p) [.Call (.Name "set" p2) [a] [] q] [] pos) (tLenSetT X.K ta) := by
  constructor
  intro pins s σ H Q I h
  apply Call_ (ld_blt I hg hm boot_len ?_)
  apply PyProof.Rows.callWith_builtin1 (PyProof.Rows.args_cons ?_ rfl) rfl rfl
  apply Call_ (ld_blt I hg2 hm2 boot_set ?_)
  apply PyProof.Rows.callWith_type1 (PyProof.Rows.args_cons (thn (ha.run pins s σ H _ I h) ?_) na) na rfl
  rintro v s1 ⟨x, H1, I1, r1, l, ns, rfl, hq, hnd, hl, q1⟩
  apply PyProof.Rows.args_nil
  cases r1
  obtain ⟨its, rv, pt, hz⟩ := I1.tuple hq
  have hb : ns.length + 1 < scanBound := by
    unfold scanBound
    omega
  apply call_set_tupI ns (I1.ok.hd hc) (show s1.heap.IsTuple l its.toArray from pt) (ints_of_vals rv) hb
  intro h' tk c R1 hcn k
  apply PyProof.Rows.args_nil
  obtain ⟨o, es, ep, t, ho, hex, hdt, g, nd, hm3, hb3, hf, hn, hr, hl2⟩ := R1
  have hp : (es.toList.map keyOf).Perm ns := (List.perm_ext_iff_of_nodup nd hnd).mpr fun k => by
    rw [← hm3 k, decide_eq_true_eq]
  have hsz : es.size = ns.length := by
    have z := hp.length_eq
    rw [List.length_map, Array.length_toList] at z
    exact z
  have I2 : Inv X pins σ H1 { s1 with heap := h', toks := tk } := I1.kept fun b o e => k b o e
  exact call_len_set ho hex hdt hf (by omega) ⟨.int ns.length, H1, I2.tok _, ⟨_, by rw [hsz]⟩, q1⟩
/-! len(x), x an instance of a class of the text with a __len__ -/
def rLenOwn (C : Addr) (sp : Sp) (E : XK) : List V → Hp → VK → Prop := fun xs H Q => ∃ a dx fs, xs = [V.ref a] ∧ H a = some (.ins C dx fs) ∧ sp [.ref a] H (fun z H' => ∃ i, z = .int i ∧ (0 ≤ i ∧ i < 2 ^ 63) ∧ Q (.int i) H') E
theorem call_lenOwn {X : Cx} {C g : Addr} {n : Nat} {fd : FuncData} {ps : List Str} {sp : Sp} {CX : CXT} {E : XK} (hm : Meth X.K C "__len__" g) (F : FnOk X.prog X.w X.K X.mg X.base CX n g fd ps sp) (hr : Room (n + 1) X.A) (hb : Binds X.K fd ps []) (hx : Passes CX X E) : CallR X (.builtin "len") (rLenOwn C sp E) := by
  intro pins s σ H xs us Q I r h
  obtain ⟨a, dx, fs, rfl, ha, q⟩ := h
  obtain ⟨u, rfl, ru⟩ := vals1 r
  cases (show u = Value.ref a from ru)
  obtain ⟨mA, O, _⟩ := ins_get I.hok ha
  obtain ⟨od, J, _⟩ := O.look
  obtain ⟨m, hF⟩ := I.fr
  have hr1 : Room n X.A.in1 := Room.in1 hr
  refine PySem.W.len_K hF I.ok.mod.kin J hm.at_ hm.fn (wpAny_call (codeAny_mono (F.run X.A.in1 X.stack s H ⟨[.ref a], []⟩ [.ref a] [.ref a] _ E hr1 I.env0.in1 (hb s [.ref a] I.kIn (F.len _ _ _ _ q)) (.cons rfl .nil) q) fun r s' hq => ?_))
  cases r with
  | error e => exact hx pins σ H s e s' I hq
  | ok fl =>
    cases fl with
    | ret v =>
      obtain ⟨z, H', I', rz, i, ez, hi, qi⟩ := I.after hq
      subst ez
      obtain ⟨t, e⟩ := (show ∃ t, v = Value.int i t from rz)
      subst e
      exact ⟨hi, .int i, H', I'.tok _, ⟨_, rfl⟩, qi⟩
    | next => exact False.elim hq
    | brk => exact False.elim hq
    | cont => exact False.elim hq
end Tr

namespace PySem
namespace TrS
open PySem PySem.Spec PyProof.Rows SrtO
section
variable {prog : Program} {w : World} {A : Around} {E : Value → Shared → Prop} {s : Shared}
/-- what sorted first makes of a tuple: its things in a new list -/
theorem collect_tup {t : Addr} {us : List Value} {Q : List Value → Shared → Prop} (ht : s.heap.IsTuple t us.toArray) (hz : us.length ≤ sizeLine)
    (hQ : Q us { s with heap := (s.heap.push (seqObj "list" #[] 0)).update s.heap.objs.size (Obj.mapSeq (· ++ us.toArray)) }) : wpAny (model prog w) A (collect (.ref t)) Q E s := by
  obtain ⟨o, ho, hc, n, hd⟩ := ht
  have ho2 : (s.heap.push (seqObj "list" #[] 0)).get? t = some o := Heap.get?_push_of_some _ ho
  have hn : (s.heap.push (seqObj "list" #[] 0)).get? s.heap.objs.size = some (seqObj "list" #[] 0) := Heap.get?_push_size _ rfl
  have two : (Value.type "tuple" == Value.type "list") = false := by decide +kernel
  have one : (Value.type "tuple" == Value.type "tuple") = true := by rfl
  have room : (#[] ++ us.toArray).size ≤ sizeLine + 1 := by
    simp only [Array.size_append, List.size_toArray, List.length_nil]
    omega
  unfold collect
  apply wpAny_bind
  apply wpAny_runValue
  apply codeAny_builtin entry_proto_collect'
  show wpAny _ _ (do again (.builtin "list.__iadd__" ⟨[← newList [], .ref t], []⟩)) _ _ s
  apply wpAny_bind
  refine wpAny_newList ?_ (Nat.zero_le _)
  refine wpAny_pure ⟨Code.quiet_builtin _ (by decide +kernel), codeAny_builtin entry_list_iadd' ?_⟩
  show wpAny _ _ (Builtin.List.listExtendWith (.ref s.heap.objs.size) (.ref t) (.ref s.heap.objs.size)) _ _ { s with heap := s.heap.push (seqObj "list" #[] 0) }
  unfold Builtin.List.listExtendWith
  apply wpAny_bind
  refine wpAny_typeOf (T := "tuple") ⟨o, ho2, hc⟩ ?_
  rw [if_pos (by rw [two, one]; simp)]
  apply wpAny_bind
  apply listItems_at ho2 hd
  apply wpAny_bind
  apply listItems_at (xs := #[]) (n := 0) hn rfl
  rw [if_neg (by simp)]
  apply wpAny_bind
  refine listUpdate_at (xs := #[]) (n := 0) hn rfl ?_ (Nat.zero_le _) room
  apply wpAny_pure
  show wpAny (model prog w) A (do
      match (← load s.heap.objs.size).data with
      | .seq xs _ => pure xs.toList
      | _ => unsupported "internal:collect") Q E { s with heap := (s.heap.push (seqObj "list" #[] 0)).update s.heap.objs.size (Obj.mapSeq (· ++ us.toArray)) }
  apply wpAny_bind
  apply wpAny_load (get?_update_seq hn _)
  show wpAny _ _ (pure ((#[] : Array Value) ++ us.toArray).toList) Q E _
  rw [show ((#[] : Array Value) ++ us.toArray).toList = us by simp]
  exact wpAny_pure hQ
theorem sorted_tup {t : Addr} {us : List Value} {lt : Value → Value → Bool} {Q : Value → Shared → Prop} (O : Swo lt) (ht : s.heap.IsTuple t us.toArray) (hz : us.length ≤ sizeLine)
    (hS : 2 ≤ us.length → ∀ (h₁ : Heap) (a : Addr), SortableO prog w A.in1.in1 { s with heap := h₁ } a us lt)
    (hQ : ∀ out : List Value, Srtd lt out → Stb lt out us → Q (.ref (s.heap.objs.size + 1)) { s with heap := sortedAll s.heap us out.toArray }) : wpAny (model prog w) A (call (.builtin "sorted") [.ref t]) Q E s := by
  apply Calls.call_function_entry kind_sorted plain_sorted entry_sorted (args_sorted1 _)
  unfold Builtin.«sorted»
  apply wpAny_bind (m := checkCount "sorted" 1 1 _)
  apply wpAny_pure
  apply wpAny_bind
  apply collect_tup ht hz
  apply wpAny_bind
  refine wpAny_newList ?_ hz
  have n1 : ((s.heap.push (seqObj "list" #[] 0)).update s.heap.objs.size (Obj.mapSeq (· ++ us.toArray))).objs.size = s.heap.objs.size + 1 := by rw [Heap.size_update, size_push']
  have at1 : (((s.heap.push (seqObj "list" #[] 0)).update s.heap.objs.size (Obj.mapSeq (· ++ us.toArray))).push (seqObj "list" us.toArray 0)).get? (s.heap.objs.size + 1) = some (seqObj "list" us.toArray 0) := by
    rw [← n1]
    exact Heap.get?_push_size _ rfl
  show wpAny _ _ _ _ _ { s with heap := ((s.heap.push (seqObj "list" #[] 0)).update s.heap.objs.size (Obj.mapSeq (· ++ us.toArray))).push (seqObj "list" us.toArray 0) }
  rw [n1]
  apply wpAny_bind
  apply wpAny_holding
  refine wpAny_call_entry slot_list_sort ⟨_, at1, rfl⟩ entry_list_sort (list_sort_ord O at1 hz (fun h2 => hS h2 _ _) fun out hs hb => ⟨_, rfl, ?_⟩) (args_list_sort _)
  exact wpAny_pure ⟨_, rfl, hQ out hs hb⟩
end
end TrS
end PySem
namespace Tr
open PySem PySem.Spec PyProof.Rows L2
def rSortedQ (K : PySem.W.Frag) : List V → Hp → VK → Prop := fun vs H Q => ∃ (a : Addr) (ns : List Int), vs = [V.ref a] ∧ Sq K H a (ns.map V.int) ∧ ∀ (ns' : List Int) (p : Addr), ns'.Perm ns → ns'.Pairwise (· ≤ ·) → H p = none → Q (.ref p) (upd H p (.lst (ns'.map V.int)))
theorem cr_sortedT {X : Cx} : CallR X (.builtin "sorted") (fun vs H Q => ∃ (a : Addr) (ns : List Int), vs = [V.ref a] ∧ SqT X.K H a (ns.map V.int) ∧ ∀ (ns' : List Int) (p : Addr), ns'.Perm ns → ns'.Pairwise (· ≤ ·) → H p = none → Q (.ref p) (upd H p (.lst (ns'.map V.int)))) := by
  intro pins s σ H vs us Q I r h
  obtain ⟨a, ns, rfl, hs, q⟩ := h
  obtain ⟨its, rv, ht, hz⟩ := I.tuple hs
  rw [Vals.ref1 r]
  have hi := rv.ints
  have hlz : its.length ≤ sizeLine := by
    rw [← rv.length]
    exact hz
  refine PySem.TrS.sorted_tup SrtO.swo_int (show s.heap.IsTuple a its.toArray from ht) hlz (fun h2 h₁ a' => SrtO.ints_sortable hi h2) fun out h1 h2 => ?_
  obtain ⟨k1, k2, k3⟩ := SrtO.ints_out hi h1 h2
  obtain ⟨ep, at1⟩ := PyProof.Rows.sortedAll_at s.heap its out.toArray
  have hl : ((out.map SrtO.iv).map V.int).length ≤ sizeLine := by
    have z := hz
    rw [List.length_map] at z ⊢
    rw [k2.length_eq]
    exact z
  have J : L2.Inv X pins σ (upd H (s.heap.objs.size + 1) (.lst ((out.map SrtO.iv).map V.int))) { s with heap := sortedAll s.heap its out.toArray } := I.laid (t' := s.toks) (fun _ _ => PyProof.Rows.sortedAll_old (vs := its) (out := out.toArray)) (Nat.le_succ _) ⟨hl, out, ep, vals_of_ints k1, at1⟩
  exact ⟨.ref _, upd H (s.heap.objs.size + 1) (.lst ((out.map SrtO.iv).map V.int)), J, rfl, q _ _ k2 k3 (I.hok.fresh (Nat.le_succ _))⟩
theorem cr_sortedQ {X : Cx} : CallR X (.builtin "sorted") (rSortedQ X.K) := by
  intro pins s σ H vs us Q I r h
  obtain ⟨a, ns, e, hs, q⟩ := h
  rcases hs with hs | hs
  · exact cr_sortedI pins s σ H vs us Q I r ⟨a, ns, e, hs, q⟩
  · exact cr_sortedT pins s σ H vs us Q I r ⟨a, ns, e, hs, q⟩
end Tr

namespace Tr
open PySem PySem.Spec PyProof.Rows L2
/-! rotas, in plain lists -/
structure Good (n : Int) (row : List Int × List Int) : Prop where
  nd1 : row.1.Nodup
  nd2 : row.2.Nodup
  in1 : ∀ x ∈ row.1, 0 ≤ x ∧ x < n
  in2 : ∀ x ∈ row.2, 0 ≤ x ∧ x < n
  len2 : (row.2.length : Int) = n
  small : n ≤ 60
theorem nodup_le : ∀ (n : Nat) {l : List Int}, l.Nodup → (∀ x ∈ l, 0 ≤ x ∧ x < (n : Int)) → l.length ≤ n
  | 0, l, _, hb => by
    cases l with
    | nil => exact Nat.le_refl _
    | cons x r =>
      have := hb x List.mem_cons_self
      omega
  | n + 1, l, hd, hb => by
    have hd2 : (l.erase (n : Int)).Nodup := hd.erase _
    have ih := nodup_le n hd2 fun x hx => by
      have h1 := (hd.mem_erase_iff.mp hx)
      have h2 := hb x h1.2
      have h3 := h1.1
      omega
    by_cases hm : (n : Int) ∈ l
    · have e := List.length_erase_of_mem hm
      omega
    · rw [List.erase_of_not_mem hm] at ih
      omega
theorem Good.len1 {n : Int} {row : List Int × List Int} (g : Good n row) : row.1.length ≤ 60 := by
  have h0 : 0 ≤ n := by
    have := g.len2
    omega
  have z := nodup_le n.toNat g.nd1 fun x hx => by
    have := g.in1 x hx
    omega
  have := g.small
  omega
/-- a row as it is handed in: a tuple of two sequences -/
def RowIn (K : PySem.W.Frag) (H : Hp) (t : V) (row : List Int × List Int) : Prop := ∃ (a u m : Addr), t = .ref a ∧ SqT K H a [.ref u, .ref m] ∧ Sq K H u (row.1.map V.int) ∧ Sq K H m (row.2.map V.int)
theorem RowIn.same {K : PySem.W.Frag} {H H' : Hp} {t : V} {row : List Int × List Int} (h : RowIn K H t row) (e : Same H H') : RowIn K H' t row :=
  let ⟨a, u, m, h1, h2, h3, h4⟩ := h
  ⟨a, u, m, h1, sameT e h2, sameQ e h3, sameQ e h4⟩
structure RowsIn (K : PySem.W.Frag) (H : Hp) (a : Addr) (rows : List (List Int × List Int)) (ts : List V) : Prop where
  sq : Sq K H a ts
  len : ts.length = rows.length
  row : ∀ (j : Nat) (t : V) (r : List Int × List Int), ts[j]? = some t → rows[j]? = some r → RowIn K H t r
theorem RowsIn.same {K : PySem.W.Frag} {H H' : Hp} {a : Addr} {rows : List (List Int × List Int)} {ts : List V} (h : RowsIn K H a rows ts) (e : Same H H') : RowsIn K H' a rows ts := ⟨sameQ e h.sq, h.len, fun j t r h1 h2 => (h.row j t r h1 h2).same e⟩
theorem get_rep {α : Type} {n j : Nat} {x y : α} (h : (List.replicate n x)[j]? = some y) : y = x := by
  rw [List.getElem?_replicate] at h
  split at h
  · exact (Option.some.inj h).symm
  · cases h
section
variable {P : Program} {w : World} {K : PySem.W.Frag} {mg : Str → Option Value} {base : Heap}
/-! are_spots -/
theorem scAreSpots : FnScope ["spots", "places", "spot"] ["spots", "places"] (defScope sAreSpots) := ⟨rfl, rfl, rfl, by decide +kernel, rfl, by decide +kernel, by decide +kernel⟩
def spAreSpots (K : PySem.W.Frag) : Sp := fun vs H Q _ => ∃ (a : Addr) (n : Int) (ns : List Int), vs = [.ref a, .int n] ∧ Sq K H a (ns.map V.int) ∧ ns.Nodup ∧ (∀ x ∈ ns, 0 ≤ x ∧ x < n) ∧ ns.length ≤ 60 ∧ ∀ H', Same H H' → Q (.bl true) H'
theorem ok_arespots {f fB fS : Addr} {fd fdB fdS : FuncData} (F : Fun K "are_spots" "are_spots" sAreSpots f fd) (T : Blt mg)
    (GS : FnOk P w K mg base CX0 1 fS fdS ["value"] (spIsSeq K)) (kS : PySem.W.keepIn K (.ref fS) = true) (bS : Binds K fdS ["value"] []) (gS : mg "is_sequence" = some (.ref fS))
    (GB : FnOk P w K mg base CX0 2 fB fdB ["value", "many"] spBelow) (kB : PySem.W.keepIn K (.ref fB) = true) (bB : Binds K fdB ["value", "many"] []) (gB : mg "is_below" = some (.ref fB)) : FnOk P w K mg base CX0 3 f fd ["spots", "places"] (spAreSpots K) := by
  refine F.ok scAreSpots (fun vs H Q E h => ?_) (fun cdv A outer s H vs Q E hr h => ?_)
  · obtain ⟨a, n, ns, rfl, _⟩ := h
    rfl
  · obtain ⟨a, n, ns, rfl, hs, hnd, hin, hl, k⟩ := h
    refine ⟨_, pss_cons (ps_if (PW.pt (pw_or (pt_not (pt_val (pe_call GS (hr.mono (by decide)) (by rfl) gS kS bS .nil pass0 (pa_cons (pv 0) pa_nil))))
        (pw_or1 (pt_not (pt_val (pe_callB (cr_all rfl) (by rfl) T.all (by decide +kernel) (pa_cons
          (pe_lc (own := [("spot", 2)]) (g := gName 2) (tt := tYes) rfl scAreSpots.nd (pi_any (pi_list (pv 0)) (pi_tup (pv 0))) (blkOk_by (N := ["spots", "places", "spot"]) (sc := defScope sAreSpots) (by decide +kernel))
            (fun _ _ _ _ _ => pg_name (i := 2) scAreSpots.nd rfl (Or.inl rfl)) (fun _ _ _ _ _ => pts_nil) (fun _ _ _ _ _ => pe_call GB hr (by rfl) gB kB bB .nil pass0 (pa_cons (pv 2) (pa_cons (pv 1) pa_nil)))) pa_nil)))))))
        (pss_one (ps_ret pe_bl)) pss_nil)
      (pss_one (ps_ret (pe_cmpR op_eq (pe_any (RZ.pe_lenSetI (by rfl) T.len (by rfl) T.set (pv 0)) (pe_lenSetT (by rfl) T.len (by rfl) T.set (pv 0))) (pe_callB call_len_seq (by rfl) T.len PySem.boot_len (pa_cons (pv 0) pa_nil)) (nomark _)))), ?_⟩
    -- is_sequence(spots)
    refine ⟨_, rfl, a, _, rfl, hs, fun H1 s1 => ⟨true, rfl, iteF ?_⟩⟩
    -- all([..])
    dsimp only [tNot, tB, tCB, tCons]
    refine map_sq (K := K) (a := a) (xs := ns.map V.int) (ys := List.replicate ns.length (.bl true)) (vs := [2]) (by rfl) (sameQ s1 hs) (by rw [List.length_replicate, List.length_map]) (by rw [List.length_map]; exact small1000 (by omega)) (fun D j x y H' R hx hy sm hR => ?_) (fun D H2 nD s2 e2 => ?_)
    · rw [List.getElem?_map] at hx
      obtain ⟨z, hz, rfl⟩ := Option.map_eq_some_iff.mp hx
      have hm := hin z (List.mem_of_getElem? hz)
      refine ⟨rfl, _, rfl, _, rfl, z, n, rfl, ?_⟩
      rw [decide_eq_true hm, ← get_rep hy]
      exact hR _ (Same.refl _)
    · have eb : (List.replicate ns.length (V.bl true)) = (List.replicate ns.length true).map V.bl := by rw [List.map_replicate]
      rw [eb] at e2
      refine ⟨D, _, rfl, SqL.of e2, true, ?_, iteF ?_⟩
      · have ea : (List.replicate ns.length true).all id = true := by
          rw [List.all_eq_true]
          intro x hx
          rw [(List.mem_replicate.mp hx).2]
          rfl
        rw [ea]
      · -- len(set(spots)) == len(spots)
        have s12 : Same H H2 := s1.trans s2
        rcases sameQ s12 hs with h | h
        · refine .inl ⟨_, rfl, a, ns, rfl, h, hnd, by omega, _, rfl, a, _, rfl, .inl h, rfl, ?_⟩
          rw [List.length_map, decide_eq_true rfl]
          exact k _ s12
        · refine .inr ⟨_, rfl, a, ns, rfl, h, hnd, by omega, _, rfl, a, _, rfl, .inr h, rfl, ?_⟩
          rw [List.length_map, decide_eq_true rfl]
          exact k _ s12
/-! is_row -/
theorem scIsRow : FnScope ["row", "places", "turned", "moves"] ["row", "places"] (defScope sIsRow) := ⟨rfl, rfl, rfl, by decide +kernel, rfl, by decide +kernel, by decide +kernel⟩
def spIsRow (K : PySem.W.Frag) : Sp := fun vs H Q _ => ∃ (t : V) (n : Int) (row : List Int × List Int), vs = [t, .int n] ∧ RowIn K H t row ∧ Good n row ∧ ∀ H', Same H H' → Q (.bl true) H'
theorem ok_isrow {f fS : Addr} {fd fdS : FuncData} (F : Fun K "is_row" "is_row" sIsRow f fd) (T : Blt mg)
    (GS : FnOk P w K mg base CX0 3 fS fdS ["spots", "places"] (spAreSpots K)) (kS : PySem.W.keepIn K (.ref fS) = true) (bS : Binds K fdS ["spots", "places"] []) (gS : mg "are_spots" = some (.ref fS)) : FnOk P w K mg base CX0 4 f fd ["row", "places"] (spIsRow K) := by
  refine F.ok scIsRow (fun vs H Q E h => ?_) (fun cdv A outer s H vs Q E hr h => ?_)
  · obtain ⟨t, n, row, rfl, _⟩ := h
    rfl
  · obtain ⟨t, n, row, rfl, ⟨a, u, m, rfl, ht, hu, hm⟩, g, k⟩ := h
    refine ⟨_, pss_cons (ps_if (PW.pt (pw_or (pt_not (pt_val (pe_callB call_isi (by rfl) T.isi (by decide +kernel) (pa_cons (pv 0) (pa_cons (pe_bltn (v := .ty "tuple") (by rfl) T.tuple (by decide +kernel) rfl) pa_nil)))))
        (pw_or1 (pt_cmpR op_ne (pe_callB call_len_seq (by rfl) T.len PySem.boot_len (pa_cons (pv 0) pa_nil)) pe_int (nomark _))))) (pss_one (ps_ret pe_bl)) pss_nil)
      (pss_cons (ps_asg (pv 0) (pg_tup (by rfl) (pgs_cons (pg_name (i := 2) scIsRow.nd rfl (.inl rfl)) (pgs_cons (pg_name (i := 3) scIsRow.nd rfl (.inl rfl)) pgs_nil))))
      (pss_one (ps_ret (pe_and (pe_call GS hr (by rfl) gS kS bS .nil pass0 (pa_cons (pv 2) (pa_cons (pv 1) pa_nil)))
        (pe_and (pe_call GS hr (by rfl) gS kS bS .nil pass0 (pa_cons (pv 3) (pa_cons (pv 1) pa_nil)))
          (pe_one (pe_cmpR op_eq (pe_callB call_len_seq (by rfl) T.len PySem.boot_len (pa_cons (pv 3) pa_nil)) (pv 1) (nomark _)))))))), ?_⟩
    refine ⟨_, rfl, _, _, _, _, true, rfl, .ty _, tyT ht, kit_ty (by decide +kernel), true, rfl, iteF ?_⟩
    refine ⟨_, rfl, a, _, rfl, .inr ht, rfl, false, rfl, iteF ?_⟩
    refine ⟨_, rfl, a, _, rfl, ht, rfl, _, _, rfl, _, _, rfl, rfl, ?_⟩
    refine ⟨_, rfl, _, rfl, u, n, row.1, rfl, hu, g.nd1, g.in1, g.len1, fun H1 s1 => ⟨true, rfl, iteT ?_⟩⟩
    have h60 : row.2.length ≤ 60 := by
      have := g.len2
      have := g.small
      omega
    refine ⟨_, rfl, _, rfl, m, n, row.2, rfl, sameQ s1 hm, g.nd2, g.in2, h60, fun H2 s2 => ⟨true, rfl, iteT ?_⟩⟩
    refine ⟨_, rfl, m, _, rfl, sameQ s2 (sameQ s1 hm), _, rfl, rfl, ?_⟩
    have e : V.int ((row.2.map V.int).length : Int) = V.int n := by rw [List.length_map, g.len2]
    rw [decide_eq_true e]
    exact k _ (s1.trans s2)
/-! are_rows -/
theorem scAreRows : FnScope ["rows", "places", "row"] ["rows", "places"] (defScope sAreRows) := ⟨rfl, rfl, rfl, by decide +kernel, rfl, by decide +kernel, by decide +kernel⟩
def spAreRows (K : PySem.W.Frag) : Sp := fun vs H Q _ => ∃ (a : Addr) (n : Int) (rows : List (List Int × List Int)) (ts : List V), vs = [.ref a, .int n] ∧ RowsIn K H a rows ts ∧ (∀ r ∈ rows, Good n r) ∧ 0 < rows.length ∧ rows.length ≤ 60 ∧ ∀ H', Same H H' → Q (.bl true) H'
theorem ok_arerows {f fR fS : Addr} {fd fdR fdS : FuncData} (F : Fun K "are_rows" "are_rows" sAreRows f fd) (T : Blt mg)
    (GS : FnOk P w K mg base CX0 1 fS fdS ["value"] (spIsSeq K)) (kS : PySem.W.keepIn K (.ref fS) = true) (bS : Binds K fdS ["value"] []) (gS : mg "is_sequence" = some (.ref fS))
    (GR : FnOk P w K mg base CX0 4 fR fdR ["row", "places"] (spIsRow K)) (kR : PySem.W.keepIn K (.ref fR) = true) (bR : Binds K fdR ["row", "places"] []) (gR : mg "is_row" = some (.ref fR)) : FnOk P w K mg base CX0 5 f fd ["rows", "places"] (spAreRows K) := by
  refine F.ok scAreRows (fun vs H Q E h => ?_) (fun cdv A outer s H vs Q E hr h => ?_)
  · obtain ⟨a, n, rows, ts, rfl, _⟩ := h
    rfl
  · obtain ⟨a, n, rows, ts, rfl, hR, hg, h0, hl, k⟩ := h
    refine ⟨_, pss_one (ps_ret (pe_and (pe_call GS (hr.mono (by decide)) (by rfl) gS kS bS .nil pass0 (pa_cons (pv 0) pa_nil))
      (pe_and (pe_cmpR op_gt (pe_callB call_len_seq (by rfl) T.len PySem.boot_len (pa_cons (pv 0) pa_nil)) pe_int (nomark _))
      (pe_one (pe_callB (cr_all rfl) (by rfl) T.all (by decide +kernel) (pa_cons
          (pe_lc (own := [("row", 2)]) (g := gName 2) (tt := tYes) rfl scAreRows.nd (pi_any (pi_list (pv 0)) (pi_tup (pv 0))) (blkOk_by (N := ["rows", "places", "row"]) (sc := defScope sAreRows) (by decide +kernel))
            (fun _ _ _ _ _ => pg_name (i := 2) scAreRows.nd rfl (Or.inl rfl)) (fun _ _ _ _ _ => pts_nil) (fun _ _ _ _ _ => pe_call GR hr (by rfl) gR kR bR .nil pass0 (pa_cons (pv 2) (pa_cons (pv 1) pa_nil)))) pa_nil)))))), ?_⟩
    refine ⟨_, rfl, a, _, rfl, hR.sq, fun H1 s1 => ⟨true, rfl, iteT ?_⟩⟩
    have hR1 := hR.same s1
    refine ⟨_, rfl, a, ts, rfl, hR1.sq, _, _, rfl, rfl, true, ?_, iteT ?_⟩
    · have e : ((0 : Int) < (ts.length : Int)) := by
        rw [hR.len]
        omega
      exact congrArg V.bl (decide_eq_true e)
    · dsimp only [tNot, tB, tCB, tCons, tAndV, tOp]
      refine map_sq (K := K) (a := a) (xs := ts) (ys := List.replicate ts.length (.bl true)) (vs := [2]) rfl hR1.sq (by rw [List.length_replicate]) (by rw [hR.len]; exact small1000 (by omega)) (fun D j x y H' R hx hy sm hq => ?_) (fun D H2 nD s2 e2 => ?_)
      · have hj : j < ts.length := (List.getElem?_eq_some_iff.mp hx).1
        have hr2 : rows[j]? = some (rows[j]'(by rw [← hR.len]; exact hj)) := List.getElem?_eq_getElem _
        refine ⟨rfl, _, rfl, _, rfl, x, n, _, rfl, (hR1.row j x _ hx hr2).same sm, hg _ (List.getElem_mem _), fun H3 s3 => ?_⟩
        rw [← get_rep hy]
        exact hq _ s3
      · have eb : (List.replicate ts.length (V.bl true)) = (List.replicate ts.length true).map V.bl := by rw [List.map_replicate]
        rw [eb] at e2
        refine ⟨D, _, rfl, SqL.of e2, ?_⟩
        have ea : (List.replicate ts.length true).all id = true := by
          rw [List.all_eq_true]
          intro x hx
          rw [(List.mem_replicate.mp hx).2]
          rfl
        rw [ea]
        exact k _ (s1.trans s2)
end
end Tr

namespace TrM
/-! sorting -/
def ins (x : Int) : List Int → List Int
  | [] => [x]
  | y :: r => if x ≤ y then x :: y :: r else y :: ins x r
def isort : List Int → List Int
  | [] => []
  | x :: r => ins x (isort r)
theorem ins_perm (x : Int) : ∀ l : List Int, (ins x l).Perm (x :: l)
  | [] => List.Perm.refl _
  | y :: r => by
    unfold ins
    split
    · exact List.Perm.refl _
    · exact (List.Perm.cons y (ins_perm x r)).trans (List.Perm.swap x y r)
theorem isort_perm : ∀ l : List Int, (isort l).Perm l
  | [] => List.Perm.refl _
  | x :: r => (ins_perm x (isort r)).trans (List.Perm.cons x (isort_perm r))
theorem ins_sorted (x : Int) : ∀ {l : List Int}, l.Pairwise (· ≤ ·) → (ins x l).Pairwise (· ≤ ·)
  | [], _ => List.pairwise_singleton _ _
  | y :: r, h => by
    have h1 := List.pairwise_cons.mp h
    unfold ins
    split
    · rename_i hx
      refine List.pairwise_cons.mpr ⟨fun z hz => ?_, h⟩
      rcases List.mem_cons.mp hz with e | e
      · rw [e]
        exact hx
      · exact Int.le_trans hx (h1.1 z e)
    · rename_i hx
      refine List.pairwise_cons.mpr ⟨fun z hz => ?_, ins_sorted x h1.2⟩
      rcases List.mem_cons.mp ((ins_perm x r).mem_iff.mp hz) with e | e
      · rw [e]
        omega
      · exact h1.1 z e
theorem isort_sorted : ∀ l : List Int, (isort l).Pairwise (· ≤ ·)
  | [] => List.Pairwise.nil
  | x :: r => ins_sorted x (isort_sorted r)
/-! the rota as plain lists: where a wheel lies -/
abbrev RRow := List Int × List Int
def mv (r : RRow) (s : Int) : Int := r.2.getD s.toNat 0
def rowAt (rows : List RRow) (d : Nat) : RRow := rows.getD (d % rows.length) ([], [])
def pos (rows : List RRow) (w : Int) : Nat → Int
  | 0 => w
  | d + 1 => mv (rowAt rows d) (pos rows w d)
def due (rows : List RRow) (w : Int) (d : Nat) : Bool := (rowAt rows d).1.contains (pos rows w d)
structure GoodRow (n : Int) (row : RRow) : Prop where
  nd1 : row.1.Nodup
  nd2 : row.2.Nodup
  in1 : ∀ x ∈ row.1, 0 ≤ x ∧ x < n
  in2 : ∀ x ∈ row.2, 0 ≤ x ∧ x < n
  len2 : (row.2.length : Int) = n
structure GoodRota (n : Int) (rows : List RRow) : Prop where
  row : ∀ r ∈ rows, GoodRow n r
  some : 0 < rows.length
variable {n : Int} {rows : List RRow} {w : Int}
theorem GoodRota.at_ (g : GoodRota n rows) (d : Nat) : GoodRow n (rowAt rows d) := by
  have h : d % rows.length < rows.length := Nat.mod_lt _ g.some
  unfold rowAt
  rw [List.getD_eq_getElem?_getD, List.getElem?_eq_getElem h]
  exact g.row _ (List.getElem_mem h)
theorem GoodRow.mv_get {r : RRow} (g : GoodRow n r) {s : Int} (h0 : 0 ≤ s) (h1 : s < n) : r.2[s.toNat]? = some (mv r s) := by
  have h : s.toNat < r.2.length := by
    have := g.len2
    omega
  unfold mv
  rw [List.getD_eq_getElem?_getD, List.getElem?_eq_getElem h]
  rfl
theorem GoodRow.mv_in {r : RRow} (g : GoodRow n r) {s : Int} (h0 : 0 ≤ s) (h1 : s < n) : 0 ≤ mv r s ∧ mv r s < n := g.in2 _ (List.mem_of_getElem? (g.mv_get h0 h1))
theorem GoodRow.mv_inj {r : RRow} (g : GoodRow n r) {s t : Int} (h0 : 0 ≤ s) (h1 : s < n) (k0 : 0 ≤ t) (k1 : t < n) (e : mv r s = mv r t) : s = t := by
  have a := g.mv_get h0 h1
  have b := g.mv_get k0 k1
  rw [e] at a
  obtain ⟨l1, e1⟩ := List.getElem?_eq_some_iff.mp a
  obtain ⟨l2, e2⟩ := List.getElem?_eq_some_iff.mp b
  have z := (List.getElem_inj g.nd2).mp (e1.trans e2.symm)
  omega
theorem pos_in (g : GoodRota n rows) (h0 : 0 ≤ w) (h1 : w < n) : ∀ d, 0 ≤ pos rows w d ∧ pos rows w d < n
  | 0 => ⟨h0, h1⟩
  | d + 1 => (g.at_ d).mv_in (pos_in g h0 h1 d).1 (pos_in g h0 h1 d).2
theorem rowAt_add (d L : Nat) (h : L % rows.length = 0) : rowAt rows (d + L) = rowAt rows d := by
  unfold rowAt
  rw [Nat.add_mod, h, Nat.add_zero, Nat.mod_mod]
theorem rowAt_add' (d L : Nat) (h : L % rows.length = 0) : rowAt rows (L + d) = rowAt rows d := by
  rw [Nat.add_comm]
  exact rowAt_add d L h
/-- two wheels on one place then were on one place first -/
theorem pos_inj (g : GoodRota n rows) {v : Int} (h0 : 0 ≤ w) (h1 : w < n) (k0 : 0 ≤ v) (k1 : v < n) : ∀ d, pos rows w d = pos rows v d → w = v
  | 0, e => e
  | d + 1, e => pos_inj g h0 h1 k0 k1 d ((g.at_ d).mv_inj (pos_in g h0 h1 d).1 (pos_in g h0 h1 d).2 (pos_in g k0 k1 d).1 (pos_in g k0 k1 d).2 e)
/-- from a day on that is a multiple of the rows it goes as from day 0 -/
theorem pos_from (L : Nat) (hL : L % rows.length = 0) : ∀ d, pos rows w (L + d) = pos rows (pos rows w L) d
  | 0 => rfl
  | d + 1 => by
    show mv (rowAt rows (L + d)) (pos rows w (L + d)) = mv (rowAt rows d) (pos rows (pos rows w L) d)
    rw [pos_from L hL d, rowAt_add' d L hL]
theorem pos_add {L : Nat} (hL : L % rows.length = 0) (hp : pos rows w L = w) (d : Nat) : pos rows w (L + d) = pos rows w d := by
  rw [pos_from L hL, hp]
theorem pos_mul {L : Nat} (hL : L % rows.length = 0) (hp : pos rows w L = w) (d : Nat) : ∀ k, pos rows w (L * k + d) = pos rows w d
  | 0 => by rw [Nat.mul_zero, Nat.zero_add]
  | k + 1 => by
    rw [Nat.mul_succ, Nat.add_right_comm, Nat.add_comm, pos_add hL hp]
    exact pos_mul hL hp d k
theorem pos_mod {L : Nat} (hL : L % rows.length = 0) (hp : pos rows w L = w) (d : Nat) : pos rows w d = pos rows w (d % L) := by
  have e : L * (d / L) + d % L = d := Nat.div_add_mod d L
  have z := pos_mul hL hp (d % L) (d / L)
  rw [e] at z
  exact z
theorem due_mod {L : Nat} (hL : L % rows.length = 0) (hp : pos rows w L = w) (d : Nat) : due rows w d = due rows w (d % L) := by
  unfold due
  rw [← pos_mod hL hp d]
  have e : rowAt rows d = rowAt rows (d % L) := by
    have z : L * (d / L) + d % L = d := Nat.div_add_mod d L
    have y := rowAt_add' (rows := rows) (d % L) (L * (d / L)) (by rw [Nat.mul_mod, hL, Nat.zero_mul, Nat.zero_mod])
    rw [z] at y
    exact y
  rw [e]
/-! rounds -/
/-- so many passes are the round of w -/
structure IsRound (rows : List RRow) (w : Int) (j : Nat) : Prop where
  one : 1 ≤ j
  back : pos rows w (j * rows.length) = w
  least : ∀ i, 1 ≤ i → i < j → pos rows w (i * rows.length) ≠ w
theorem IsRound.uniq {i j : Nat} (a : IsRound rows w i) (b : IsRound rows w j) : i = j := by
  rcases Nat.lt_trichotomy i j with h | h | h
  · exact absurd a.back (b.least i a.one h)
  · exact h
  · exact absurd b.back (a.least j b.one h)
theorem nodup_le' : ∀ (n : Nat) {l : List Int}, l.Nodup → (∀ x ∈ l, 0 ≤ x ∧ x < (n : Int)) → l.length ≤ n
  | 0, l, _, hb => by
    cases l with
    | nil => exact Nat.le_refl _
    | cons x r =>
      have := hb x List.mem_cons_self
      omega
  | n + 1, l, hd, hb => by
    have hd2 : (l.erase (n : Int)).Nodup := hd.erase _
    have ih := nodup_le' n hd2 fun x hx => by
      have h1 := (hd.mem_erase_iff.mp hx)
      have h2 := hb x h1.2
      have h3 := h1.1
      omega
    by_cases hm : (n : Int) ∈ l
    · have e := List.length_erase_of_mem hm
      omega
    · rw [List.erase_of_not_mem hm] at ih
      omega
/-- as long as the wheel was not back, no more passes than places -/
theorem passes_le (g : GoodRota n rows) (h0 : 0 ≤ w) (h1 : w < n) {j : Nat} (hj : ∀ i, 1 ≤ i → i < j → pos rows w (i * rows.length) ≠ w) : j ≤ n.toNat := by
  have hmul : ∀ i, (i * rows.length) % rows.length = 0 := fun i => Nat.mul_mod_left i rows.length
  have hnd : ((List.range j).map fun i => pos rows w (i * rows.length)).Nodup := by
    rw [List.Nodup, List.pairwise_map]
    refine List.Pairwise.imp_of_mem ?_ (List.pairwise_lt_range)
    intro a b ha hb hab e
    have hbj := List.mem_range.mp hb
    have e1 : b * rows.length = a * rows.length + (b - a) * rows.length := by
      rw [← Nat.add_mul]
      congr 1
      omega
    have e2 : pos rows w (b * rows.length) = pos rows (pos rows w ((b - a) * rows.length)) (a * rows.length) := by
      rw [e1, Nat.add_comm]
      exact pos_from _ (hmul _) _
    have hp := pos_in g h0 h1 ((b - a) * rows.length)
    have z := pos_inj g h0 h1 hp.1 hp.2 _ (e.trans e2)
    exact hj (b - a) (by omega) (by omega) z.symm
  have z := nodup_le' n.toNat hnd fun x hx => by
    obtain ⟨i, _, rfl⟩ := List.mem_map.mp hx
    have := pos_in g h0 h1 (i * rows.length)
    omega
  rw [List.length_map, List.length_range] at z
  exact z
/-! counts of due days -/
def cnt (rows : List RRow) (w : Int) (d : Nat) : Nat := ((List.range d).filter (due rows w)).length
theorem cnt_succ (d : Nat) : cnt rows w (d + 1) = cnt rows w d + if due rows w d then 1 else 0 := by
  unfold cnt
  rw [List.range_succ, List.filter_append, List.length_append]
  congr 1
  cases h : due rows w d <;> simp [h]
theorem cnt_add {L : Nat} (hL : L % rows.length = 0) (hp : pos rows w L = w) : ∀ d, cnt rows w (L + d) = cnt rows w L + cnt rows w d
  | 0 => rfl
  | d + 1 => by
    have e : due rows w (L + d) = due rows w d := by
      rw [due_mod hL hp (L + d), Nat.add_mod_left, ← due_mod hL hp d]
    rw [← Nat.add_assoc, cnt_succ, cnt_succ, cnt_add hL hp d, e, Nat.add_assoc]
theorem cnt_mul {L : Nat} (hL : L % rows.length = 0) (hp : pos rows w L = w) (d : Nat) : ∀ k, cnt rows w (L * k + d) = k * cnt rows w L + cnt rows w d
  | 0 => by rw [Nat.mul_zero, Nat.zero_add, Nat.zero_mul, Nat.zero_add]
  | k + 1 => by
    rw [Nat.mul_succ, Nat.add_right_comm, Nat.add_comm, cnt_add hL hp, cnt_mul hL hp d k, Nat.succ_mul]
    omega
theorem cnt_div {L : Nat} (hL : L % rows.length = 0) (hp : pos rows w L = w) (d : Nat) : cnt rows w d = d / L * cnt rows w L + cnt rows w (d % L) := by
  have e : L * (d / L) + d % L = d := Nat.div_add_mod d L
  have z := cnt_mul hL hp (d % L) (d / L)
  rw [e] at z
  exact z
end TrM

namespace TrM
variable {n : Int} {rows : List RRow} {w : Int}
/-- on each day each place has a wheel -/
theorem pos_surj (g : GoodRota n rows) (d : Nat) {s : Int} (h0 : 0 ≤ s) (h1 : s < n) : ∃ v, 0 ≤ v ∧ v < n ∧ pos rows v d = s := by
  by_cases hm : s ∈ (List.range n.toNat).map fun (k : Nat) => pos rows (k : Int) d
  · obtain ⟨k, hk, e⟩ := List.mem_map.mp hm
    have := List.mem_range.mp hk
    exact ⟨k, by omega, by omega, e⟩
  · exfalso
    have hnd : ((List.range n.toNat).map fun (k : Nat) => pos rows (k : Int) d).Nodup := by
      rw [List.Nodup, List.pairwise_map]
      refine List.Pairwise.imp_of_mem ?_ (List.pairwise_lt_range)
      intro a b ha hb hab e
      have h1 := List.mem_range.mp ha
      have h2 := List.mem_range.mp hb
      have z := pos_inj g (w := (a : Int)) (v := (b : Int)) (by omega) (by omega) (by omega) (by omega) d e
      omega
    have z := nodup_le' n.toNat (l := s :: (List.range n.toNat).map fun (k : Nat) => pos rows (k : Int) d) (List.nodup_cons.mpr ⟨hm, hnd⟩) fun x hx => by
      rcases List.mem_cons.mp hx with e | e
      · omega
      · obtain ⟨k, hk, e2⟩ := List.mem_map.mp e
        have := List.mem_range.mp hk
        have := pos_in g (w := (k : Int)) (by omega) (by omega) d
        omega
    rw [List.length_cons, List.length_map, List.length_range] at z
    omega
/-- the due days among the first m -/
def dues (rows : List RRow) (w : Int) (m : Nat) : List Nat := (List.range m).filter (due rows w)
theorem dues_succ (m : Nat) : dues rows w (m + 1) = if due rows w m = true then dues rows w m ++ [m] else dues rows w m := by
  unfold dues
  rw [List.range_succ, List.filter_append]
  cases h : due rows w m
  · rw [if_neg (by simp), List.filter_cons_of_neg (by rw [h]; exact Bool.false_ne_true), List.filter_nil, List.append_nil]
  · rw [if_pos rfl, List.filter_cons_of_pos h, List.filter_nil]
theorem dues_lt {m d : Nat} (h : d ∈ dues rows w m) : d < m := List.mem_range.mp (List.mem_filter.mp h).1
theorem dues_len (m : Nat) : (dues rows w m).length = cnt rows w m := rfl
/-- those ahead of an earlier day -/
theorem dues_below {m r : Nat} (h : r ≤ m) : (dues rows w m).filter (fun d => decide (d < r)) = dues rows w r := by
  induction m with
  | zero =>
    have e : r = 0 := by omega
    rw [e]
    rfl
  | succ m ih =>
    by_cases e : r = m + 1
    · rw [e]
      refine List.filter_eq_self.mpr fun d hd => decide_eq_true (dues_lt hd)
    · have h2 : r ≤ m := by omega
      rw [dues_succ]
      split
      · rw [List.filter_append, ih h2]
        have e2 : List.filter (fun d => decide (d < r)) [m] = [] := by
          rw [List.filter_cons_of_neg (by rw [decide_eq_false (by omega)]; exact Bool.false_ne_true)]
          rfl
        rw [e2, List.append_nil]
      · exact ih h2
end TrM

namespace Tr
open PySem PySem.Spec PyProof.Rows L2 TrM
/-! a heap without one address; a comprehension that makes objects -/
def del (H : Hp) (D : Addr) : Hp := fun b => if b = D then none else H b
theorem del_ne {H : Hp} {D b : Addr} (h : b ≠ D) : del H D b = H b := by
  unfold del
  rw [if_neg h]
theorem del_same {H H' : Hp} {D : Addr} (e : Same H H') : Same (del H D) (del H' D) := fun b o h => by
  by_cases hb : b = D
  · unfold del at h
    rw [if_pos hb] at h
    cases h
  · rw [del_ne hb] at h ⊢
    exact e _ _ h
theorem del_upd {H : Hp} {D : Addr} {o : HO} : del (upd H D o) D = del H D := by
  funext b
  by_cases hb : b = D
  · unfold del
    rw [if_pos hb, if_pos hb]
  · rw [del_ne hb, del_ne hb, upd_ne hb]
theorem del_le {H : Hp} {D : Addr} : Same (del H D) H := fun b o h => by
  by_cases hb : b = D
  · unfold del at h
    rw [if_pos hb] at h
    cases h
  · rw [del_ne hb] at h
    exact h
theorem del_T {K : PySem.W.Frag} {H : Hp} {D m : Addr} {xs acc : List V} (h : SqT K H m xs) (hD : H D = some (.lst acc)) : SqT K (del H D) m xs := by
  rcases h with (h | ⟨o, h⟩) | h
  · refine .inl (.inl ?_)
    rw [del_ne (ne_of h hD (by intro z; cases z))]
    exact h
  · refine .inl (.inr ⟨o, ?_⟩)
    rw [del_ne (ne_of h hD (by intro z; cases z))]
    exact h
  · exact .inr h
theorem map_obj {K : PySem.W.Frag} {a : Addr} {xs : List V} {vs : List Nat} {σ : L2.St} {H : Hp} {g : TG} {te : TE} {Q : VK} {i : Nat} (Pr : Nat → V → Hp → Prop) (mono : ∀ j y H H', Pr j y H → Same H H' → Pr j y H')
    (hσ : σ[i]? = some (some (.ref a))) (hq : Sq K H a xs) (hz : xs.length < sizeLine)
    (hs : ∀ (D : Addr) (acc : List V) (j : Nat) (x : V) (H' : Hp) (R : V → Hp → Prop), xs[j]? = some x → Same H H' → H' D = some (.lst acc) → (∀ y H4, Same H' H4 → Pr j y (del H4 D) → R y H4) → g x (wipe σ vs) H' fun σ2 H2 => wipe σ2 vs = wipe σ vs ∧ te σ2 H2 R)
    (hd : ∀ (D : Addr) (H' : Hp) (ys : List V), H D = none → Same H H' → H' D = some (.lst ys) → ys.length = xs.length → (∀ j y, ys[j]? = some y → Pr j y (del H' D)) → Q (.ref D) H') : tLc (iSeq K (tVar i)) g tYes te vs σ H Q := by
  have turn : ∀ (D : Addr) (j : Nat) (x : V) (H' : Hp), H D = none → xs[j]? = some x → (Same H H' ∧ ∃ ys, H' D = some (.lst ys) ∧ ys.length = j ∧ ∀ k y, ys[k]? = some y → Pr k y (del H' D)) → g x (wipe σ vs) H' fun σ2 H2 => wipe σ2 vs = wipe σ vs ∧ tYes σ2 H2 fun b H3 =>
      if b = true then te σ2 H3 fun y H4 => ∃ acc, H4 D = some (.lst acc) ∧ acc.length < sizeLine ∧ (Same H (upd H4 D (.lst (acc ++ [y]))) ∧ ∃ ys, (upd H4 D (.lst (acc ++ [y]))) D = some (.lst ys) ∧ ys.length = j + 1 ∧ ∀ k y', ys[k]? = some y' → Pr k y' (del (upd H4 D (.lst (acc ++ [y]))) D))
      else (Same H H3 ∧ ∃ ys, H3 D = some (.lst ys) ∧ ys.length = j + 1 ∧ ∀ k y, ys[k]? = some y → Pr k y (del H3 D)) := by
    intro D j x H' nD hx ⟨sm, ys, eD, hl, hP⟩
    have hj : j < xs.length := (List.getElem?_eq_some_iff.mp hx).1
    exact hs D ys j x H' (fun y H4 => ∃ acc, H4 D = some (.lst acc) ∧ acc.length < sizeLine ∧ (Same H (upd H4 D (.lst (acc ++ [y]))) ∧ ∃ ys, (upd H4 D (.lst (acc ++ [y]))) D = some (.lst ys) ∧ ys.length = j + 1 ∧ ∀ k y', ys[k]? = some y' → Pr k y' (del (upd H4 D (.lst (acc ++ [y]))) D))) hx sm eD fun y H4 s4 hp => by
      refine ⟨ys, s4 _ _ eD, by omega, fun b o e => ?_, ys ++ [y], upd_same, by rw [List.length_append, hl]; rfl, fun k y' hk => ?_⟩
      · rw [upd_ne (ne_of_none e nD)]
        exact s4 _ _ (sm _ _ e)
      · rw [del_upd]
        by_cases hk2 : k < ys.length
        · rw [List.getElem?_append_left hk2] at hk
          exact mono _ _ _ _ (hP k y' hk) (del_same s4)
        · rw [List.getElem?_append_right (by omega)] at hk
          have e0 : k - ys.length = 0 := by
            have := (List.getElem?_eq_some_iff.mp hk).1
            rw [List.length_singleton] at this
            omega
          rw [e0] at hk
          have e1 : y = y' := Option.some.inj hk
          have e2 : k = j := by omega
          rw [e2, ← e1]
          exact hp
  have fin : ∀ (D : Addr) (H' : Hp), H D = none → (Same H H' ∧ ∃ ys, H' D = some (.lst ys) ∧ ys.length = xs.length ∧ ∀ k y, ys[k]? = some y → Pr k y (del H' D)) → Q (.ref D) H' := fun D H' nD ⟨sm, ys, eD, hl, hP⟩ => hd D H' ys nD sm eD hl hP
  have st : ∀ D, H D = none → (Same H (upd H D (.lst [])) ∧ ∃ ys : List V, (upd H D (.lst [])) D = some (.lst ys) ∧ ys.length = 0 ∧ ∀ k y, ys[k]? = some y → Pr k y (del (upd H D (.lst [])) D)) := fun D nD => ⟨same_new nD, [], upd_same, rfl, fun k y hk => by simp at hk⟩
  rcases hq with h | h
  · refine .inl ⟨_, hσ, a, rfl, ⟨xs, h⟩, fun D nD => ?_⟩
    exact lc_list (K := K) (a := a) (xs := xs) (fun j H' => Same H H' ∧ ∃ ys, H' D = some (.lst ys) ∧ ys.length = j ∧ ∀ k y, ys[k]? = some y → Pr k y (del H' D)) (st D nD) (fun j H' _ p => p.1.seq h) (fun j x H' hx p => turn D j x H' nD hx p) fun H' p => fin D H' nD p
  · refine .inr ⟨_, hσ, a, rfl, ⟨xs, h⟩, fun D nD => ?_⟩
    exact lc_tup (K := K) (a := a) (xs := xs) (fun j H' => Same H H' ∧ ∃ ys, H' D = some (.lst ys) ∧ ys.length = j ∧ ∀ k y, ys[k]? = some y → Pr k y (del H' D)) (st D nD) (fun j H' _ p => sameT p.1 h) (fun j x H' hx p => turn D j x H' nD hx p) fun H' p => fin D H' nD p
/-! a made rota -/
def rf (n : Int) (R : Addr) : List (Str × V) := putF "rows" (.ref R) (putF "places" (.int n) [])
theorem pr_ne : ¬ (("places" : Str) = "rows") := by decide +kernel
theorem rf_places (n : Int) (R : Addr) : (rf n R).lookup ("places" : Str) = some (.int n) := by
  unfold rf
  rw [lookup_putF, if_neg pr_ne, lookup_putF, if_pos rfl]
theorem rf_rows (n : Int) (R : Addr) : (rf n R).lookup ("rows" : Str) = some (.ref R) := by
  unfold rf
  rw [lookup_putF, if_pos rfl]
theorem rf_no (n : Int) (R : Addr) {m : Str} (h1 : ¬ m = "rows") (h2 : ¬ m = "places") : (rf n R).lookup m = none := by
  unfold rf
  rw [lookup_putF, if_neg h1, lookup_putF, if_neg h2]
  all_goals rfl
def RowT (K : PySem.W.Frag) (H : Hp) (t : V) (row : RRow) : Prop := ∃ (a u m : Addr), t = .ref a ∧ SqT K H a [.ref u, .ref m] ∧ SqT K H u (row.1.map V.int) ∧ SqT K H m (row.2.map V.int)
theorem RowT.same {K : PySem.W.Frag} {H H' : Hp} {t : V} {row : RRow} (h : RowT K H t row) (e : Same H H') : RowT K H' t row :=
  let ⟨a, u, m, h1, h2, h3, h4⟩ := h
  ⟨a, u, m, h1, sameT e h2, sameT e h3, sameT e h4⟩
structure RowsT (K : PySem.W.Frag) (H : Hp) (a : Addr) (rows : List RRow) (ts : List V) : Prop where
  sq : SqT K H a ts
  len : ts.length = rows.length
  row : ∀ (j : Nat) (t : V) (r : RRow), ts[j]? = some t → rows[j]? = some r → RowT K H t r
theorem RowsT.same {K : PySem.W.Frag} {H H' : Hp} {a : Addr} {rows : List RRow} {ts : List V} (h : RowsT K H a rows ts) (e : Same H H') : RowsT K H' a rows ts := ⟨sameT e h.sq, h.len, fun j t r h1 h2 => (h.row j t r h1 h2).same e⟩
def RotaAt (K : PySem.W.Frag) (C : Addr) (H : Hp) (p : Addr) (n : Int) (rows : List RRow) : Prop := ∃ (dx R : Addr) (ts : List V), H p = some (.ins C dx (rf n R)) ∧ RowsT K H R rows ts
theorem RotaAt.same {K : PySem.W.Frag} {C : Addr} {H H' : Hp} {p : Addr} {n : Int} {rows : List RRow} (h : RotaAt K C H p n rows) (e : Same H H') : RotaAt K C H' p n rows :=
  let ⟨dx, R, ts, h1, h2⟩ := h
  ⟨dx, R, ts, e _ _ h1, h2.same e⟩
/-- a row as it is kept: its turned places ascending -/
def srt (row : RRow) : RRow := (isort row.1, row.2)
structure RTxt (K : PySem.W.Frag) (mg : Str → Option Value) (C : Addr) : Prop where
  cl : Cls K C
  nP : NoAttr K C "places"
  nR : NoAttr K C "rows"
  mgC : mg "Rota" = some (.ref C)
section
variable {P : Program} {w : World} {K : PySem.W.Frag} {mg : Str → Option Value} {base : Heap}
/-! Rota.__init__ -/
def rTupOf (K : PySem.W.Frag) : List V → Hp → VK → Prop := fun xs H Q => ∃ (p : Addr) (ys : List V), xs = [.ref p] ∧ ((SqL K H p ys ∧ ∀ l, H l = none → Q (.ref l) (upd H l (.tup ys))) ∨ (SqT K H p ys ∧ Q (.ref p) H))
theorem cr_tupOf {X : Cx} : CallR X (.type "tuple") (rTupOf X.K) := call_tuple_of
theorem scInit : FnScope ["self", "places", "rows", "turned", "moves"] ["self", "places", "rows"] (defScope sInit) := ⟨rfl, rfl, rfl, by decide +kernel, rfl, by decide +kernel, by decide +kernel⟩
def spInit (K : PySem.W.Frag) (C : Addr) : Sp := fun vs H Q _ => ∃ (p dx a : Addr) (n : Int) (rows : List RRow) (ts : List V), vs = [.ref p, .int n, .ref a] ∧ H p = some (.ins C dx []) ∧ RowsIn K H a rows ts ∧ (∀ r ∈ rows, Good n r) ∧ 0 < rows.length ∧ rows.length ≤ 60 ∧ 1 ≤ n ∧
  ∀ (R : Addr) (us : List V) (H' : Hp), H' p = some (.ins C dx (rf n R)) → RowsT K H' R (rows.map srt) us → (∀ b o, H b = some o → b ≠ p → H' b = some o) → Q .non H'
theorem ok_init {f fW fR C : Addr} {fd fdW fdR : FuncData} (F : Fun K "__init__" "Rota.__init__" sInit f fd) (T : Blt mg) (C0 : RTxt K mg C)
    (GW : FnOk P w K mg base CX0 1 fW fdW ["value", "least"] spWhole) (kW : PySem.W.keepIn K (.ref fW) = true) (bW : Binds K fdW ["value", "least"] []) (gW : mg "is_whole" = some (.ref fW))
    (GR : FnOk P w K mg base CX0 5 fR fdR ["rows", "places"] (spAreRows K)) (kR : PySem.W.keepIn K (.ref fR) = true) (bR : Binds K fdR ["rows", "places"] []) (gR : mg "are_rows" = some (.ref fR)) : FnOk P w K mg base CX0 6 f fd ["self", "places", "rows"] (spInit K C) := by
  refine F.ok scInit (fun vs H Q E h => ?_) (fun cdv A outer s H vs Q E hr h => ?_)
  · obtain ⟨p, dx, a, n, rows, ts, rfl, _⟩ := h
    rfl
  · obtain ⟨p, dx, a, n, rows, ts, rfl, hp, hR, hg, h0, hl, h1, k⟩ := h
    refine ⟨_, pss_cons (ps_if (pt_not (pt_val (pe_call GW (hr.mono (by decide)) (by rfl) gW kW bW .nil pass0 (pa_cons (pv 1) (pa_cons pe_int pa_nil))))) (pss_one ps_never) pss_nil)
      (pss_cons (ps_if (pt_not (pt_val (pe_call GR hr (by rfl) gR kR bR .nil pass0 (pa_cons (pv 2) (pa_cons (pv 1) pa_nil))))) (pss_one ps_never) pss_nil)
      (pss_cons (ps_fld (pv 0) (pv 1) rfl)
      (pss_one (ps_fld (pv 0) (pe_callTy cr_tupOf (by rfl) T.tuple (by decide +kernel) (pa_cons
        (pe_lc (own := [("turned", 3), ("moves", 4)]) (g := gTup K 2 (gCons (gName 3) (gCons (gName 4) gNil))) (tt := tYes)
            (te := tTup (tCons (tCB (rTupOf K) (tCons (tCB (rSortedQ K) (tCons (tVar 3) tNil)) tNil)) (tCons (tCB (rTupOf K) (tCons (tVar 4) tNil)) tNil))) rfl scInit.nd (pi_any (pi_list (pv 2)) (pi_tup (pv 2))) (blkOk_by (N := ["self", "places", "rows", "turned", "moves"]) (sc := defScope sInit) (by decide +kernel))
          (fun _ _ _ _ _ => pg_tup (by rfl) (pgs_cons (pg_name (i := 3) scInit.nd rfl (Or.inl rfl)) (pgs_cons (pg_name (i := 4) scInit.nd rfl (Or.inl rfl)) pgs_nil))) (fun _ _ _ _ _ => pts_nil)
          (fun _ _ _ _ _ => pe_tup (pa_cons (pe_callTy (T := "tuple") cr_tupOf (by rfl) T.tuple (by decide +kernel) (pa_cons (pe_callB (id := "sorted") cr_sortedQ (by rfl) T.sorted (by decide +kernel) (pa_cons (pv 3) pa_nil)) pa_nil))
            (pa_cons (pe_callTy (T := "tuple") cr_tupOf (by rfl) T.tuple (by decide +kernel) (pa_cons (pv 4) pa_nil)) pa_nil)))) pa_nil)) rfl)))), ?_⟩
    refine ⟨_, rfl, n, 1, rfl, true, ?_, iteF ?_⟩
    · exact congrArg V.bl (decide_eq_true h1)
    refine ⟨_, rfl, _, rfl, a, n, rows, ts, rfl, hR, hg, h0, hl, fun H1 s1 => ⟨true, rfl, iteF ?_⟩⟩
    have hp1 := s1 _ _ hp
    refine ⟨_, rfl, _, rfl, p, C, dx, _, rfl, hp1, C0.cl, C0.nP, (by show 0 < 1000; decide), ?_⟩
    -- the heap with self.places
    have hR2 : RowsIn K (upd H1 p (.ins C dx (putF "places" (.int n) []))) a rows ts := by
      have hR1 := hR.same s1
      have sT : ∀ {b : Addr} {xs : List V}, SqT K H1 b xs → SqT K (upd H1 p (.ins C dx (putF "places" (.int n) []))) b xs := fun {b xs} h => by
        rcases h with (h | ⟨o, h⟩) | h
        · exact .inl (.inl (by rw [upd_ne (ne_of h hp1 (by intro z; cases z))]; exact h))
        · exact .inl (.inr ⟨o, by rw [upd_ne (ne_of h hp1 (by intro z; cases z))]; exact h⟩)
        · exact .inr h
      have sL : ∀ {b : Addr} {xs : List V}, SqL K H1 b xs → SqL K (upd H1 p (.ins C dx (putF "places" (.int n) []))) b xs := fun {b xs} h => by
        rcases h with (h | ⟨o, h⟩) | h
        · exact .inl (.inl (by rw [upd_ne (ne_of h hp1 (by intro z; cases z))]; exact h))
        · exact .inl (.inr ⟨o, by rw [upd_ne (ne_of h hp1 (by intro z; cases z))]; exact h⟩)
        · exact .inr h
      have sQ : ∀ {b : Addr} {xs : List V}, Sq K H1 b xs → Sq K (upd H1 p (.ins C dx (putF "places" (.int n) []))) b xs := fun h => h.elim (fun h => .inl (sL h)) fun h => .inr (sT h)
      exact ⟨sQ hR1.sq, hR1.len, fun j t r e1 e2 => let ⟨b, u, m, q1, q2, q3, q4⟩ := hR1.row j t r e1 e2; ⟨b, u, m, q1, sT q2, sQ q3, sQ q4⟩⟩
    generalize hH2 : upd H1 p (.ins C dx (putF "places" (.int n) [])) = H2 at hR2 ⊢
    have hp2 : H2 p = some (.ins C dx (putF "places" (.int n) [])) := by
      rw [← hH2]
      exact upd_same
    have k2 : ∀ b o, H b = some o → b ≠ p → H2 b = some o := fun b o e hb => by
      rw [← hH2, upd_ne hb]
      exact s1 _ _ e
    dsimp only [sFld, tCB, tCons]
    refine map_obj (K := K) (a := a) (xs := ts) (vs := [3, 4]) (fun j y H => ∃ r, rows[j]? = some r ∧ RowT K H y (srt r)) (fun j y H H' ⟨r, e1, e2⟩ e => ⟨r, e1, e2.same e⟩) (by rfl) hR2.sq (by rw [hR.len]; exact small1000 (by omega)) (fun D acc j x H3 R hx s3 hD hq => ?_) (fun D H3 ys nD s3 eD hlen hP => ?_)
    · have hj : j < rows.length := by
        rw [← hR.len]
        exact (List.getElem?_eq_some_iff.mp hx).1
      have er : rows[j]? = some rows[j] := List.getElem?_eq_getElem hj
      obtain ⟨t, u, m, rfl, ht, hu, hm⟩ := (hR2.row j x _ hx er).same s3
      refine ⟨t, _, rfl, ht, rfl, _, _, rfl, _, _, rfl, rfl, rfl, ?_⟩
      refine ⟨_, rfl, u, _, rfl, hu, fun ns' l hpm hsr nl => ?_⟩
      have s4 : Same H3 (upd H3 l (.lst (ns'.map V.int))) := same_new nl
      refine ⟨l, _, rfl, .inl ⟨SqL.of upd_same, fun q nq => ?_⟩⟩
      have s5 : Same (upd H3 l (.lst (ns'.map V.int))) (upd (upd H3 l (.lst (ns'.map V.int))) q (.tup (ns'.map V.int))) := same_new nq
      generalize hH5 : upd (upd H3 l (.lst (ns'.map V.int))) q (.tup (ns'.map V.int)) = H5 at s5 ⊢
      have s35 : Same H3 H5 := s4.trans s5
      have eq5 : SqT K H5 q ((isort (rows[j]).1).map V.int) := by
        have e : ns' = isort (rows[j]).1 := PySem.W.ksm_same (hpm.trans (isort_perm _).symm) hsr (isort_sorted _)
        rw [← e, ← hH5]
        exact SqT.of upd_same
      have last : ∀ (H6 : Hp) (m' : Addr), Same H5 H6 → SqT K H6 m' ((rows[j]).2.map V.int) → ∀ p', H6 p' = none → R (.ref p') (upd H6 p' (.tup [.ref q, .ref m'])) := fun H6 m' s6 hm' p' np => by
        have s7 : Same H6 (upd H6 p' (.tup [.ref q, .ref m'])) := same_new np
        have s37 := (s35.trans s6).trans s7
        have hD7 := s37 _ _ hD
        exact hq _ _ s37 ⟨rows[j], er, p', q, m', rfl, del_T (SqT.of upd_same) hD7, del_T (sameT (s6.trans s7) eq5) hD7, del_T (sameT s7 hm') hD7⟩
      rcases sameQ s35 hm with hm5 | hm5
      · refine ⟨_, rfl, m, _, rfl, .inl ⟨hm5, fun m' nm => ⟨(by show 2 ≤ sizeLine; decide), fun p' np => ?_⟩⟩⟩
        exact last _ m' (same_new nm) (SqT.of upd_same) p' np
      · refine ⟨_, rfl, m, _, rfl, .inr ⟨hm5, ⟨(by show 2 ≤ sizeLine; decide), fun p' np => ?_⟩⟩⟩
        exact last _ m (Same.refl _) hm5 p' np
    · refine ⟨D, _, rfl, .inl ⟨SqL.of eD, fun R nR => ?_⟩⟩
      have s4 : Same H3 (upd H3 R (.tup ys)) := same_new nR
      have hp3 := s3 _ _ hp2
      have npR : p ≠ R := ne_of_none hp3 nR
      refine ⟨_, rfl, p, C, dx, _, rfl, s4 _ _ hp3, C0.cl, C0.nR, (by show 1 < 1000; decide), ?_⟩
      have keep : ∀ b o, H b = some o → b ≠ p → (upd (upd H3 R (.tup ys)) p (.ins C dx (putF "rows" (.ref R) (putF "places" (.int n) [])))) b = some o := fun b o e hb => by
        rw [upd_ne hb]
        exact s4 _ _ (s3 _ _ (k2 b o e hb))
      have noP : ∀ (b : Addr) (xs : List V), SqT K (del H3 D) b xs → SqT K (upd (upd H3 R (.tup ys)) p (.ins C dx (putF "rows" (.ref R) (putF "places" (.int n) [])))) b xs := fun b xs h => by
        rcases sameT (del_le.trans s4) h with (h | ⟨o, h⟩) | h
        · exact .inl (.inl (by rw [upd_ne (ne_of h (s4 _ _ hp3) (by intro z; cases z))]; exact h))
        · exact .inl (.inr ⟨o, by rw [upd_ne (ne_of h (s4 _ _ hp3) (by intro z; cases z))]; exact h⟩)
        · exact .inr h
      refine k R ys _ upd_same ⟨SqT.of (by rw [upd_ne npR.symm, upd_same]), by rw [hlen, hR.len, List.length_map], fun j t r e1 e2 => ?_⟩ keep
      obtain ⟨r0, e3, b, u, m, q1, q2, q3, q4⟩ := hP j t e1
      have e4 : srt r0 = r := by
        rw [List.getElem?_map, e3] at e2
        exact Option.some.inj e2
      rw [← e4]
      exact ⟨b, u, m, q1, noP _ _ q2, noP _ _ q3, noP _ _ q4⟩
end
end Tr

namespace Tr
open PySem PySem.Spec PyProof.Rows L2 TrM
theorem at_int {α : Type} {xs : List α} {z : Int} {v : α} (h0 : 0 ≤ z) (h : xs[z.toNat]? = some v) : atI xs z = some v := by
  obtain ⟨k, rfl⟩ := Int.eq_ofNat_of_zero_le h0
  exact atI_nat h
/-- what is known of a made rota in all functions of ways -/
structure Made (K : PySem.W.Frag) (C : Addr) (H : Hp) (p : Addr) (n : Int) (rows : List RRow) : Prop where
  at_ : RotaAt K C H p n rows
  good : GoodRota n rows
  ln : n ≤ 60
  lr : rows.length ≤ 60
theorem Made.same {K : PySem.W.Frag} {C : Addr} {H H' : Hp} {p : Addr} {n : Int} {rows : List RRow} (h : Made K C H p n rows) (e : Same H H') : Made K C H' p n rows := ⟨h.at_.same e, h.good, h.ln, h.lr⟩
/-- the places of a wheel, day by day -/
def spotsV (rows : List RRow) (x : Int) (m : Nat) : List V := (List.range m).map fun d => V.int (pos rows x d)
theorem spotsV_len (rows : List RRow) (x : Int) (m : Nat) : (spotsV rows x m).length = m := by
  unfold spotsV
  rw [List.length_map, List.length_range]
theorem spotsV_succ (rows : List RRow) (x : Int) (m : Nat) : spotsV rows x (m + 1) = spotsV rows x m ++ [V.int (pos rows x m)] := by
  unfold spotsV
  rw [List.range_succ, List.map_append]
  rfl
theorem spotsV_get {rows : List RRow} {x : Int} {m d : Nat} (h : d < m) : (spotsV rows x m)[d]? = some (V.int (pos rows x d)) := by
  unfold spotsV
  rw [List.getElem?_map, List.getElem?_range h]
  rfl
theorem spotsV_emp (rows : List RRow) (x : Int) (m : Nat) : (spotsV rows x m).isEmpty = decide (m = 0) := by
  cases m with
  | zero => rfl
  | succ k => rw [spotsV_succ, decide_eq_false (by omega)]; simp
theorem rowAt_pass {rows : List RRow} {i : Nat} (j : Nat) (hi : i < rows.length) : rowAt rows (j * rows.length + i) = rows[i] := by
  unfold rowAt
  rw [Nat.mul_comm, Nat.mul_add_mod, Nat.mod_eq_of_lt hi, List.getD_eq_getElem?_getD, List.getElem?_eq_getElem hi]
  rfl
def MonoT (t : TT) : Prop := ∀ σ H (Q Q' : Bool → Hp → Prop), (∀ b H1, Q b H1 → Q' b H1) → t σ H Q → t σ H Q'
theorem mono_or {A B : TT} (hA : MonoT A) (hB : MonoT B) : MonoT (tOr A B) := fun σ H Q Q' hq h => hA σ H _ _ (fun c H1 h1 => by
  by_cases hc : c = true
  · rw [if_pos hc] at h1 ⊢
    exact hq _ _ h1
  · rw [if_neg hc] at h1 ⊢
    exact hB _ _ _ _ hq h1) h
theorem mono_not {A : TT} (hA : MonoT A) : MonoT (tNot A) := fun σ H Q Q' hq h => hA σ H _ _ (fun c H1 h1 => hq _ _ h1) h
section
variable {P : Program} {w : World} {K : PySem.W.Frag} {mg : Str → Option Value} {base : Heap}
/-! Rota.__len__ -/
theorem scLen : FnScope ["self"] ["self"] (defScope sLen) := ⟨rfl, rfl, rfl, by decide +kernel, rfl, by decide +kernel, by decide +kernel⟩
def spLen (K : PySem.W.Frag) (C : Addr) : Sp := fun vs H Q _ => ∃ (p : Addr) (n : Int) (rows : List RRow), vs = [.ref p] ∧ RotaAt K C H p n rows ∧ Q (.int (rows.length : Nat)) H
theorem ok_len {f C : Addr} {fd : FuncData} (F : Fun K "__len__" "Rota.__len__" sLen f fd) (T : Blt mg) (C0 : RTxt K mg C) : FnOk P w K mg base CX0 1 f fd ["self"] (spLen K C) := by
  refine F.ok scLen (fun vs H Q E h => ?_) (fun cdv A outer s H vs Q E hr h => ?_)
  · obtain ⟨p, n, rows, rfl, _⟩ := h
    rfl
  · obtain ⟨p, n, rows, rfl, ⟨dx, R, ts, hp, hR⟩, k⟩ := h
    refine ⟨_, pss_one (ps_ret (pe_callB call_len_seq (by rfl) T.len PySem.boot_len (pa_cons (pe_fld (pv 0) rfl) pa_nil))), ?_⟩
    refine ⟨_, rfl, p, C, dx, _, _, rfl, hp, C0.cl, C0.nR, rf_rows _ _, R, ts, rfl, .inr hR.sq, ?_⟩
    rw [hR.len]
    exact k
/-! check_wheel -/
theorem scCheck : FnScope ["rota", "wheel"] ["rota", "wheel"] (defScope sCheck) := ⟨rfl, rfl, rfl, by decide +kernel, rfl, by decide +kernel, by decide +kernel⟩
def spCheck (K : PySem.W.Frag) (C : Addr) : Sp := fun vs H Q _ => ∃ (p : Addr) (x n : Int) (rows : List RRow), vs = [.ref p, .int x] ∧ RotaAt K C H p n rows ∧ 0 ≤ x ∧ x < n ∧ Q .non H
theorem ok_check {f fB C : Addr} {fd fdB : FuncData} (F : Fun K "check_wheel" "check_wheel" sCheck f fd) (C0 : RTxt K mg C)
    (GB : FnOk P w K mg base CX0 2 fB fdB ["value", "many"] spBelow) (kB : PySem.W.keepIn K (.ref fB) = true) (bB : Binds K fdB ["value", "many"] []) (gB : mg "is_below" = some (.ref fB)) : FnOk P w K mg base CX0 3 f fd ["rota", "wheel"] (spCheck K C) := by
  refine F.ok scCheck (fun vs H Q E h => ?_) (fun cdv A outer s H vs Q E hr h => ?_)
  · obtain ⟨p, x, n, rows, rfl, _⟩ := h
    rfl
  · obtain ⟨p, x, n, rows, rfl, ⟨dx, R, ts, hp, hR⟩, h0, h1, k⟩ := h
    refine ⟨_, pss_one (ps_if (pt_not (pt_val (pe_call GB hr (by rfl) gB kB bB .nil pass0 (pa_cons (pv 1) (pa_cons (pe_fld (pv 0) rfl) pa_nil))))) (pss_one ps_never) pss_nil), ?_⟩
    refine ⟨_, rfl, _, rfl, p, C, dx, _, _, rfl, hp, C0.cl, C0.nP, rf_places _ _, x, n, rfl, true, ?_, iteF ?_⟩
    · exact congrArg V.bl (decide_eq_true ⟨h0, h1⟩)
    · exact k
/-! round_spots -/
theorem scSpots : FnScope ["rota", "wheel", "spots", "spot", "_", "moves"] ["rota", "wheel"] (defScope sSpots) := ⟨rfl, rfl, rfl, by decide +kernel, rfl, by decide +kernel, by decide +kernel⟩
def spSpots (K : PySem.W.Frag) (C : Addr) : Sp := fun vs H Q _ => ∃ (p : Addr) (x n : Int) (rows : List RRow), vs = [.ref p, .int x] ∧ Made K C H p n rows ∧ 0 ≤ x ∧ x < n ∧
  ∀ (j : Nat) (D : Addr) (H' : Hp), IsRound rows x j → j ≤ 60 → Same H H' → H' D = some (.lst (spotsV rows x (j * rows.length))) → Q (.ref D) H'
theorem ok_spots {f C : Addr} {fd : FuncData} {k : Nat} (F : Fun K "round_spots" "round_spots" sSpots f fd) (C0 : RTxt K mg C) : FnOk P w K mg base CX0 (k + 1) f fd ["rota", "wheel"] (spSpots K C) := by
  refine F.ok scSpots (fun vs H Q E h => ?_) (fun cdv A outer s H vs Q E hr h => ?_)
  · obtain ⟨p, x, n, rows, rfl, _⟩ := h
    rfl
  · obtain ⟨p, x, n, rows, rfl, M, h0, h1, k⟩ := h
    obtain ⟨dx, R, ts, hp, hR⟩ := id M.at_
    have hlen := M.good.some
    refine ⟨_, pss_cons (ps_set (i := 2) scSpots.nd rfl (.inl rfl) (pe_lst pa_nil))
      (pss_cons (ps_set (i := 3) scSpots.nd rfl (.inl rfl) (pv 1))
      (pss_cons (ps_while PassesOwn.never (PW.pt (pw_or (pt_not (pt_truth (pv 2) (fun _ => rfl))) (pw_or1 (pt_cmpR op_ne (pv 3) (pv 1) (nomark _)))))
        (pss_one (ps_for PassesOwn.never rfl (pi_tup (pe_fld (pv 0) rfl)) (pg_tup (by rfl) (pgs_cons (pg_name (i := 4) scSpots.nd rfl (.inl rfl)) (pgs_cons (pg_name (i := 5) scSpots.nd rfl (.inl rfl)) pgs_nil)))
          (pss_cons (ps_expr (pe_bm PySem.F.plainAttrs_list PySem.F.slot_list_append PySem.F.type_list_append mt_append (pv 2) (pa_cons (pv 3) pa_nil)))
          (pss_one (ps_set (i := 3) scSpots.nd rfl (.inl rfl) (pe_ix ix_tup (pv 5) (pv 3) (fun _ _ => rfl))))))))
      (pss_one (ps_ret (pv 2))))), ?_⟩
    refine ⟨Nat.zero_le _, fun D nD => ⟨_, rfl, ?_⟩⟩
    have s1 : Same H (upd H D (.lst [])) := same_new nD
    refine while_by (fun σ H' => ∃ (j : Nat) (y4 y5 : Option V), σ = [some (.ref p), some (.int x), some (.ref D), some (.int (pos rows x (j * rows.length))), y4, y5] ∧ Same H H' ∧ H' D = some (.lst (spotsV rows x (j * rows.length))) ∧ ∀ i, 1 ≤ i → i < j → pos rows x (i * rows.length) ≠ x)
      (fun σ H' => match H' D with | some (.lst l) => (n.toNat + 1) * rows.length - l.length | _ => 0) ⟨0, none, none, by rw [Nat.zero_mul]; rfl, s1, by rw [Nat.zero_mul]; exact upd_same, fun i _ hi => absurd hi (Nat.not_lt_zero _)⟩ ?_ ?_
    · rintro σ H1 ⟨j, y4, y5, rfl, sm, eD, hno⟩
      have hj : j ≤ n.toNat := passes_le M.good h0 h1 hno
      -- one pass through the rows
      have pass : (∀ i, 1 ≤ i → i < j + 1 → pos rows x (i * rows.length) ≠ x) → ∀ (D0 : Ends), (∀ σ' H', (∃ (j : Nat) (y4 y5 : Option V), σ' = [some (.ref p), some (.int x), some (.ref D), some (.int (pos rows x (j * rows.length))), y4, y5] ∧ Same H H' ∧ H' D = some (.lst (spotsV rows x (j * rows.length))) ∧ ∀ i, 1 ≤ i → i < j → pos rows x (i * rows.length) ≠ x) ∧
            (match H' D with | some (.lst l) => (n.toNat + 1) * rows.length - l.length | _ => 0) < (match H1 D with | some (.lst l) => (n.toNat + 1) * rows.length - l.length | _ => 0) → D0.nx σ' H') →
          tFor (iTup K (tFld K (tVar 0) "rows")) (gTup K 2 (gCons (gName 4) (gCons (gName 5) gNil))) (tSeq (tDrop (tBM K "list" rAppend (tVar 2) (tCons (tVar 3) tNil))) (tAsg (tOp (rIxT K) (tVar 5) (tVar 3)) (gName 3))) D0 [some (.ref p), some (.int x), some (.ref D), some (.int (pos rows x (j * rows.length))), y4, y5] H1 := by
        intro hno' D0 hD
        have hle : (j + 1) * rows.length ≤ (n.toNat + 1) * rows.length := Nat.mul_le_mul_right _ (by omega)
        have hjl : j * rows.length ≤ 60 * 60 := Nat.mul_le_mul (by have := M.ln; omega) M.lr
        have hl60 := M.lr
        have es : (j + 1) * rows.length = j * rows.length + rows.length := Nat.succ_mul _ _
        refine ⟨_, rfl, p, C, dx, _, _, rfl, sm _ _ hp, C0.cl, C0.nR, rf_rows _ _, R, rfl, ⟨ts, sameT sm hR.sq⟩, for_tup (K := K) (a := R) (xs := ts) (fun i σ' H' => ∃ z4 z5, σ' = [some (.ref p), some (.int x), some (.ref D), some (.int (pos rows x (j * rows.length + i))), z4, z5] ∧ Same H H' ∧ H' D = some (.lst (spotsV rows x (j * rows.length + i))))
          ⟨y4, y5, rfl, sm, eD⟩ (fun i σ' H' _ ⟨_, _, _, s, _⟩ => sameT s hR.sq) ?_ ?_⟩
        · rintro i t σ' H' hi ⟨z4, z5, rfl, s, e⟩
          have hi2 : i < rows.length := by
            rw [← hR.len]
            exact (List.getElem?_eq_some_iff.mp hi).1
          obtain ⟨a, u, m, rfl, ht, hu, hm⟩ := (hR.row i t _ hi (List.getElem?_eq_getElem hi2)).same s
          have hin := pos_in M.good h0 h1 (j * rows.length + i)
          have hg : GoodRow n rows[i] := M.good.row _ (List.getElem_mem hi2)
          refine ⟨a, _, rfl, ht, rfl, _, _, rfl, _, _, rfl, rfl, ?_⟩
          refine ⟨_, rfl, .inl ⟨rfl, _, .inl (.inl e)⟩, _, rfl, D, _, _, rfl, rfl, e, ?_, ?_⟩
          · rw [spotsV_len, sizeLine_eq]
            omega
          have hm2 : SqT K (upd H' D (.lst (spotsV rows x (j * rows.length + i) ++ [V.int (pos rows x (j * rows.length + i))]))) m ((rows[i]).2.map V.int) := by
            rcases hm with (h | ⟨o, h⟩) | h
            · exact .inl (.inl (by rw [upd_ne (ne_of h e (by intro z; cases z))]; exact h))
            · exact .inl (.inr ⟨o, by rw [upd_ne (ne_of h e (by intro z; cases z))]; exact h⟩)
            · exact .inr h
          refine ⟨_, rfl, _, rfl, m, _, _, .int (pos rows x (j * rows.length + i + 1)), rfl, rfl, hm2, at_int hin.1 ?_, ?_⟩
          · rw [List.getElem?_map, hg.mv_get hin.1 hin.2]
            show some (V.int (mv rows[i] (pos rows x (j * rows.length + i)))) = some (V.int (mv (rowAt rows (j * rows.length + i)) (pos rows x (j * rows.length + i))))
            rw [rowAt_pass j hi2]
          · refine ⟨_, _, rfl, fun b o q => ?_, ?_⟩
            · rw [upd_ne (ne_of_none q nD)]
              exact s _ _ q
            · rw [upd_same]
              exact congrArg (fun l => some (HO.lst l)) (spotsV_succ rows x (j * rows.length + i)).symm
        · rintro σ' H' ⟨z4, z5, rfl, s, e⟩
          rw [hR.len, ← es] at e ⊢
          refine hD _ _ ⟨⟨j + 1, z4, z5, rfl, s, e, hno'⟩, ?_⟩
          rw [e, eD]
          show (n.toNat + 1) * rows.length - (spotsV rows x ((j + 1) * rows.length)).length < (n.toNat + 1) * rows.length - (spotsV rows x (j * rows.length)).length
          rw [spotsV_len, spotsV_len]
          omega
      by_cases hj0 : j = 0
      · refine ⟨_, rfl, false, .inl ⟨_, SqL.of eD, ?_⟩, iteT (iteT (pass ?_ _ fun σ' H' a => a))⟩
        · rw [spotsV_emp, hj0, Nat.zero_mul]
          rfl
        · intro i hi hi2
          omega
      · refine ⟨_, rfl, true, .inl ⟨_, SqL.of eD, ?_⟩, iteF ⟨_, rfl, _, rfl, rfl, _, rfl, ?_⟩⟩
        · rw [spotsV_emp, decide_eq_false]
          · rfl
          · have := Nat.mul_pos (Nat.pos_of_ne_zero hj0) hlen
            omega
        · by_cases e : pos rows x (j * rows.length) = x
          · rw [decide_eq_true (congrArg V.int e)]
            refine iteF ⟨_, rfl, ?_⟩
            exact k j D H1 ⟨by omega, e, hno⟩ (by have := M.ln; omega) sm eD
          · rw [decide_eq_false (fun z => e (V.int.inj z))]
            refine iteT (pass (fun i hi hi2 => ?_) _ fun σ' H' a => a)
            by_cases hij : i = j
            · rw [hij]
              exact e
            · exact hno i hi (by omega)
    · exact mono_or (mono_not fun σ H Q Q' hq ⟨v, e, k, t, h⟩ => ⟨v, e, k, t, hq _ _ h⟩) fun σ H Q Q' hq ⟨v, e, v2, e2, sc, k, ek, h⟩ => ⟨v, e, v2, e2, sc, k, ek, hq _ _ h⟩
end
end Tr

namespace Tr
open PySem PySem.Spec PyProof.Rows L2 TrM
section
variable {P : Program} {w : World} {K : PySem.W.Frag} {mg : Str → Option Value} {base : Heap}
/-- calls of ways: a made rota, one of its wheels -/
def spRound (K : PySem.W.Frag) (C : Addr) : Sp := fun vs H Q _ => ∃ (p : Addr) (x n : Int) (rows : List RRow), vs = [.ref p, .int x] ∧ Made K C H p n rows ∧ 0 ≤ x ∧ x < n ∧ ∀ (j : Nat) (H' : Hp), IsRound rows x j → j ≤ 60 → Same H H' → Q (.int ((j * rows.length : Nat) : Int)) H'
theorem scRound : FnScope ["rota", "wheel"] ["rota", "wheel"] (defScope sRound) := ⟨rfl, rfl, rfl, by decide +kernel, rfl, by decide +kernel, by decide +kernel⟩
theorem ok_round {f fC fS C : Addr} {fd fdC fdS : FuncData} (F : Fun K "round_days" "round_days" sRound f fd) (T : Blt mg)
    (GC : FnOk P w K mg base CX0 3 fC fdC ["rota", "wheel"] (spCheck K C)) (kC : PySem.W.keepIn K (.ref fC) = true) (bC : Binds K fdC ["rota", "wheel"] []) (gC : mg "check_wheel" = some (.ref fC))
    (GS : FnOk P w K mg base CX0 1 fS fdS ["rota", "wheel"] (spSpots K C)) (kS : PySem.W.keepIn K (.ref fS) = true) (bS : Binds K fdS ["rota", "wheel"] []) (gS : mg "round_spots" = some (.ref fS)) : FnOk P w K mg base CX0 4 f fd ["rota", "wheel"] (spRound K C) := by
  refine F.ok scRound (fun vs H Q E h => ?_) (fun cdv A outer s H vs Q E hr h => ?_)
  · obtain ⟨p, x, n, rows, rfl, _⟩ := h
    rfl
  · obtain ⟨p, x, n, rows, rfl, M, h0, h1, k⟩ := h
    refine ⟨_, pss_cons (ps_expr (pe_call GC hr (by rfl) gC kC bC .nil pass0 (pa_cons (pv 0) (pa_cons (pv 1) pa_nil))))
      (pss_one (ps_ret (pe_callB call_len_seq (by rfl) T.len PySem.boot_len (pa_cons (pe_call GS (hr.mono (by decide)) (by rfl) gS kS bS .nil pass0 (pa_cons (pv 0) (pa_cons (pv 1) pa_nil))) pa_nil)))), ?_⟩
    refine ⟨_, rfl, _, rfl, p, x, n, rows, rfl, M.at_, h0, h1, ?_⟩
    refine ⟨_, rfl, _, rfl, p, x, n, rows, rfl, M, h0, h1, fun j D H1 hj hl s1 eD => ⟨D, _, rfl, .inl (SqL.of eD), ?_⟩⟩
    rw [spotsV_len]
    exact k j H1 hj hl s1
/-! place -/
def spPlace (K : PySem.W.Frag) (C : Addr) : Sp := fun vs H Q _ => ∃ (p : Addr) (x n d : Int) (rows : List RRow), vs = [.ref p, .int x, .int d] ∧ Made K C H p n rows ∧ 0 ≤ x ∧ x < n ∧ 0 ≤ d ∧ ∀ H', Same H H' → Q (.int (pos rows x d.toNat)) H'
theorem scPlace : FnScope ["rota", "wheel", "day", "spots"] ["rota", "wheel", "day"] (defScope sPlace) := ⟨rfl, rfl, rfl, by decide +kernel, rfl, by decide +kernel, by decide +kernel⟩
theorem ok_place {f fC fS C : Addr} {fd fdC fdS : FuncData} (F : Fun K "place" "place" sPlace f fd) (T : Blt mg)
    (GC : FnOk P w K mg base CX0 3 fC fdC ["rota", "wheel"] (spCheck K C)) (kC : PySem.W.keepIn K (.ref fC) = true) (bC : Binds K fdC ["rota", "wheel"] []) (gC : mg "check_wheel" = some (.ref fC))
    (GS : FnOk P w K mg base CX0 1 fS fdS ["rota", "wheel"] (spSpots K C)) (kS : PySem.W.keepIn K (.ref fS) = true) (bS : Binds K fdS ["rota", "wheel"] []) (gS : mg "round_spots" = some (.ref fS)) : FnOk P w K mg base CX0 4 f fd ["rota", "wheel", "day"] (spPlace K C) := by
  refine F.ok scPlace (fun vs H Q E h => ?_) (fun cdv A outer s H vs Q E hr h => ?_)
  · obtain ⟨p, x, n, d, rows, rfl, _⟩ := h
    rfl
  · obtain ⟨p, x, n, d, rows, rfl, M, h0, h1, hd, k⟩ := h
    refine ⟨_, pss_cons (ps_expr (pe_call GC hr (by rfl) gC kC bC .nil pass0 (pa_cons (pv 0) (pa_cons (pv 1) pa_nil))))
      (pss_cons (ps_set (i := 3) scPlace.nd rfl (.inl rfl) (pe_call GS (hr.mono (by decide)) (by rfl) gS kS bS .nil pass0 (pa_cons (pv 0) (pa_cons (pv 1) pa_nil))))
      (pss_one (ps_ret (pe_ix ix_list (pv 3) (pe_op op_mod (pv 2) (pe_callB call_len_seq (by rfl) T.len PySem.boot_len (pa_cons (pv 3) pa_nil))) (fun _ _ => rfl))))), ?_⟩
    refine ⟨_, rfl, _, rfl, p, x, n, rows, rfl, M.at_, h0, h1, ?_⟩
    refine ⟨_, rfl, _, rfl, p, x, n, rows, rfl, M, h0, h1, fun j D H1 hj hl s1 eD => ?_⟩
    have hL : 0 < j * rows.length := Nat.mul_pos hj.one M.good.some
    have hLi : (0 : Int) < ((spotsV rows x (j * rows.length)).length : Int) := by
      rw [spotsV_len]
      omega
    have hm : 0 ≤ d % ((spotsV rows x (j * rows.length)).length : Int) := Int.emod_nonneg _ (by omega)
    refine ⟨_, rfl, _, rfl, _, rfl, D, _, rfl, .inl (SqL.of eD), _, _, rfl, rfl, hLi, D, _, _, _, rfl, rfl, SqL.of eD, at_int hm ?_, k H1 s1⟩
    have e1 : (d % ((spotsV rows x (j * rows.length)).length : Int)).toNat = d.toNat % (j * rows.length) := by
      rw [spotsV_len]
      obtain ⟨q, rfl⟩ := Int.eq_ofNat_of_zero_le hd
      rfl
    rw [e1, spotsV_get (Nat.mod_lt _ hL), ← pos_mod (Nat.mul_mod_left _ _) hj.back]
/-! wheel_on -/
def spWheelOn (K : PySem.W.Frag) (C : Addr) : Sp := fun vs H Q _ => ∃ (p : Addr) (x n d : Int) (rows : List RRow), vs = [.ref p, .int x, .int d] ∧ Made K C H p n rows ∧ 0 ≤ x ∧ x < n ∧ 0 ≤ d ∧ ∀ (v : Int) (H' : Hp), 0 ≤ v → v < n → pos rows v d.toNat = x → Same H H' → Q (.int v) H'
theorem scWheelOn : FnScope ["rota", "spot", "day", "wheel"] ["rota", "spot", "day"] (defScope sWheelOn) := ⟨rfl, rfl, rfl, by decide +kernel, rfl, by decide +kernel, by decide +kernel⟩
theorem ok_wheelon {f fC fP C : Addr} {fd fdC fdP : FuncData} (F : Fun K "wheel_on" "wheel_on" sWheelOn f fd) (T : Blt mg) (C0 : RTxt K mg C)
    (GC : FnOk P w K mg base CX0 3 fC fdC ["rota", "wheel"] (spCheck K C)) (kC : PySem.W.keepIn K (.ref fC) = true) (bC : Binds K fdC ["rota", "wheel"] []) (gC : mg "check_wheel" = some (.ref fC))
    (GP : FnOk P w K mg base CX0 4 fP fdP ["rota", "wheel", "day"] (spPlace K C)) (kP : PySem.W.keepIn K (.ref fP) = true) (bP : Binds K fdP ["rota", "wheel", "day"] []) (gP : mg "place" = some (.ref fP)) : FnOk P w K mg base CX0 5 f fd ["rota", "spot", "day"] (spWheelOn K C) := by
  refine F.ok scWheelOn (fun vs H Q E h => ?_) (fun cdv A outer s H vs Q E hr h => ?_)
  · obtain ⟨p, x, n, d, rows, rfl, _⟩ := h
    rfl
  · obtain ⟨p, x, n, d, rows, rfl, M, h0, h1, hd, k⟩ := h
    obtain ⟨dx, R, ts, hp, hR⟩ := id M.at_
    refine ⟨_, pss_cons (ps_expr (pe_call GC (hr.mono (by decide)) (by rfl) gC kC bC .nil pass0 (pa_cons (pv 0) (pa_cons (pv 1) pa_nil))))
      (pss_one (ps_ret (pe_bm PySem.F.plainAttrs_list PySem.F.slot_list_index PySem.F.type_list_index mt_index
        (pe_lc (own := [("wheel", 3)]) (g := gName 3) (tt := tYes) rfl scWheelOn.nd (pi_range1 (by rfl) T.range (pa_cons (pe_fld (pv 0) rfl) pa_nil)) (blkOk_by (N := ["rota", "spot", "day", "wheel"]) (sc := defScope sWheelOn) (by decide +kernel))
          (fun _ _ _ _ _ => pg_name (i := 3) scWheelOn.nd rfl (Or.inl rfl)) (fun _ _ _ _ _ => pts_nil) (fun _ _ _ _ _ => pe_call GP hr (by rfl) gP kP bP .nil pass0 (pa_cons (pv 0) (pa_cons (pv 3) (pa_cons (pv 2) pa_nil)))))
        (pa_cons (pv 1) pa_nil)))), ?_⟩
    refine ⟨_, rfl, _, rfl, p, x, n, rows, rfl, M.at_, h0, h1, ?_⟩
    have h60 := M.ln
    refine ⟨_, rfl, p, C, dx, _, _, rfl, hp, C0.cl, C0.nP, rf_places _ _, n, rfl, by omega, by omega, fun D nD => ?_⟩
    refine lc_range (lo := 0) (n := n.toNat) (fun i H' => Same H H' ∧ H' D = some (.lst ((List.range i).map fun (v : Nat) => V.int (pos rows (v : Int) d.toNat)))) ⟨same_new nD, upd_same⟩ (fun i H' hi ⟨sm, e⟩ => ?_) fun H' ⟨sm, e⟩ => ?_
    · refine ⟨rfl, _, rfl, _, rfl, _, rfl, p, (i : Int), n, d, rows, by rw [Int.zero_add]; rfl, M.same sm, by omega, by omega, hd, fun H2 s2 => ⟨_, s2 _ _ e, ?_, fun b o q => ?_, ?_⟩⟩
      · rw [List.length_map, List.length_range]
        exact small1000 (by omega)
      · rw [upd_ne (ne_of_none q nD)]
        exact s2 _ _ (sm _ _ q)
      · rw [upd_same, List.range_succ, List.map_append]
        rfl
    · obtain ⟨v, v0, v1, ev⟩ := pos_surj M.good d.toNat h0 h1
      refine ⟨.inl ⟨rfl, _, SqL.of e⟩, _, rfl, D, _, .int x, v.toNat, .int x, rfl, rfl, SqL.of e, rfl, ?_, ?_, ?_, fun m z' hm hz => ?_, ?_⟩
      · rw [List.all_eq_true]
        intro y hy
        obtain ⟨q, _, rfl⟩ := List.mem_map.mp hy
        rfl
      · rw [List.getElem?_map, List.getElem?_range (by omega)]
        show some (V.int (pos rows ((v.toNat : Nat) : Int) d.toNat)) = some (V.int x)
        rw [Int.toNat_of_nonneg v0, ev]
      · exact beq_self_eq_true x
      · rw [List.getElem?_map, List.getElem?_range (by omega)] at hz
        have e2 : V.int (pos rows ((m : Nat) : Int) d.toNat) = z' := Option.some.inj hz
        rw [← e2]
        refine beq_false_of_ne fun e3 => ?_
        have z := pos_inj M.good (w := (m : Int)) (v := v) (by omega) (by omega) v0 v1 d.toNat (e3.trans ev.symm)
        omega
      · have z := k v H' v0 v1 ev sm
        rw [Int.toNat_of_nonneg v0]
        exact z
end
end Tr

namespace Tr
open PySem PySem.Spec PyProof.Rows L2 TrM
theorem inV_int (x : Int) (ns : List Int) : inV (.int x) (ns.map V.int) = ns.contains x := by
  unfold inV
  rw [List.any_map]
  induction ns with
  | nil => rfl
  | cons y r ih =>
    rw [List.any_cons, ih, List.contains_cons]
    congr 1
    show (y == x) = (x == y)
    by_cases h : x = y
    · rw [h]
    · rw [beq_false_of_ne h, beq_false_of_ne (fun z => h z.symm)]
theorem flat_ints (ns : List Int) : (ns.map V.int).all flatV = true := by
  rw [List.all_eq_true]
  intro y hy
  obtain ⟨q, _, rfl⟩ := List.mem_map.mp hy
  rfl
/-- the row of a day, as the program reads it -/
theorem RowsT.at_ {K : PySem.W.Frag} {H : Hp} {R : Addr} {rows : List RRow} {ts : List V} (h : RowsT K H R rows ts) (h0 : 0 < rows.length) {d : Int} (hd : 0 ≤ d) :
    ∃ (a u m : Addr), atI ts (d % ((rows.length : Nat) : Int)) = some (.ref a) ∧ SqT K H a [.ref u, .ref m] ∧ SqT K H u ((rowAt rows d.toNat).1.map V.int) := by
  have hm : 0 ≤ d % ((rows.length : Nat) : Int) := Int.emod_nonneg _ (by omega)
  have e1 : (d % ((rows.length : Nat) : Int)).toNat = d.toNat % rows.length := by
    obtain ⟨q, rfl⟩ := Int.eq_ofNat_of_zero_le hd
    rfl
  have hlt : d.toNat % rows.length < rows.length := Nat.mod_lt _ h0
  have ht : ts[d.toNat % rows.length]? = some (ts[d.toNat % rows.length]'(by rw [h.len]; exact hlt)) := List.getElem?_eq_getElem _
  have hr : rows[d.toNat % rows.length]? = some (rowAt rows d.toNat) := by
    unfold rowAt
    rw [List.getD_eq_getElem?_getD, List.getElem?_eq_getElem hlt]
    rfl
  obtain ⟨a, u, m, e, q1, q2, q3⟩ := h.row _ _ _ ht hr
  exact ⟨a, u, m, at_int hm (by rw [e1, ht, e]), q1, q2⟩
section
variable {P : Program} {w : World} {K : PySem.W.Frag} {mg : Str → Option Value} {base : Heap}
/-! is_due -/
def spIsDue (K : PySem.W.Frag) (C : Addr) : Sp := fun vs H Q _ => ∃ (p : Addr) (x n d : Int) (rows : List RRow), vs = [.ref p, .int x, .int d] ∧ Made K C H p n rows ∧ 0 ≤ x ∧ x < n ∧ 0 ≤ d ∧ ∀ H', Same H H' → Q (.bl (due rows x d.toNat)) H'
theorem scIsDue : FnScope ["rota", "wheel", "day"] ["rota", "wheel", "day"] (defScope sIsDue) := ⟨rfl, rfl, rfl, by decide +kernel, rfl, by decide +kernel, by decide +kernel⟩
theorem ok_isdue {f fL fP C : Addr} {fd fdL fdP : FuncData} (F : Fun K "is_due" "is_due" sIsDue f fd) (T : Blt mg) (C0 : RTxt K mg C)
    (GL : FnOk P w K mg base CX0 1 fL fdL ["self"] (spLen K C)) (mL : Meth K C "__len__" fL) (bL : Binds K fdL ["self"] [])
    (GP : FnOk P w K mg base CX0 4 fP fdP ["rota", "wheel", "day"] (spPlace K C)) (kP : PySem.W.keepIn K (.ref fP) = true) (bP : Binds K fdP ["rota", "wheel", "day"] []) (gP : mg "place" = some (.ref fP)) : FnOk P w K mg base CX0 5 f fd ["rota", "wheel", "day"] (spIsDue K C) := by
  refine F.ok scIsDue (fun vs H Q E h => ?_) (fun cdv A outer s H vs Q E hr h => ?_)
  · obtain ⟨p, x, n, d, rows, rfl, _⟩ := h
    rfl
  · obtain ⟨p, x, n, d, rows, rfl, M, h0, h1, hd, k⟩ := h
    refine ⟨_, pss_one (ps_ret (pe_cmpR op_in_seq (pe_call GP hr (by rfl) gP kP bP .nil pass0 (pa_cons (pv 0) (pa_cons (pv 1) (pa_cons (pv 2) pa_nil))))
      (pe_ix ix_tup (pe_ix ix_tup (pe_fld (pv 0) rfl) (pe_op op_mod (pv 2) (pe_callB (call_lenOwn mL GL (hr.mono (by decide)) bL pass0) (by rfl) T.len PySem.boot_len (pa_cons (pv 0) pa_nil))) (fun _ _ => rfl)) pe_int (fun _ _ => rfl)) (by rfl))), ?_⟩
    refine ⟨_, rfl, _, rfl, _, rfl, p, x, n, d, rows, rfl, M, h0, h1, hd, fun H1 s1 => ?_⟩
    have M1 := M.same s1
    obtain ⟨dx, R, ts, hp, hR⟩ := id M1.at_
    obtain ⟨a, u, m, ea, q1, q2⟩ := hR.at_ M.good.some hd
    have hli : (0 : Int) < ((rows.length : Nat) : Int) := by
      have := M.good.some
      omega
    have hlr := M.lr
    refine ⟨_, rfl, p, C, dx, _, _, rfl, hp, C0.cl, C0.nR, rf_rows _ _, _, rfl, _, rfl, p, dx, _, rfl, hp, p, n, rows, rfl, M1.at_, _, rfl, ⟨by omega, by omega⟩, _, _, rfl, rfl, hli, R, ts, _, _, rfl, rfl, hR.sq, ea, a, _, 0, _, rfl, rfl, q1, atI_nat (j := 0) rfl, u, _, rfl, .inr q2, rfl, flat_ints _, ?_⟩
    rw [inV_int]
    exact k H1 s1
/-! round_dues -/
def duesV (rows : List RRow) (x : Int) (m : Nat) : List V := (dues rows x m).map fun (d : Nat) => V.int (d : Int)
def spDues (K : PySem.W.Frag) (C : Addr) : Sp := fun vs H Q _ => ∃ (p : Addr) (x n : Int) (rows : List RRow), vs = [.ref p, .int x] ∧ Made K C H p n rows ∧ 0 ≤ x ∧ x < n ∧
  ∀ (j : Nat) (D : Addr) (H' : Hp), IsRound rows x j → j ≤ 60 → Same H H' → H' D = some (.lst (duesV rows x (j * rows.length))) → Q (.ref D) H'
theorem scDues : FnScope ["rota", "wheel", "day", "spot"] ["rota", "wheel"] (defScope sDues) := ⟨rfl, rfl, rfl, by decide +kernel, rfl, by decide +kernel, by decide +kernel⟩
theorem ok_dues {f fL fS C : Addr} {fd fdL fdS : FuncData} (F : Fun K "round_dues" "round_dues" sDues f fd) (T : Blt mg) (C0 : RTxt K mg C)
    (GL : FnOk P w K mg base CX0 1 fL fdL ["self"] (spLen K C)) (mL : Meth K C "__len__" fL) (bL : Binds K fdL ["self"] [])
    (GS : FnOk P w K mg base CX0 1 fS fdS ["rota", "wheel"] (spSpots K C)) (kS : PySem.W.keepIn K (.ref fS) = true) (bS : Binds K fdS ["rota", "wheel"] []) (gS : mg "round_spots" = some (.ref fS)) : FnOk P w K mg base CX0 3 f fd ["rota", "wheel"] (spDues K C) := by
  refine F.ok scDues (fun vs H Q E h => ?_) (fun cdv A outer s H vs Q E hr h => ?_)
  · obtain ⟨p, x, n, rows, rfl, _⟩ := h
    rfl
  · obtain ⟨p, x, n, rows, rfl, M, h0, h1, k⟩ := h
    refine ⟨_, pss_one (ps_ret (pe_lc (own := [("day", 2), ("spot", 3)]) (g := gTup K 2 (gCons (gName 2) (gCons (gName 3) gNil)))
      (tt := tTest (tOp (rIn K false) (tVar 3) (tOp (rIxT K) (tOp (rIxT K) (tFld K (tVar 0) "rows") (tOp (rI (fun _ j => 0 < j) fun i j => .int (i % j)) (tVar 2) (tCB (rLenOwn C (spLen K C) E0) (tCons (tVar 0) tNil)))) (tC (.int 0)))))
      rfl scDues.nd (pi_enum (by rfl) T.enumerate (pa_cons (pe_call GS (hr.mono (by decide)) (by rfl) gS kS bS .nil pass0 (pa_cons (pv 0) (pa_cons (pv 1) pa_nil))) pa_nil)) (blkOk_by (N := ["rota", "wheel", "day", "spot"]) (sc := defScope sDues) (by decide +kernel))
      (fun _ _ _ _ _ => pg_tup (by rfl) (pgs_cons (pg_name (i := 2) scDues.nd rfl (Or.inl rfl)) (pgs_cons (pg_name (i := 3) scDues.nd rfl (Or.inl rfl)) pgs_nil)))
      (fun _ _ _ _ _ => pts_one (pt_cmpR op_in_seq (pv 3) (pe_ix ix_tup (pe_ix ix_tup (pe_fld (pv 0) rfl) (pe_op op_mod (pv 2) (pe_callB (id := "len") (call_lenOwn mL GL (hr.mono (by decide)) bL pass0) (by rfl) T.len PySem.boot_len (pa_cons (pv 0) pa_nil))) (fun _ _ => rfl)) pe_int (fun _ _ => rfl)) (by rfl)))
      (fun _ _ _ _ _ => pv 2))), ?_⟩
    refine ⟨_, rfl, _, rfl, p, x, n, rows, rfl, M, h0, h1, fun j S H1 hj hl s1 eS => ⟨S, _, rfl, SqL.of eS, fun D nD => ?_⟩⟩
    have hlr := M.lr
    have hL : j * rows.length ≤ 60 * 60 := Nat.mul_le_mul hl M.lr
    have n1 : S ≠ D := ne_of_none eS nD
    refine ⟨fun i m H' => m = j * rows.length - i ∧ i ≤ j * rows.length ∧ Same H1 H' ∧ H' D = some (.lst (duesV rows x i)), ⟨_, rfl, Nat.zero_le _, same_new nD, upd_same⟩, ?_⟩
    rintro i m H2 ⟨rfl, hi, sm, eD⟩
    have eS2 := sm _ _ eS
    by_cases hlt : i < j * rows.length
    · refine .inr ⟨⟨_, _, SqL.of eS2, spotsV_get hlt⟩, fun H' => Same H1 H' ∧ H' D = some (.lst (duesV rows x (i + 1))), fun H' ⟨a, b⟩ => ⟨_, by omega, rfl, hlt, a, b⟩, ?_⟩
      rintro v H3 ⟨t, y, rfl, nt, rfl, fy⟩
      have ey : V.int (pos rows x i) = y := Option.some.inj ((spotsV_get hlt).symm.trans (fy _ (SqL.of eS2)))
      subst ey
      have s3 : Same H2 (upd H2 t (.tup [.int (i : Nat), .int (pos rows x i)])) := same_new nt
      refine ⟨t, _, rfl, SqT.of upd_same, rfl, _, _, rfl, _, _, rfl, rfl, rfl, ?_⟩
      have M3 := (M.same s1).same (sm.trans s3)
      generalize hH4 : upd H2 t (.tup [.int (i : Nat), .int (pos rows x i)]) = H4 at s3 M3 ⊢
      obtain ⟨dx, R, ts, hp, hR⟩ := id M3.at_
      have hd : (0 : Int) ≤ (i : Int) := by omega
      obtain ⟨a, u, m, ea, q1, q2⟩ := hR.at_ M.good.some hd
      have hli : (0 : Int) < ((rows.length : Nat) : Int) := by
        have := M.good.some
        omega
      have eD4 := s3 _ _ eD
      refine ⟨_, rfl, _, rfl, p, C, dx, _, _, rfl, hp, C0.cl, C0.nR, rf_rows _ _, _, rfl, _, rfl, p, dx, _, rfl, hp, p, n, rows, rfl, M3.at_, _, rfl, ⟨by omega, by omega⟩, _, _, rfl, rfl, hli, R, ts, _, _, rfl, rfl, hR.sq, ea, a, _, 0, _, rfl, rfl, q1, atI_nat (j := 0) rfl, u, _, rfl, .inr q2, rfl, flat_ints _, _, rfl, ?_⟩
      rw [inV_int]
      show if due rows x i = true then _ else _
      have es := dues_succ (rows := rows) (w := x) i
      by_cases hdue : due rows x i = true
      · rw [if_pos hdue] at es ⊢
        refine ⟨_, rfl, _, eD4, ?_, fun b o q => ?_, ?_⟩
        · unfold duesV
          rw [List.length_map, sizeLine_eq]
          have z : (dues rows x i).length ≤ i := by
            unfold dues
            refine Nat.le_trans (List.length_filter_le _ _) ?_
            rw [List.length_range]
            exact Nat.le_refl _
          omega
        · rw [upd_ne (ne_of_none q nD)]
          exact s3 _ _ (sm _ _ q)
        · rw [upd_same]
          unfold duesV
          rw [es, List.map_append]
          rfl
      · rw [if_neg hdue] at es ⊢
        refine ⟨sm.trans s3, ?_⟩
        unfold duesV
        rw [es]
        exact eD4
    · have e : i = j * rows.length := by omega
      subst e
      exact .inl ⟨⟨_, SqL.of eS2, by rw [spotsV_len]; exact Nat.le_refl _⟩, k j D H2 hj hl (s1.trans sm) eD⟩
end
end Tr

namespace Tr
open PySem PySem.Spec PyProof.Rows L2 TrM
theorem duesV_len (rows : List RRow) (x : Int) (m : Nat) : (duesV rows x m).length = (dues rows x m).length := by
  unfold duesV
  rw [List.length_map]
theorem dues_le (rows : List RRow) (x : Int) (m : Nat) : (dues rows x m).length ≤ m := by
  unfold dues
  refine Nat.le_trans (List.length_filter_le _ _) ?_
  rw [List.length_range]
  exact Nat.le_refl _
/-- the day of a turning by its number, from the due days of a round of L days -/
def dayV (rows : List RRow) (x : Int) (L q : Nat) : V := if (dues rows x L).length = 0 then .non else .int ((q / (dues rows x L).length * L + (dues rows x L).getD (q % (dues rows x L).length) 0 : Nat) : Int)
section
variable {P : Program} {w : World} {K : PySem.W.Frag} {mg : Str → Option Value} {base : Heap}
/-! due_count -/
def spDueCount (K : PySem.W.Frag) (C : Addr) : Sp := fun vs H Q _ => ∃ (p : Addr) (x n : Int) (q : Nat) (rows : List RRow), vs = [.ref p, .int x, .int (q : Int)] ∧ Made K C H p n rows ∧ 0 ≤ x ∧ x < n ∧ q < 2 ^ 62 ∧ ∀ H', Same H H' → Q (.int (cnt rows x q : Nat)) H'
theorem scDueCount : FnScope ["rota", "wheel", "day", "rounds", "rest", "days", "due"] ["rota", "wheel", "day"] (defScope sDueCount) := ⟨rfl, rfl, rfl, by decide +kernel, rfl, by decide +kernel, by decide +kernel⟩
theorem ok_duecount {f fR fD C : Addr} {fd fdR fdD : FuncData} (F : Fun K "due_count" "due_count" sDueCount f fd) (T : Blt mg)
    (GR : FnOk P w K mg base CX0 4 fR fdR ["rota", "wheel"] (spRound K C)) (kR : PySem.W.keepIn K (.ref fR) = true) (bR : Binds K fdR ["rota", "wheel"] []) (gR : mg "round_days" = some (.ref fR))
    (GD : FnOk P w K mg base CX0 3 fD fdD ["rota", "wheel"] (spDues K C)) (kD : PySem.W.keepIn K (.ref fD) = true) (bD : Binds K fdD ["rota", "wheel"] []) (gD : mg "round_dues" = some (.ref fD)) : FnOk P w K mg base CX0 5 f fd ["rota", "wheel", "day"] (spDueCount K C) := by
  refine F.ok scDueCount (fun vs H Q E h => ?_) (fun cdv A outer s H vs Q E hr h => ?_)
  · obtain ⟨p, x, n, q, rows, rfl, _⟩ := h
    rfl
  · obtain ⟨p, x, n, q, rows, rfl, M, h0, h1, hq, k⟩ := h
    refine ⟨_, pss_cons (ps_asg (pe_callB call_divmod (by rfl) T.divmod (by decide +kernel) (pa_cons (pv 2) (pa_cons (pe_call GR hr (by rfl) gR kR bR .nil pass0 (pa_cons (pv 0) (pa_cons (pv 1) pa_nil))) pa_nil)))
        (pg_tup (by rfl) (pgs_cons (pg_name (i := 3) scDueCount.nd rfl (.inl rfl)) (pgs_cons (pg_name (i := 4) scDueCount.nd rfl (.inr rfl)) pgs_nil))))
      (pss_cons (ps_set (i := 5) scDueCount.nd rfl (.inl rfl) (pe_call GD (hr.mono (by decide)) (by rfl) gD kD bD .nil pass0 (pa_cons (pv 0) (pa_cons (pv 1) pa_nil))))
      (pss_one (ps_ret (pe_op op_add (pe_op op_mul (pv 3) (pe_callB call_len_seq (by rfl) T.len PySem.boot_len (pa_cons (pv 5) pa_nil)))
        (pe_callB call_len_seq (by rfl) T.len PySem.boot_len (pa_cons (pe_lc (own := [("due", 6)]) (g := gName 6) (tt := tTest (tOp (rI0 fun i j => .bl (decide (i < j))) (tVar 6) (tVar 4))) rfl scDueCount.nd (pi_list (pv 5)) (blkOk_by (N := ["rota", "wheel", "day", "rounds", "rest", "days", "due"]) (sc := defScope sDueCount) (by decide +kernel))
          (fun _ _ _ _ _ => pg_name (i := 6) scDueCount.nd rfl (Or.inl rfl)) (fun _ _ _ _ _ => pts_one (pt_cmpR op_lt (pv 6) (pv 4) (nomark _))) (fun _ _ _ _ _ => pv 6)) pa_nil)))))), ?_⟩
    refine ⟨_, rfl, _, rfl, _, rfl, p, x, n, rows, rfl, M, h0, h1, fun j H1 hj hl s1 => ?_⟩
    have hlen := M.good.some
    have hL0 : 0 < j * rows.length := Nat.mul_pos hj.one hlen
    have hL : j * rows.length ≤ 60 * 60 := Nat.mul_le_mul hl M.lr
    refine ⟨_, _, rfl, ⟨by omega, by omega⟩, fun t nt => ?_⟩
    have s2 : Same H1 (upd H1 t (.tup [.int ((q : Int) / ((j * rows.length : Nat) : Int)), .int ((q : Int) % ((j * rows.length : Nat) : Int))])) := same_new nt
    refine ⟨t, _, rfl, SqT.of upd_same, rfl, _, _, rfl, _, _, rfl, rfl, ?_⟩
    refine ⟨_, rfl, _, rfl, p, x, n, rows, rfl, (M.same s1).same s2, h0, h1, fun j' S H3 hj' hl' s3 eS => ?_⟩
    have ej : j' = j := hj'.uniq hj
    subst ej
    have hdv : (q : Int) / ((j' * rows.length : Nat) : Int) = ((q / (j' * rows.length) : Nat) : Int) := rfl
    have hmd : (q : Int) % ((j' * rows.length : Nat) : Int) = ((q % (j' * rows.length) : Nat) : Int) := rfl
    have hqd : q / (j' * rows.length) ≤ q := Nat.div_le_self _ _
    have hdn : (0 : Int) ≤ ((q / (j' * rows.length) : Nat) : Int) := Int.natCast_nonneg _
    refine ⟨_, rfl, _, rfl, S, _, rfl, .inl (SqL.of eS), _, _, rfl, rfl, .inl ⟨by rw [hdv]; omega, by rw [hdv]; omega⟩, ?_⟩
    refine ⟨_, rfl, S, rfl, ⟨_, SqL.of eS⟩, fun D nD => ?_⟩
    have n1 : S ≠ D := ne_of_none eS nD
    have dl := dues_le rows x (j' * rows.length)
    refine lc_list (K := K) (a := S) (xs := duesV rows x (j' * rows.length)) (fun i H' => Same H3 H' ∧ H' D = some (.lst ((((dues rows x (j' * rows.length)).take i).filter fun d => decide (d < q % (j' * rows.length))).map fun (d : Nat) => V.int (d : Int))))
      ⟨same_new nD, upd_same⟩ (fun i H' _ ⟨sm, _⟩ => SqL.of (sm _ _ eS)) (fun i y H' hi ⟨sm, eD⟩ => ?_) fun H' ⟨sm, eD⟩ => ?_
    · unfold duesV at hi
      rw [List.getElem?_map] at hi
      obtain ⟨d, hd, rfl⟩ := Option.map_eq_some_iff.mp hi
      have et : (dues rows x (j' * rows.length)).take (i + 1) = (dues rows x (j' * rows.length)).take i ++ [d] := take_next hd
      refine ⟨rfl, _, rfl, _, rfl, _, _, rfl, rfl, _, rfl, ?_⟩
      rw [hmd]
      by_cases hlt : d < q % (j' * rows.length)
      · rw [decide_eq_true (show (d : Int) < ((q % (j' * rows.length) : Nat) : Int) by omega)]
        refine iteT ⟨_, rfl, _, eD, ?_, fun b o z => ?_, ?_⟩
        · rw [List.length_map, sizeLine_eq]
          have z1 := List.length_filter_le (fun d => decide (d < q % (j' * rows.length))) ((dues rows x (j' * rows.length)).take i)
          have z2 := List.length_take_le i (dues rows x (j' * rows.length))
          have z3 := List.length_take_le' i (dues rows x (j' * rows.length))
          omega
        · rw [upd_ne (ne_of_none z nD)]
          exact sm _ _ z
        · rw [upd_same, et, List.filter_append, List.filter_cons_of_pos (by rw [decide_eq_true hlt]), List.filter_nil, List.map_append]
          rfl
      · rw [decide_eq_false (show ¬ ((d : Int) < ((q % (j' * rows.length) : Nat) : Int)) by omega)]
        refine iteF ⟨sm, ?_⟩
        rw [et, List.filter_append, List.filter_cons_of_neg (by rw [decide_eq_false hlt]; exact Bool.false_ne_true), List.filter_nil, List.append_nil]
        exact eD
    · rw [duesV_len, List.take_length, dues_below (Nat.le_of_lt (Nat.mod_lt _ hL0))] at eD
      refine ⟨D, _, rfl, .inl (SqL.of eD), _, _, rfl, rfl, ?_⟩
      have e : ((q : Int) / ((j' * rows.length : Nat) : Int)) * ((duesV rows x (j' * rows.length)).length : Int) + ((((dues rows x (q % (j' * rows.length))).map fun (d : Nat) => V.int (d : Int)).length : Nat) : Int) = ((cnt rows x q : Nat) : Int) := by
        rw [hdv, duesV_len, List.length_map, cnt_div (Nat.mul_mod_left j' rows.length) hj.back q, Int.natCast_add, Int.natCast_mul]
        rfl
      have z := k H' (((s1.trans s2).trans s3).trans sm)
      rw [← e] at z
      exact z
/-! due_day -/
def spDueDay (K : PySem.W.Frag) (C : Addr) : Sp := fun vs H Q _ => ∃ (p : Addr) (x n : Int) (q : Nat) (rows : List RRow), vs = [.ref p, .int x, .int (q : Int)] ∧ Made K C H p n rows ∧ 0 ≤ x ∧ x < n ∧ q < 2 ^ 62 ∧ ∀ (j : Nat) (H' : Hp), IsRound rows x j → j ≤ 60 → Same H H' → Q (dayV rows x (j * rows.length) q) H'
theorem scDueDay : FnScope ["rota", "wheel", "at", "days", "rounds", "rest"] ["rota", "wheel", "at"] (defScope sDueDay) := ⟨rfl, rfl, rfl, by decide +kernel, rfl, by decide +kernel, by decide +kernel⟩
theorem ok_dueday {f fC fR fD C : Addr} {fd fdC fdR fdD : FuncData} (F : Fun K "due_day" "due_day" sDueDay f fd) (T : Blt mg)
    (GC : FnOk P w K mg base CX0 3 fC fdC ["rota", "wheel"] (spCheck K C)) (kC : PySem.W.keepIn K (.ref fC) = true) (bC : Binds K fdC ["rota", "wheel"] []) (gC : mg "check_wheel" = some (.ref fC))
    (GR : FnOk P w K mg base CX0 4 fR fdR ["rota", "wheel"] (spRound K C)) (kR : PySem.W.keepIn K (.ref fR) = true) (bR : Binds K fdR ["rota", "wheel"] []) (gR : mg "round_days" = some (.ref fR))
    (GD : FnOk P w K mg base CX0 3 fD fdD ["rota", "wheel"] (spDues K C)) (kD : PySem.W.keepIn K (.ref fD) = true) (bD : Binds K fdD ["rota", "wheel"] []) (gD : mg "round_dues" = some (.ref fD)) : FnOk P w K mg base CX0 5 f fd ["rota", "wheel", "at"] (spDueDay K C) := by
  refine F.ok scDueDay (fun vs H Q E h => ?_) (fun cdv A outer s H vs Q E hr h => ?_)
  · obtain ⟨p, x, n, q, rows, rfl, _⟩ := h
    rfl
  · obtain ⟨p, x, n, q, rows, rfl, M, h0, h1, hq, k⟩ := h
    refine ⟨_, pss_cons (ps_expr (pe_call GC (hr.mono (by decide)) (by rfl) gC kC bC .nil pass0 (pa_cons (pv 0) (pa_cons (pv 1) pa_nil))))
      (pss_cons (ps_set (i := 3) scDueDay.nd rfl (.inl rfl) (pe_call GD (hr.mono (by decide)) (by rfl) gD kD bD .nil pass0 (pa_cons (pv 0) (pa_cons (pv 1) pa_nil))))
      (pss_cons (ps_if (pt_not (pt_truth (pv 3) (fun _ => rfl))) (pss_one (ps_ret pe_non)) pss_nil)
      (pss_cons (ps_asg (pe_callB call_divmod (by rfl) T.divmod (by decide +kernel) (pa_cons (pv 2) (pa_cons (pe_callB call_len_seq (by rfl) T.len PySem.boot_len (pa_cons (pv 3) pa_nil)) pa_nil)))
        (pg_tup (by rfl) (pgs_cons (pg_name (i := 4) scDueDay.nd rfl (.inl rfl)) (pgs_cons (pg_name (i := 5) scDueDay.nd rfl (.inl rfl)) pgs_nil))))
      (pss_one (ps_ret (pe_op op_add (pe_op op_mul (pv 4) (pe_call GR hr (by rfl) gR kR bR .nil pass0 (pa_cons (pv 0) (pa_cons (pv 1) pa_nil)))) (pe_ix ix_list (pv 3) (pv 5) (fun _ _ => rfl)))))))), ?_⟩
    refine ⟨_, rfl, _, rfl, p, x, n, rows, rfl, M.at_, h0, h1, ?_⟩
    refine ⟨_, rfl, _, rfl, p, x, n, rows, rfl, M, h0, h1, fun j S H1 hj hl s1 eS => ?_⟩
    have hL : j * rows.length ≤ 60 * 60 := Nat.mul_le_mul hl M.lr
    have dl := dues_le rows x (j * rows.length)
    have kk := fun H' (e : Same H H') => k j H' hj hl e
    by_cases hc : (dues rows x (j * rows.length)).length = 0
    · refine ⟨_, rfl, false, .inl ⟨_, SqL.of eS, ?_⟩, iteT ?_⟩
      · have e : duesV rows x (j * rows.length) = [] := List.length_eq_zero_iff.mp (by rw [duesV_len]; exact hc)
        rw [e]
        rfl
      · have z := kk H1 s1
        unfold dayV at z
        rw [if_pos hc] at z
        exact z
    · refine ⟨_, rfl, true, .inl ⟨_, SqL.of eS, ?_⟩, iteF ?_⟩
      · cases e : duesV rows x (j * rows.length) with
        | nil => exact absurd (by rw [← duesV_len, e]; rfl) hc
        | cons a r => rfl
      · refine ⟨_, rfl, _, rfl, S, _, rfl, .inl (SqL.of eS), _, _, rfl, ⟨by rw [duesV_len]; omega, by rw [duesV_len]; omega⟩, fun t nt => ?_⟩
        rw [duesV_len]
        have hdv : (q : Int) / (((dues rows x (j * rows.length)).length : Nat) : Int) = ((q / (dues rows x (j * rows.length)).length : Nat) : Int) := rfl
        have hmd : (q : Int) % (((dues rows x (j * rows.length)).length : Nat) : Int) = ((q % (dues rows x (j * rows.length)).length : Nat) : Int) := rfl
        have hqd : q / (dues rows x (j * rows.length)).length ≤ q := Nat.div_le_self _ _
        have hdn : (0 : Int) ≤ ((q / (dues rows x (j * rows.length)).length : Nat) : Int) := Int.natCast_nonneg _
        have hlt : q % (dues rows x (j * rows.length)).length < (dues rows x (j * rows.length)).length := Nat.mod_lt _ (by omega)
        have s2 : Same H1 (upd H1 t (.tup [.int ((q : Int) / (((dues rows x (j * rows.length)).length : Nat) : Int)), .int ((q : Int) % (((dues rows x (j * rows.length)).length : Nat) : Int))])) := same_new nt
        refine ⟨t, _, rfl, SqT.of upd_same, rfl, _, _, rfl, _, _, rfl, rfl, ?_⟩
        refine ⟨_, rfl, _, rfl, _, rfl, p, x, n, rows, rfl, (M.same s1).same s2, h0, h1, fun j' H3 hj' hl' s3 => ?_⟩
        have ej : j' = j := hj'.uniq hj
        subst ej
        refine ⟨_, _, rfl, rfl, .inl ⟨by rw [hdv]; omega, by rw [hdv]; omega⟩, _, rfl, _, rfl, S, _, _, .int (((dues rows x (j' * rows.length)).getD (q % (dues rows x (j' * rows.length)).length) 0 : Nat) : Int), rfl, rfl, SqL.of (s3 _ _ (s2 _ _ eS)), ?_, _, _, rfl, rfl, ?_⟩
        · rw [hmd]
          refine atI_nat ?_
          unfold duesV
          rw [List.getElem?_map, List.getD_eq_getElem?_getD, List.getElem?_eq_getElem hlt]
          rfl
        · have z := kk H3 ((s1.trans s2).trans s3)
          unfold dayV at z
          rw [if_neg hc, Int.natCast_add, Int.natCast_mul] at z
          exact z
end
end Tr

namespace Tr
open PySem PySem.Spec PyProof.Rows L2 TrM
/-! the box of drawn numbers -/
def boxV (c s t : Int) : List V := [.int c, .int s, .int t]
structure BoxIs (c s t : Int) : Prop where
  c0 : 0 ≤ c
  s1 : 1 ≤ s
  s2 : s ≤ 2147483629
def BoxAt (H : Hp) (D : Addr) : Prop := ∃ c s t : Int, BoxIs c s t ∧ H D = some (.lst (boxV c s t))
section
variable {P : Program} {w : World} {K : PySem.W.Frag} {mg : Str → Option Value} {base : Heap}
theorem scBox : FnScope ["_law_script", "_law_k", "_law_own", "_law_cell", "_law_seed"] ["_law_script", "_law_k", "_law_own"] (defScope sBox) := ⟨rfl, rfl, rfl, by decide +kernel, rfl, by decide +kernel, by decide +kernel⟩
def spBox (K : PySem.W.Frag) : Sp := fun vs H Q _ => ∃ (a : Addr) (k o : Int) (ns : List Int), vs = [.ref a, .int k, .int o] ∧ SqL K H a (ns.map V.int) ∧ 0 ≤ k ∧ 0 ≤ o ∧ ∀ (D : Addr) (H' : Hp), H D = none → Same H H' → BoxAt H' D → Q (.ref D) H'
theorem ok_box {f : Addr} {fd : FuncData} {k : Nat} (F : Fun K "_law_box" "_law_box" sBox f fd) (T : Blt mg) : FnOk P w K mg base CX0 (k + 1) f fd ["_law_script", "_law_k", "_law_own"] (spBox K) := by
  refine F.ok scBox (fun vs H Q E h => ?_) (fun cdv A outer s H vs Q E hr h => ?_)
  · obtain ⟨a, k, o, ns, rfl, _⟩ := h
    rfl
  · obtain ⟨a, k, o, ns, rfl, hs, hk, ho, q⟩ := h
    have BI : ∀ {e : Expr} {te : TE} {p pos : Pos}, PE (cxOf CX0 P w K mg base ["_law_script", "_law_k", "_law_own", "_law_cell", "_law_seed"] "_law_box" (defScope sBox) f cdv A outer s H E).nox e te → True := fun _ => trivial
    refine ⟨_, pss_cons (ps_set (i := 3) scBox.nd rfl (.inl rfl) (pe_op op_add (pe_op op_add (pe_op op_mul pe_int (pv 1)) (pe_op op_mul pe_int (pv 2))) pe_int))
      (pss_cons (ps_if (pt_cmpR op_lt (pv 1) (pe_callB call_len_seq (by rfl) T.len PySem.boot_len (pa_cons (pv 0) pa_nil)) (nomark _))
        (pss_one (ps_set (i := 3) scBox.nd rfl (.inl rfl) (pe_callB call_abs (by rfl) T.abs (by decide +kernel) (pa_cons (pe_ix ix_list (pv 0) (pv 1) (fun _ _ => rfl)) pa_nil))))
        (pss_one (ps_if (pt_cmpR op_gt (pe_callB call_len_seq (by rfl) T.len PySem.boot_len (pa_cons (pv 0) pa_nil)) pe_int (nomark _))
          (pss_one (ps_set (i := 3) scBox.nd rfl (.inl rfl) (pe_op op_add (pv 3) (pe_op op_mul (pe_op op_mod (pe_callTy call_int1 (by rfl) T.int (by decide +kernel) (pa_cons (pe_callB call_abs (by rfl) T.abs (by decide +kernel)
            (pa_cons (pe_ix ix_list (pv 0) (pe_op op_mod (pe_callTy call_int1 (by rfl) T.int (by decide +kernel) (pa_cons (pv 1) pa_nil)) (pe_callB call_len_seq (by rfl) T.len PySem.boot_len (pa_cons (pv 0) pa_nil))) (fun _ _ => rfl)) pa_nil)) pa_nil)) pe_int) pe_int))))
          pss_nil)))
      (pss_cons (ps_set (i := 4) scBox.nd rfl (.inl rfl) (pe_op op_add (pe_op op_mod (pe_callTy call_int1 (by rfl) T.int (by decide +kernel) (pa_cons (pe_op op_add (pe_op op_mul (pe_op op_mod (pe_callTy call_int1 (by rfl) T.int (by decide +kernel) (pa_cons (pv 3) pa_nil)) pe_int) pe_int)
          (pe_op op_mul pe_int (pe_op op_add (pv 1) (pe_op op_mul pe_int (pv 2))))) pa_nil)) pe_int) pe_int))
      (pss_one (ps_ret (pe_lst (pa_cons (pe_ix ix_list (pe_lst (pa_cons pe_int (pa_cons (pv 3) pa_nil))) (pe_callTy call_int1 (by rfl) T.int (by decide +kernel) (pa_cons (pe_cmpR op_ge (pv 3) (pe_op op_pow pe_int pe_int) (nomark _)) pa_nil)) (fun _ _ => rfl)) (pa_cons (pv 4) (pa_cons pe_int pa_nil)))))))), ?_⟩
    -- the end, from any cell that is no negative number
    have fin : ∀ (c : Int), 0 ≤ c → (∀ (D : Ends), D = { nx := fun _ H' => Q .non H', rt := Q } → tSeq (tAsg (tOp (rI0 fun i j => .int (i + j)) (tOp (rI (fun _ j => 0 < j) fun i j => .int (i % j)) (tCB (fun xs H Q => (∃ i, xs = [.int i] ∧ Q (.int i) H) ∨ ∃ k, xs = [.bl k] ∧ Q (.int (if k then 1 else 0)) H) (tCons (tOp (rI0 fun i j => .int (i + j)) (tOp (rI CMul fun i j => .int (i * j)) (tOp (rI (fun _ j => 0 < j) fun i j => .int (i % j)) (tCB (fun xs H Q => (∃ i, xs = [.int i] ∧ Q (.int i) H) ∨ ∃ k, xs = [.bl k] ∧ Q (.int (if k then 1 else 0)) H) (tCons (tVar 3) tNil)) (tC (.int 2147483629))) (tC (.int 48271))) (tOp (rI CMul fun i j => .int (i * j)) (tC (.int 40692)) (tOp (rI0 fun i j => .int (i + j)) (tVar 1) (tOp (rI CMul fun i j => .int (i * j)) (tC (.int 11)) (tVar 2))))) tNil)) (tC (.int 2147483629))) (tC (.int 1))) (gName 4))
        (tRet (tLst (tCons (tOp (rIxL K) (tLst (tCons (tC (.int 0)) (tCons (tVar 3) tNil))) (tCB (fun xs H Q => (∃ i, xs = [.int i] ∧ Q (.int i) H) ∨ ∃ k, xs = [.bl k] ∧ Q (.int (if k then 1 else 0)) H) (tCons (tOp (rI0 fun i j => .bl (decide (j ≤ i))) (tVar 3) (tOp (rI CPow fun i j => .int (i ^ j.toNat)) (tC (.int 10)) (tC (.int 18)))) tNil))) (tCons (tVar 4) (tCons (tC (.int 0)) tNil))))) D [some (.ref a), some (.int k), some (.int o), some (.int c), none] H) := by
      intro c hc D hD
      subst hD
      refine ⟨_, rfl, .inl ⟨_, rfl, _, _, rfl, rfl, (by decide : (0 : Int) < 2147483629), _, _, rfl, rfl, .inr ⟨by decide, by decide⟩, _, rfl, _, rfl, _, _, rfl, rfl, .inl ⟨by decide, by decide⟩, _, _, rfl, rfl, _, _, rfl, rfl, .inl ⟨by decide, by decide⟩, _, _, rfl, rfl, .inl ⟨_, rfl, _, _, rfl, rfl, (by decide : (0 : Int) < 2147483629), _, _, rfl, rfl, ?_⟩⟩⟩
      refine ⟨_, rfl, (by show 2 ≤ sizeLine; decide), fun p np => ⟨_, rfl, _, _, rfl, rfl, ⟨by decide, by decide, by decide⟩, _, _, rfl, rfl, .inr ⟨_, rfl, p, [.int 0, .int c], (if decide ((10 : Int) ^ (18 : Int).toNat ≤ c) = true then 1 else 0), ?_⟩⟩⟩
      have sp : Same H (upd H p (.lst [.int 0, .int c])) := same_new np
      by_cases hb : ((10 : Int) ^ (18 : Int).toNat) ≤ c
      · refine ⟨.int c, rfl, rfl, SqL.of upd_same, ?_, _, rfl, (by show 3 ≤ sizeLine; decide), fun D nD => ?_⟩
        · rw [decide_eq_true hb]
          rfl
        · refine q D _ (sp.free nD) (sp.trans (same_new nD)) ⟨c, _, 0, ⟨hc, ?_, ?_⟩, upd_same⟩
          · have := Int.emod_nonneg (c % 2147483629 * 48271 + 40692 * (k + 11 * o)) (by decide : (2147483629 : Int) ≠ 0)
            omega
          · have := Int.emod_lt_of_pos (c % 2147483629 * 48271 + 40692 * (k + 11 * o)) (by decide : (0 : Int) < 2147483629)
            omega
      · refine ⟨.int 0, rfl, rfl, SqL.of upd_same, ?_, _, rfl, (by show 3 ≤ sizeLine; decide), fun D nD => ?_⟩
        · rw [decide_eq_false hb]
          rfl
        · refine q D _ (sp.free nD) (sp.trans (same_new nD)) ⟨0, _, 0, ⟨Int.le_refl _, ?_, ?_⟩, upd_same⟩
          · have := Int.emod_nonneg (c % 2147483629 * 48271 + 40692 * (k + 11 * o)) (by decide : (2147483629 : Int) ≠ 0)
            omega
          · have := Int.emod_lt_of_pos (c % 2147483629 * 48271 + 40692 * (k + 11 * o)) (by decide : (0 : Int) < 2147483629)
            omega
    refine ⟨_, rfl, _, _, rfl, rfl, .inl ⟨by decide, by decide⟩, _, rfl, _, _, rfl, rfl, .inl ⟨by decide, by decide⟩, _, _, rfl, rfl, _, _, rfl, rfl, ?_⟩
    refine ⟨_, rfl, _, rfl, a, _, rfl, .inl hs, _, _, rfl, rfl, _, rfl, ?_⟩
    have habs : ∀ i : Int, 0 ≤ (if i < 0 then -i else i) := fun i => by
      split <;> omega
    rw [List.length_map]
    by_cases hlt : k < (ns.length : Int)
    · rw [decide_eq_true hlt]
      have hg : k.toNat < ns.length := by omega
      refine iteT ⟨_, rfl, _, rfl, a, _, _, .int ns[k.toNat], rfl, rfl, hs, at_int hk ?_, _, rfl, ?_⟩
      · rw [List.getElem?_map, List.getElem?_eq_getElem hg]
        rfl
      · exact fin _ (habs _) _ rfl
    · rw [decide_eq_false hlt]
      refine iteF ⟨_, rfl, a, _, rfl, .inl hs, _, _, rfl, rfl, _, rfl, ?_⟩
      rw [List.length_map]
      by_cases h0 : (0 : Int) < (ns.length : Int)
      · rw [decide_eq_true h0]
        have hm0 := Int.emod_nonneg k (show (ns.length : Int) ≠ 0 by omega)
        have hm1 := Int.emod_lt_of_pos k h0
        have hg : (k % (ns.length : Int)).toNat < ns.length := by omega
        refine iteT ⟨_, rfl, _, rfl, _, rfl, .inl ⟨_, rfl, _, rfl, a, _, rfl, .inl hs, _, _, rfl, rfl, ?_⟩⟩
        rw [List.length_map]
        refine ⟨h0, a, _, _, .int ns[(k % (ns.length : Int)).toNat], rfl, rfl, hs, at_int hm0 ?_, _, rfl, .inl ⟨_, rfl, _, _, rfl, rfl, (by decide : (0 : Int) < 2147483629), _, _, rfl, rfl, .inr ⟨by decide, by decide⟩, _, _, rfl, rfl, ?_⟩⟩
        · rw [List.getElem?_map, List.getElem?_eq_getElem hg]
          rfl
        · refine fin _ ?_ _ rfl
          have := Int.emod_nonneg (if ns[(k % (ns.length : Int)).toNat] < 0 then -ns[(k % (ns.length : Int)).toNat] else ns[(k % (ns.length : Int)).toNat]) (by decide : (2147483629 : Int) ≠ 0)
          omega
      · rw [decide_eq_false h0]
        refine iteF (fin _ ?_ _ rfl)
        omega
end
end Tr

namespace Tr
open PySem PySem.Spec PyProof.Rows L2 TrM
section
variable {P : Program} {w : World} {K : PySem.W.Frag} {mg : Str → Option Value} {base : Heap}
theorem scTake : FnScope ["_law_box_here", "_law_bound", "_law_digit", "_law_raw", "_law_wide"] ["_law_box_here", "_law_bound"] (defScope sTake) := ⟨rfl, rfl, rfl, by decide +kernel, rfl, by decide +kernel, by decide +kernel⟩
def spTake : Sp := fun vs H Q _ => ∃ (D : Addr) (b : Int), vs = [.ref D, .int b] ∧ BoxAt H D ∧ 1 ≤ b ∧ b < 2 ^ 64 ∧ ∀ (digit c s t : Int), 0 ≤ digit → digit < b → BoxIs c s t → Q (.int digit) (upd H D (.lst (boxV c s t)))
theorem ok_take {f : Addr} {fd : FuncData} {k : Nat} (F : Fun K "_law_take" "_law_take" sTake f fd) (T : Blt mg) : FnOk P w K mg base CX0 (k + 1) f fd ["_law_box_here", "_law_bound"] spTake := by
  refine F.ok scTake (fun vs H Q E h => ?_) (fun cdv A outer s H vs Q E hr h => ?_)
  · obtain ⟨D, b, rfl, _⟩ := h
    rfl
  · obtain ⟨D, b, rfl, ⟨c, s, t, hB, hD⟩, hb, hb2, q⟩ := h
    refine ⟨_, pss_cons (ps_if (pt_cmpR op_gt (pe_ix ix_list (pv 0) pe_int (fun _ _ => rfl)) pe_int (nomark _))
        (pss_cons (ps_set (i := 2) scTake.nd rfl (.inl rfl) (pe_op op_mod (pe_callTy call_int1 (by rfl) T.int (by decide +kernel) (pa_cons (pe_ix ix_list (pv 0) pe_int (fun _ _ => rfl)) pa_nil)) (pv 1)))
        (pss_cons (ps_asg (pe_op op_fdivW (pe_ix ix_list (pv 0) pe_int (fun _ _ => rfl)) (pv 1)) (pg_sub (pv 0) pe_int set_list))
        (pss_one (ps_ret (pv 2))))) pss_nil)
      (pss_cons (ps_asg (pe_op op_add (pe_ix ix_list (pv 0) pe_int (fun _ _ => rfl)) pe_int) (pg_sub (pv 0) pe_int set_list))
      (pss_cons (ps_set (i := 3) scTake.nd rfl (.inl rfl) (pe_op op_mod (pe_callTy call_int1 (by rfl) T.int (by decide +kernel) (pa_cons (pe_op op_mul (pe_op op_add (pe_ix ix_list (pv 0) pe_int (fun _ _ => rfl)) (pe_op op_mul pe_int (pe_ix ix_list (pv 0) pe_int (fun _ _ => rfl)))) pe_int) pa_nil)) pe_int))
      (pss_cons (ps_asg (pe_op op_add (pe_op op_mod (pe_callTy call_int1 (by rfl) T.int (by decide +kernel) (pa_cons (pe_op op_add (pe_op op_mul (pv 3) pe_int) pe_int) pa_nil)) pe_int) pe_int) (pg_sub (pv 0) pe_int set_list))
      (pss_cons (ps_if (pt_cmpR op_lt (pv 1) (pe_op op_pow pe_int pe_int) (nomark _))
        (pss_one (ps_ret (pe_op op_mod (pe_callTy call_int1 (by rfl) T.int (by decide +kernel) (pa_cons (pe_op op_fdiv (pe_op op_add (pe_op op_mul (pv 3) pe_int) (pe_ix ix_list (pv 0) pe_int (fun _ _ => rfl))) pe_int) pa_nil)) (pv 1)))) pss_nil)
      (pss_cons (ps_set (i := 4) scTake.nd rfl (.inl rfl) (pe_op op_mul (pe_op op_add (pe_op op_mul (pv 3) pe_int) (pe_ix ix_list (pv 0) pe_int (fun _ _ => rfl))) (pe_op op_pow pe_int pe_int)))
      (pss_one (ps_ret (pe_op op_mod (pe_callTy call_int1 (by rfl) T.int (by decide +kernel) (pa_cons (pe_op op_add (pe_op op_add (pv 4) (pe_op op_mul (pe_op op_pow (pe_ix ix_list (pv 0) pe_int (fun _ _ => rfl)) pe_int) pe_int)) (pv 3)) pa_nil)) (pv 1))))))))), ?_⟩
    have hbp : (0 : Int) < b := by omega
    refine ⟨_, rfl, D, boxV c s t, 0, .int c, rfl, rfl, SqL.of hD, rfl, _, _, rfl, rfl, _, rfl, ?_⟩
    by_cases hc : 0 < c
    · rw [decide_eq_true hc]
      refine iteT ⟨_, rfl, D, boxV c s t, 0, .int c, rfl, rfl, SqL.of hD, rfl, .inl ⟨_, rfl, _, rfl, _, _, rfl, rfl, hbp, ?_⟩⟩
      refine ⟨_, rfl, D, boxV c s t, 0, .int c, rfl, rfl, SqL.of hD, rfl, _, rfl, _, _, rfl, rfl, wide_div (b := 64) hbp (by omega) (by decide) (by decide), ?_⟩
      refine ⟨_, rfl, D, boxV c s t, 0, 0, rfl, rfl, hD, rfl, _, rfl, ?_⟩
      exact q (c % b) (c / b) s t (Int.emod_nonneg _ (by omega)) (Int.emod_lt_of_pos _ hbp) ⟨Int.ediv_nonneg hB.c0 (by omega), hB.s1, hB.s2⟩
    · rw [decide_eq_false hc]
      refine iteF ?_
      have h1 : (upd H D (.lst ((boxV c s t).set 2 (.int (t + 1))))) D = some (.lst (boxV c s (t + 1))) := upd_same
      refine ⟨_, rfl, D, boxV c s t, 2, .int t, rfl, rfl, SqL.of hD, rfl, _, _, rfl, rfl, _, rfl, D, boxV c s t, 2, 2, rfl, rfl, hD, rfl, ?_⟩
      refine ⟨_, rfl, D, boxV c s (t + 1), 1, .int s, rfl, rfl, SqL.of h1, rfl, _, rfl, D, boxV c s (t + 1), 2, .int (t + 1), rfl, rfl, SqL.of h1, rfl, _, _, rfl, rfl, .inl ⟨by decide, by decide⟩, _, _, rfl, rfl, _, _, rfl, rfl, .inr ⟨by decide, by decide⟩, .inl ⟨_, rfl, _, _, rfl, rfl, (by decide : (0 : Int) < 2147483647), ?_⟩⟩
      have r0 := Int.emod_nonneg ((s + 104729 * (t + 1)) * 69623) (by decide : (2147483647 : Int) ≠ 0)
      have r1 := Int.emod_lt_of_pos ((s + 104729 * (t + 1)) * 69623) (by decide : (0 : Int) < 2147483647)
      refine ⟨_, rfl, _, _, rfl, rfl, .inr ⟨by decide, by decide⟩, _, _, rfl, rfl, .inl ⟨_, rfl, _, _, rfl, rfl, (by decide : (0 : Int) < 2147483629), _, _, rfl, rfl, ?_⟩⟩
      have s0 := Int.emod_nonneg (((s + 104729 * (t + 1)) * 69623 % 2147483647) * 48271 + 30103) (by decide : (2147483629 : Int) ≠ 0)
      have s1 := Int.emod_lt_of_pos (((s + 104729 * (t + 1)) * 69623 % 2147483647) * 48271 + 30103) (by decide : (0 : Int) < 2147483629)
      refine ⟨_, rfl, D, boxV c s (t + 1), 1, 1, rfl, rfl, h1, rfl, ?_⟩
      rw [upd_upd]
      have h2 : (upd H D (.lst ((boxV c s (t + 1)).set 1 (.int ((((s + 104729 * (t + 1)) * 69623 % 2147483647) * 48271 + 30103) % 2147483629 + 1))))) D = some (.lst (boxV c ((((s + 104729 * (t + 1)) * 69623 % 2147483647) * 48271 + 30103) % 2147483629 + 1) (t + 1))) := upd_same
      have hN : BoxIs c ((((s + 104729 * (t + 1)) * 69623 % 2147483647) * 48271 + 30103) % 2147483629 + 1) (t + 1) := ⟨hB.c0, by omega, by omega⟩
      have n1 := hN.s1
      have n2 := hN.s2
      refine ⟨_, rfl, _, _, rfl, rfl, ⟨by decide, by decide, by decide⟩, _, _, rfl, rfl, _, rfl, ?_⟩
      by_cases h40 : b < (2 : Int) ^ (40 : Int).toNat
      · rw [decide_eq_true h40]
        refine iteT ⟨_, rfl, _, _, rfl, rfl, .inr ⟨by decide, by decide⟩, _, rfl, D, boxV c ((((s + 104729 * (t + 1)) * 69623 % 2147483647) * 48271 + 30103) % 2147483629 + 1) (t + 1), 1, .int ((((s + 104729 * (t + 1)) * 69623 % 2147483647) * 48271 + 30103) % 2147483629 + 1), rfl, rfl, SqL.of h2, rfl, _, _, rfl, rfl, _, _, rfl, rfl, ⟨by decide, by decide⟩, .inl ⟨_, rfl, _, rfl, _, _, rfl, rfl, hbp, ?_⟩⟩
        exact q _ c ((((s + 104729 * (t + 1)) * 69623 % 2147483647) * 48271 + 30103) % 2147483629 + 1) (t + 1) (Int.emod_nonneg _ (by omega)) (Int.emod_lt_of_pos _ hbp) hN
      · rw [decide_eq_false h40]
        refine iteF ⟨_, rfl, _, _, rfl, rfl, .inr ⟨by decide, by decide⟩, _, rfl, D, boxV c ((((s + 104729 * (t + 1)) * 69623 % 2147483647) * 48271 + 30103) % 2147483629 + 1) (t + 1), 1, .int ((((s + 104729 * (t + 1)) * 69623 % 2147483647) * 48271 + 30103) % 2147483629 + 1), rfl, rfl, SqL.of h2, rfl, _, _, rfl, rfl, _, _, rfl, rfl, ⟨by decide, by decide, by decide⟩, _, _, rfl, rfl, .inl ⟨by omega, by omega⟩, ?_⟩
        refine ⟨_, rfl, _, rfl, D, boxV c ((((s + 104729 * (t + 1)) * 69623 % 2147483647) * 48271 + 30103) % 2147483629 + 1) (t + 1), 1, .int ((((s + 104729 * (t + 1)) * 69623 % 2147483647) * 48271 + 30103) % 2147483629 + 1), rfl, rfl, SqL.of h2, rfl, _, _, rfl, rfl, ⟨by decide, by decide, by omega⟩, _, _, rfl, rfl, .inr ⟨by decide, by decide⟩, _, _, rfl, rfl, _, rfl, _, _, rfl, rfl, .inl ⟨_, rfl, _, rfl, _, _, rfl, rfl, hbp, ?_⟩⟩
        exact q _ c ((((s + 104729 * (t + 1)) * 69623 % 2147483647) * 48271 + 30103) % 2147483629 + 1) (t + 1) (Int.emod_nonneg _ (by omega)) (Int.emod_lt_of_pos _ hbp) hN
theorem scPick : FnScope ["_law_box_here", "_law_items"] ["_law_box_here", "_law_items"] (defScope sPick) := ⟨rfl, rfl, rfl, by decide +kernel, rfl, by decide +kernel, by decide +kernel⟩
def spPick (K : PySem.W.Frag) : Sp := fun vs H Q _ => ∃ (D L : Addr) (xs : List V), vs = [.ref D, .ref L] ∧ BoxAt H D ∧ SqL K H L xs ∧ L ≠ D ∧ 0 < xs.length ∧ xs.length ≤ 1000 ∧ ∀ (v : V) (c s t : Int), v ∈ xs → BoxIs c s t → Q v (upd H D (.lst (boxV c s t)))
theorem ok_pick {f fT : Addr} {fd fdT : FuncData} (F : Fun K "_law_pick" "_law_pick" sPick f fd) (T : Blt mg)
    (GT : FnOk P w K mg base CX0 1 fT fdT ["_law_box_here", "_law_bound"] spTake) (kT : PySem.W.keepIn K (.ref fT) = true) (bT : Binds K fdT ["_law_box_here", "_law_bound"] []) (gT : mg "_law_take" = some (.ref fT)) : FnOk P w K mg base CX0 2 f fd ["_law_box_here", "_law_items"] (spPick K) := by
  refine F.ok scPick (fun vs H Q E h => ?_) (fun cdv A outer s H vs Q E hr h => ?_)
  · obtain ⟨D, L, xs, rfl, _⟩ := h
    rfl
  · obtain ⟨D, L, xs, rfl, hB, hL, hne, h0, h1, q⟩ := h
    refine ⟨_, pss_one (ps_ret (pe_ix ix_list (pv 1) (pe_call GT hr (by rfl) gT kT bT .nil pass0 (pa_cons (pv 0) (pa_cons (pe_callB call_len_seq (by rfl) T.len PySem.boot_len (pa_cons (pv 1) pa_nil)) pa_nil))) (fun _ _ => rfl))), ?_⟩
    refine ⟨_, rfl, _, rfl, _, rfl, L, xs, rfl, .inl hL, D, _, rfl, hB, by omega, by omega, fun digit c s t d0 d1 hN => ?_⟩
    have hlt : digit.toNat < xs.length := by omega
    have hL2 : SqL K (upd H D (.lst (boxV c s t))) L xs := by
      rcases hL with (h | ⟨o, h⟩) | h
      · exact .inl (.inl (by rw [upd_ne hne]; exact h))
      · exact .inl (.inr ⟨o, by rw [upd_ne hne]; exact h⟩)
      · exact .inr h
    exact ⟨L, xs, digit, xs[digit.toNat], rfl, rfl, hL2, at_int d0 (List.getElem?_eq_getElem hlt), q _ c s t (List.getElem_mem hlt) hN⟩
end
/-! what a store to the box leaves -/
theorem box_new {H : Hp} {D : Addr} {o : HO} : Same (del H D) (upd H D o) := fun b x h => by
  by_cases hb : b = D
  · unfold del at h
    rw [if_pos hb] at h
    cases h
  · rw [del_ne hb] at h
    rw [upd_ne hb]
    exact h
theorem Made.box {K : PySem.W.Frag} {C : Addr} {H H' : Hp} {D p : Addr} {n : Int} {rows : List RRow} {l : List V} (M : Made K C H p n rows) (hD : H D = some (.lst l)) (hs : Same (del H D) H') : Made K C H' p n rows := by
  obtain ⟨dx, R, ts, hp, hR⟩ := M.at_
  refine ⟨⟨dx, R, ts, hs _ _ (by rw [del_ne (ne_of hp hD (by intro z; cases z))]; exact hp), sameT hs (del_T hR.sq hD), hR.len, fun j t r e1 e2 => ?_⟩, M.good, M.ln, M.lr⟩
  obtain ⟨a, u, m, q1, q2, q3, q4⟩ := hR.row j t r e1 e2
  exact ⟨a, u, m, q1, sameT hs (del_T q2 hD), sameT hs (del_T q3 hD), sameT hs (del_T q4 hD)⟩
end Tr

namespace Tr
open PySem PySem.Spec PyProof.Rows L2 TrM
/-! written lists of ints, rows, rotas made of them -/
def tInts : List Int → TA
  | [] => tNil
  | x :: r => tCons (tC (.int x)) (tInts r)
theorem rd_ints {σ : L2.St} {H : Hp} {Q : List V → Hp → Prop} : ∀ (l : List Int), Q (l.map V.int) H → tInts l σ H Q := by
  intro l
  induction l generalizing Q with
  | nil => exact fun h => h
  | cons x r ih => exact fun h => ih (Q := fun xs H2 => Q (.int x :: xs) H2) h
def tRow (r : RRow) : TE := tTup (tCons (tLst (tInts r.1)) (tCons (tTup (tInts r.2)) tNil))
def tRowT (r : RRow) : TE := tTup (tCons (tTup (tInts r.1)) (tCons (tTup (tInts r.2)) tNil))
theorem rd_row {K : PySem.W.Frag} {σ : L2.St} {H : Hp} {Q : VK} (r : RRow) (h1 : r.1.length ≤ 1000) (h2 : r.2.length ≤ 1000) (h : ∀ (a : Addr) (H' : Hp), Same H H' → RowIn K H' (.ref a) r → Q (.ref a) H') : tRow r σ H Q := by
  refine rd_ints (Q := _) r.1 ⟨by rw [List.length_map]; exact Nat.le_of_lt (small1000 h1), fun u nu => ?_⟩
  have s1 : Same H (upd H u (.lst (r.1.map V.int))) := same_new nu
  refine rd_ints (Q := _) r.2 ⟨by rw [List.length_map]; exact Nat.le_of_lt (small1000 h2), fun m nm => ?_⟩
  have s2 : Same (upd H u (.lst (r.1.map V.int))) (upd (upd H u (.lst (r.1.map V.int))) m (.tup (r.2.map V.int))) := same_new nm
  refine ⟨(by show 2 ≤ sizeLine; decide), fun a na => ?_⟩
  have s3 : Same (upd (upd H u (.lst (r.1.map V.int))) m (.tup (r.2.map V.int))) (upd (upd (upd H u (.lst (r.1.map V.int))) m (.tup (r.2.map V.int))) a (.tup [.ref u, .ref m])) := same_new na
  exact h a _ ((s1.trans s2).trans s3) ⟨a, u, m, rfl, SqT.of upd_same, .inl (SqL.of (s3 _ _ (s2 _ _ upd_same))), .inr (SqT.of (s3 _ _ upd_same))⟩
def tRows : List RRow → TA
  | [] => tNil
  | r :: rs => tCons (tRow r) (tRows rs)
theorem rd_rows {K : PySem.W.Frag} {σ : L2.St} : ∀ (rows : List RRow) {H : Hp} {Q : List V → Hp → Prop}, (∀ r ∈ rows, r.1.length ≤ 1000 ∧ r.2.length ≤ 1000) →
    (∀ (ts : List V) (H' : Hp), Same H H' → ts.length = rows.length → (∀ (j : Nat) (t : V) (r : RRow), ts[j]? = some t → rows[j]? = some r → RowIn K H' t r) → Q ts H') → tRows rows σ H Q
  | [], H, Q, _, h => h [] H (Same.refl _) rfl fun j t r e _ => by simp at e
  | r :: rs, H, Q, hl, h => by
    show tRow r σ H (fun x H1 => tRows rs σ H1 fun xs H2 => Q (x :: xs) H2)
    refine rd_row (K := K) (Q := _) r (hl r List.mem_cons_self).1 (hl r List.mem_cons_self).2 fun a H1 s1 q => ?_
    refine rd_rows (K := K) rs (Q := _) (fun r hr => hl r (List.mem_cons_of_mem _ hr)) fun ts H2 s2 e hts => ?_
    refine h (.ref a :: ts) H2 (s1.trans s2) (by rw [List.length_cons, e]; rfl) fun j t r' e1 e2 => ?_
    cases j with
    | zero =>
      have z1 : V.ref a = t := Option.some.inj e1
      have z2 : r = r' := Option.some.inj e2
      rw [← z1, ← z2]
      exact q.same s2
    | succ j => exact hts j t r' e1 e2
theorem rd_make {K : PySem.W.Frag} {C : Addr} {n : Int} {σ : L2.St} {H : Hp} {Q : VK} (rows : List RRow) (hg : ∀ r ∈ rows, Good n r) (h0 : 0 < rows.length) (hl : rows.length ≤ 60) (h1 : 1 ≤ n) (he : rows.map srt = rows) (gr : GoodRota n rows)
    (h : ∀ (p : Addr) (H' : Hp), H p = none → Same H H' → Made K C H' p n rows → Q (.ref p) H') : tMake C (spInit K C) [] E0 (tCons (tC (.int n)) (tCons (tLst (tRows rows)) tNil)) σ H Q := by
  have h60 : n ≤ 60 := (hg _ (List.getElem_mem h0)).small
  refine rd_rows (K := K) rows (Q := _) (fun r hr => ⟨by have := (hg r hr).len1; omega, by have := (hg r hr).len2; omega⟩) fun ts H1 s1 e hts => ⟨by rw [e]; exact Nat.le_of_lt (small1000 (by omega)), fun a na => ?_⟩
  have s2 : Same H1 (upd H1 a (.lst ts)) := same_new na
  intro x dx nx ndx nex
  have s3 : Same (upd H1 a (.lst ts)) (upd (upd (upd H1 a (.lst ts)) dx (.own x)) x (.ins C dx [])) := fun b o q => by
    rw [upd_ne (ne_of_none q nx), upd_ne (ne_of_none q ndx)]
    exact q
  refine ⟨x, dx, a, n, rows, ts, rfl, upd_same, ⟨.inl (SqL.of (s3 _ _ upd_same)), e, fun j t r e1 e2 => (hts j t r e1 e2).same (s2.trans s3)⟩, hg, h0, hl, h1, fun R us H' hx hR keep => ⟨rfl, ?_⟩⟩
  have s4 : Same (upd H1 a (.lst ts)) H' := fun b o q => keep b o (s3 _ _ q) (ne_of_none q nx)
  rw [he] at hR
  exact h x H' ((s1.trans s2).free nx) ((s1.trans s2).trans s4) ⟨⟨dx, R, us, hx, hR⟩, gr, h60, hl⟩
/-! a comprehension over range(n) -/
theorem map_range {n : Nat} {ys : List V} {vs : List Nat} {σ : L2.St} {H : Hp} {g : TG} {te : TE} {Q : VK} (hlen : ys.length = n) (hz : n ≤ 1000)
    (hs : ∀ (j : Nat) (y : V) (H' : Hp) (R : V → Hp → Prop), ys[j]? = some y → Same H H' → (∀ H4, Same H' H4 → R y H4) → g (.int (0 + (j : Int))) (wipe σ vs) H' fun σ2 H2 => wipe σ2 vs = wipe σ vs ∧ te σ2 H2 R)
    (hd : ∀ (D : Addr) (H' : Hp), H D = none → Same H H' → H' D = some (.lst ys) → Q (.ref D) H') (D : Addr) (nD : H D = none) : ∃ W : Nat → Nat → Hp → Prop, (∃ m, W 0 m (upd H D (.lst []))) ∧ ∀ i m H, W i m H →
      ((Itr 0 n).stop i H ∧ Q (.ref D) H) ∨ ((Itr 0 n).go i H ∧ ∃ Nx : Hp → Prop, (∀ H', Nx H' → ∃ m', m' < m ∧ W (i + 1) m' H') ∧ ∀ x H', (Itr 0 n).yld i H x H' → g x (wipe σ vs) H' fun σ2 H2 => wipe σ2 vs = wipe σ vs ∧ tYes σ2 H2 fun b H3 =>
        if b = true then te σ2 H3 fun y H4 => ∃ acc, H4 D = some (.lst acc) ∧ acc.length < sizeLine ∧ Nx (upd H4 D (.lst (acc ++ [y]))) else Nx H3) := by
  refine lc_range (lo := 0) (n := n) (tt := tYes) (fun i H' => Same H H' ∧ H' D = some (.lst (ys.take i))) ⟨same_new nD, upd_same⟩ (fun i H' hi ⟨sm, e⟩ => ?_) fun H' ⟨sm, e⟩ => hd D H' nD sm (by rw [e, ← hlen, List.take_length])
  have hy : ys[i]? = some (ys[i]'(by omega)) := List.getElem?_eq_getElem _
  exact hs i _ H' (fun y H4 => ∃ acc, H4 D = some (.lst acc) ∧ acc.length < sizeLine ∧ Same H (upd H4 D (.lst (acc ++ [y]))) ∧ (upd H4 D (.lst (acc ++ [y]))) D = some (.lst (ys.take (i + 1)))) hy sm fun H4 s4 => by
    refine ⟨ys.take i, s4 _ _ e, ?_, fun b o q => ?_, ?_⟩
    · rw [List.length_take]
      exact small1000 (by omega)
    · rw [upd_ne (ne_of_none q nD)]
      exact s4 _ _ (sm _ _ q)
    · rw [upd_same, take_next hy]
/-! two lists that are found equal -/
theorem ne_lists {K : PySem.W.Frag} {H : Hp} {Q : VK} {a b : Addr} {xs ys : List V} {ds es : List PyData} (ha : SqL K H a xs) (hb : SqL K H b ys) (hd : DpAll K H xs ds) (he : DpAll K H ys es) (s1 : SeqAt.shaped (.list ds) = true) (s2 : SeqAt.shaped (.list es) = true)
    (hv : PyData.eqv (.list ds) (.list es) = true) (q : Q (.bl false) H) : rNeD K (.ref a) (.ref b) H Q := by
  refine ⟨_, _, .lst ha hd, .lst hb he, s1, s2, ?_⟩
  rw [hv]
  exact q
def dsOf : List V → List PyData
  | [] => []
  | .int i :: r => .int i :: dsOf r
  | .bl b :: r => .bool b :: dsOf r
  | .str z :: r => .str z :: dsOf r
  | _ :: r => .none :: dsOf r
theorem dp_of {K : PySem.W.Frag} {H : Hp} : ∀ (xs : List V), (∀ x ∈ xs, flatV x = true) → DpAll K H xs (dsOf xs)
  | [], _ => .nil
  | .int i :: r, h => .cons (.int i) (dp_of r fun x hx => h x (List.mem_cons_of_mem _ hx))
  | .bl b :: r, h => .cons (.bl b) (dp_of r fun x hx => h x (List.mem_cons_of_mem _ hx))
  | .str z :: r, h => .cons (.str z) (dp_of r fun x hx => h x (List.mem_cons_of_mem _ hx))
  | .non :: r, h => .cons .non (dp_of r fun x hx => h x (List.mem_cons_of_mem _ hx))
  | .byt _ :: r, h => by cases h _ List.mem_cons_self
  | .flt _ :: r, h => by cases h _ List.mem_cons_self
  | .ref _ :: r, h => by cases h _ List.mem_cons_self
  | .ty _ :: r, h => by cases h _ List.mem_cons_self
/-- the same flat things in both: not unequal -/
theorem ne_flat {K : PySem.W.Frag} {H : Hp} {Q : VK} {a b : Addr} {xs : List V} (ha : SqL K H a xs) (hb : SqL K H b xs) (hf : ∀ x ∈ xs, flatV x = true) (s1 : SeqAt.shaped (.list (dsOf xs)) = true) (hv : PyData.eqv (.list (dsOf xs)) (.list (dsOf xs)) = true) (q : Q (.bl false) H) : rNeD K (.ref a) (.ref b) H Q :=
  ne_lists ha hb (dp_of xs hf) (dp_of xs hf) s1 s1 hv q
end Tr

namespace Tr
open PySem PySem.Spec PyProof.Rows L2 TrM
/-! the rotas of the law, and what is reckoned of them -/
def two : List RRow := [([0], [1, 0]), ([0, 1], [0, 1])]
def three : List RRow := [([0], [1, 2, 0])]
def still : List RRow := [([], [0, 2, 1]), ([2], [0, 1, 2])]
theorem good_two : ∀ r ∈ two, Good 2 r := by
  intro r hr
  rcases List.mem_cons.mp hr with rfl | hr
  · exact ⟨by decide, by decide, by decide, by decide, by decide, by decide⟩
  rcases List.mem_cons.mp hr with rfl | hr
  · exact ⟨by decide, by decide, by decide, by decide, by decide, by decide⟩
  · cases hr
theorem good_three : ∀ r ∈ three, Good 3 r := by
  intro r hr
  rcases List.mem_cons.mp hr with rfl | hr
  · exact ⟨by decide, by decide, by decide, by decide, by decide, by decide⟩
  · cases hr
theorem good_still : ∀ r ∈ still, Good 3 r := by
  intro r hr
  rcases List.mem_cons.mp hr with rfl | hr
  · exact ⟨by decide, by decide, by decide, by decide, by decide, by decide⟩
  rcases List.mem_cons.mp hr with rfl | hr
  · exact ⟨by decide, by decide, by decide, by decide, by decide, by decide⟩
  · cases hr
theorem Good.gr {n : Int} {r : RRow} (g : Good n r) : GoodRow n r := ⟨g.nd1, g.nd2, g.in1, g.in2, g.len2⟩
theorem gr_two : GoodRota 2 two := ⟨fun r h => (good_two r h).gr, by decide⟩
theorem gr_three : GoodRota 3 three := ⟨fun r h => (good_three r h).gr, by decide⟩
theorem gr_still : GoodRota 3 still := ⟨fun r h => (good_still r h).gr, by decide⟩
theorem r20 : IsRound two 0 2 := ⟨by decide, by decide, fun i h1 h2 => by
  obtain rfl : i = 1 := by omega
  decide⟩
theorem r30 : IsRound three 0 3 := ⟨by decide, by decide, fun i h1 h2 => by
  rcases (show i = 1 ∨ i = 2 by omega) with rfl | rfl <;> decide⟩
theorem r31 : IsRound three 1 3 := ⟨by decide, by decide, fun i h1 h2 => by
  rcases (show i = 1 ∨ i = 2 by omega) with rfl | rfl <;> decide⟩
theorem r32 : IsRound three 2 3 := ⟨by decide, by decide, fun i h1 h2 => by
  rcases (show i = 1 ∨ i = 2 by omega) with rfl | rfl <;> decide⟩
theorem s0 : IsRound still 0 1 := ⟨by decide, by decide, fun i h1 h2 => by omega⟩
theorem s1 : IsRound still 1 2 := ⟨by decide, by decide, fun i h1 h2 => by
  obtain rfl : i = 1 := by omega
  decide⟩
theorem s2 : IsRound still 2 2 := ⟨by decide, by decide, fun i h1 h2 => by
  obtain rfl : i = 1 := by omega
  decide⟩
theorem two_far (x : Int) (hx : pos two x 4 = x) (m d : Nat) : pos two x (4 * m + d) = pos two x d := pos_mul (L := 4) (by decide) hx d m
theorem two_due (x : Int) (hx : pos two x 4 = x) (m d : Nat) : due two x (4 * m + d) = due two x d := by
  unfold due
  rw [two_far x hx m d]
  have e : rowAt two (4 * m + d) = rowAt two d := by
    unfold rowAt
    show two.getD ((4 * m + d) % 2) ([], []) = two.getD (d % 2) ([], [])
    congr 1
    omega
  rw [e]
theorem three_far (x : Int) (hx : pos three x 3 = x) (m d : Nat) : pos three x (3 * m + d) = pos three x d := pos_mul (L := 3) (by decide) hx d m
theorem cnt_still : cnt still 0 (10 ^ 18) = 0 := by
  rw [cnt_div (L := 2) (by decide) (by decide)]
  decide +kernel
theorem cnt_three : cnt three 2 (10 ^ 18) = 333333333333333333 := by
  rw [cnt_div (L := 3) (by decide) (by decide)]
  decide +kernel
section
variable {P : Program} {w : World} {K : PySem.W.Frag} {mg : Str → Option Value} {base : Heap}
abbrev NL : List Str := ["_law_script", "_law_box_here", "_law_two", "_law_three", "_law_still", "_law_far", "_law_round_of_three", "_law_day", "_law_wheel"]
theorem scLaw : FnScope NL ["_law_script"] (defScope sLaw) := ⟨rfl, rfl, rfl, by decide +kernel, rfl, by decide +kernel, by decide +kernel⟩
def spLaw (K : PySem.W.Frag) : Sp := fun vs H Q _ => ∃ (a : Addr) (ns : List Int), vs = [.ref a] ∧ SqL K H a (ns.map V.int) ∧ ns.length ≤ 63 ∧ ∀ H', Q (.bl true) H'
/-! what the law's statements ask -/
def rAddI : R2 := rI0 fun i j => .int (i + j)
def rMulI : R2 := rI CMul fun i j => .int (i * j)
def rPowI : R2 := rI CPow fun i j => .int (i ^ j.toNat)
def tBools : List Bool → TA
  | [] => tNil
  | x :: r => tCons (tC (.bl x)) (tBools r)
def qNe (c : TT) : TS := tIfS c (tRet (tC (.bl false))) tNext
def lcR (n : Int) (i : Nat) (te : TE) : TE := tLc (iRng1 (tCons (tC (.int n)) tNil)) (gName i) tYes te [i]
def q1 (K : PySem.W.Frag) : TS := tAsg (tCall (spBox K) [] E0 (tCons (tVar 0) (tCons (tC (.int 0)) (tCons (tC (.int 11)) tNil)))) (gName 1)
def qMake (K : PySem.W.Frag) (C : Addr) (n : Int) (rows : List RRow) (i : Nat) : TS := tAsg (tMake C (spInit K C) [] E0 (tCons (tC (.int n)) (tCons (tLst (tRows rows)) tNil))) (gName i)
def q5 (K : PySem.W.Frag) : TS := tAsg (tCall (spPick K) [] E0 (tCons (tVar 1) (tCons (tLst (tCons (tC (.int 0)) (tCons (tC (.int 4)) (tCons (tC (.int 4000)) (tCons (tOp rMulI (tC (.int 4)) (tOp rPowI (tC (.int 10)) (tC (.int 17)))) tNil))))) tNil))) (gName 5)
def q6 (K : PySem.W.Frag) (C : Addr) : TS := qNe (tTest (tOp (rNeD K) (lcR 6 7 (tCall (spPlace K C) [] E0 (tCons (tVar 2) (tCons (tC (.int 0)) (tCons (tOp rAddI (tVar 5) (tVar 7)) tNil))))) (tLst (tInts [0, 1, 1, 0, 0, 1]))))
def q7 (K : PySem.W.Frag) (C : Addr) : TS := qNe (tTest (tOp (rNeD K) (lcR 5 7 (tCall (spIsDue K C) [] E0 (tCons (tVar 2) (tCons (tC (.int 1)) (tCons (tOp rAddI (tVar 5) (tVar 7)) tNil))))) (tLst (tBools [false, true, true, true, false]))))
def tR (K : PySem.W.Frag) (C : Addr) (i : Nat) (x : Int) : TE := tCall (spRound K C) [] E0 (tCons (tVar i) (tCons (tC (.int x)) tNil))
def q8 (K : PySem.W.Frag) (C : Addr) : TS := qNe (tTest (tOp (rNeD K) (tLst (tCons (tR K C 2 0) (tCons (tR K C 3 2) (tCons (tR K C 4 0) (tCons (tR K C 4 1) tNil))))) (tLst (tInts [4, 3, 2, 4]))))
def q9 (K : PySem.W.Frag) : TS := tAsg (tCall (spPick K) [] E0 (tCons (tVar 1) (tCons (tLst (tCons (tC (.int 0)) (tCons (tC (.int 3)) (tCons (tOp rMulI (tC (.int 3)) (tOp rPowI (tC (.int 10)) (tC (.int 17)))) tNil)))) tNil))) (gName 6)
def q10 (K : PySem.W.Frag) (C : Addr) : TS := qNe (tTest (tOp (rNeD K) (lcR 4 7 (tCall (spWheelOn K C) [] E0 (tCons (tVar 3) (tCons (tC (.int 0)) (tCons (tOp rAddI (tVar 6) (tVar 7)) tNil))))) (tLst (tInts [0, 2, 1, 0]))))
def q11 (K : PySem.W.Frag) (C : Addr) : TS := qNe (tOr (tTest (tOp (rNeD K) (lcR 3 8 (tCall (spDueDay K C) [] E0 (tCons (tVar 3) (tCons (tVar 8) (tCons (tC (.int 0)) tNil))))) (tLst (tInts [0, 2, 1])))) (tTest (tOp rNe (tCall (spDueDay K C) [] E0 (tCons (tVar 3) (tCons (tC (.int 1)) (tCons (tC (.int 10)) tNil)))) (tC (.int 32)))))
def q12 (K : PySem.W.Frag) (C : Addr) : TS := qNe (tOr (tTest (tOp (rNeD K) (lcR 3 8 (tCall (spDueDay K C) [] E0 (tCons (tVar 4) (tCons (tVar 8) (tCons (tC (.int 1)) tNil))))) (tLst (tCons (tC .non) (tCons (tC (.int 5)) (tCons (tC (.int 7)) tNil)))))) (tTest (tOp rNe (tCall (spDueCount K C) [] E0 (tCons (tVar 4) (tCons (tC (.int 0)) (tCons (tOp rPowI (tC (.int 10)) (tC (.int 18))) tNil)))) (tC (.int 0)))))
def q13 (K : PySem.W.Frag) (C : Addr) : TS := qNe (tTest (tOp (rNeD K) (lcR 6 7 (tCall (spDueCount K C) [] E0 (tCons (tVar 2) (tCons (tC (.int 0)) (tCons (tVar 7) tNil))))) (tLst (tInts [0, 1, 2, 2, 3, 4]))))
def q14 (K : PySem.W.Frag) (C : Addr) : TS := tRet (tOp rEq (tCall (spDueCount K C) [] E0 (tCons (tVar 3) (tCons (tC (.int 2)) (tCons (tOp rPowI (tC (.int 10)) (tC (.int 18))) tNil)))) (tC (.int 333333333333333333)))
def qLaw (K : PySem.W.Frag) (C : Addr) : TS := tSeq (q1 K) (tSeq (qMake K C 2 two 2) (tSeq (qMake K C 3 three 3) (tSeq (qMake K C 3 still 4) (tSeq (q5 K) (tSeq (q6 K C) (tSeq (q7 K C) (tSeq (q8 K C) (tSeq (q9 K) (tSeq (q10 K C) (tSeq (q11 K C) (tSeq (q12 K C) (tSeq (q13 K C) (q14 K C)))))))))))))
end
end Tr

namespace Tr
open PySem PySem.Spec PyProof.Rows L2 TrM
section
variable {P : Program} {w : World} {K : PySem.W.Frag} {mg : Str → Option Value} {base : Heap}
theorem tm_law {f fX fK fI fP fW fR fU fN fD C : Addr} {fd fdX fdK fdI fdP fdW fdR fdU fdN fdD : FuncData} (T : Blt mg) (C0 : RTxt K mg C)
    (GX : FnOk P w K mg base CX0 1 fX fdX ["_law_script", "_law_k", "_law_own"] (spBox K)) (kX : PySem.W.keepIn K (.ref fX) = true) (bX : Binds K fdX ["_law_script", "_law_k", "_law_own"] []) (gX : mg "_law_box" = some (.ref fX))
    (GK : FnOk P w K mg base CX0 2 fK fdK ["_law_box_here", "_law_items"] (spPick K)) (kK : PySem.W.keepIn K (.ref fK) = true) (bK : Binds K fdK ["_law_box_here", "_law_items"] []) (gK : mg "_law_pick" = some (.ref fK))
    (MI : Mk K C fI) (GI : FnOk P w K mg base CX0 6 fI fdI ["self", "places", "rows"] (spInit K C)) (bI : Binds K fdI ["self", "places", "rows"] [])
    (GP : FnOk P w K mg base CX0 4 fP fdP ["rota", "wheel", "day"] (spPlace K C)) (kP : PySem.W.keepIn K (.ref fP) = true) (bP : Binds K fdP ["rota", "wheel", "day"] []) (gP : mg "place" = some (.ref fP))
    (GW : FnOk P w K mg base CX0 5 fW fdW ["rota", "spot", "day"] (spWheelOn K C)) (kW : PySem.W.keepIn K (.ref fW) = true) (bW : Binds K fdW ["rota", "spot", "day"] []) (gW : mg "wheel_on" = some (.ref fW))
    (GR : FnOk P w K mg base CX0 4 fR fdR ["rota", "wheel"] (spRound K C)) (kR : PySem.W.keepIn K (.ref fR) = true) (bR : Binds K fdR ["rota", "wheel"] []) (gR : mg "round_days" = some (.ref fR))
    (GU : FnOk P w K mg base CX0 5 fU fdU ["rota", "wheel", "day"] (spIsDue K C)) (kU : PySem.W.keepIn K (.ref fU) = true) (bU : Binds K fdU ["rota", "wheel", "day"] []) (gU : mg "is_due" = some (.ref fU))
    (GN : FnOk P w K mg base CX0 5 fN fdN ["rota", "wheel", "day"] (spDueCount K C)) (kN : PySem.W.keepIn K (.ref fN) = true) (bN : Binds K fdN ["rota", "wheel", "day"] []) (gN : mg "due_count" = some (.ref fN))
    (GD : FnOk P w K mg base CX0 5 fD fdD ["rota", "wheel", "at"] (spDueDay K C)) (kD : PySem.W.keepIn K (.ref fD) = true) (bD : Binds K fdD ["rota", "wheel", "at"] []) (gD : mg "due_day" = some (.ref fD)) {cdv : Value} {A : Around} {outer : List Env} {s : Shared} {H : Hp} {E : XK} (hr : Room 7 (A.deeper (envOfC "law" (defScope sLaw) s.heap.objs.size f cdv))) (hu : (A.deeper (envOfC "law" (defScope sLaw) s.heap.objs.size f cdv)).units + 64 < cLine) :
    PSs (cxOf CX0 P w K mg base NL "law" (defScope sLaw) f cdv A outer s H E).nox (defBody sLaw) (qLaw K C) :=
  pss_cons (ps_set (i := 1) scLaw.nd rfl (.inl rfl) (pe_call GX (hr.mono (by decide)) (by rfl) gX kX bX .nil pass0 (pa_cons (pv 0) (pa_cons pe_int (pa_cons pe_int pa_nil)))))
      (pss_cons (ps_set (i := 2) scLaw.nd rfl (.inr rfl) (pe_make MI GI hr (by rfl) C0.mgC bI .nil pass0 (pa_cons pe_int (pa_cons (pe_lst (pa_cons (pe_tup (pa_cons (pe_lst (pa_cons pe_int pa_nil)) (pa_cons (pe_tup (pa_cons pe_int (pa_cons pe_int pa_nil))) pa_nil)))
        (pa_cons (pe_tup (pa_cons (pe_lst (pa_cons pe_int (pa_cons pe_int pa_nil))) (pa_cons (pe_tup (pa_cons pe_int (pa_cons pe_int pa_nil))) pa_nil))) pa_nil))) pa_nil))))
      (pss_cons (ps_set (i := 3) scLaw.nd rfl (.inr rfl) (pe_make MI GI hr (by rfl) C0.mgC bI .nil pass0 (pa_cons pe_int (pa_cons (pe_lst (pa_cons (pe_tup (pa_cons (pe_lst (pa_cons pe_int pa_nil)) (pa_cons (pe_tup (pa_cons pe_int (pa_cons pe_int (pa_cons pe_int pa_nil)))) pa_nil))) pa_nil)) pa_nil))))
      (pss_cons (ps_set (i := 4) scLaw.nd rfl (.inr rfl) (pe_make MI GI hr (by rfl) C0.mgC bI .nil pass0 (pa_cons pe_int (pa_cons (pe_lst (pa_cons (pe_tup (pa_cons (pe_lst pa_nil) (pa_cons (pe_tup (pa_cons pe_int (pa_cons pe_int (pa_cons pe_int pa_nil)))) pa_nil)))
        (pa_cons (pe_tup (pa_cons (pe_lst (pa_cons pe_int pa_nil)) (pa_cons (pe_tup (pa_cons pe_int (pa_cons pe_int (pa_cons pe_int pa_nil)))) pa_nil))) pa_nil))) pa_nil))))
      (pss_cons (ps_set (i := 5) scLaw.nd rfl (.inr rfl) (pe_call GK (hr.mono (by decide)) (by rfl) gK kK bK .nil pass0 (pa_cons (pv 1) (pa_cons (pe_lst (pa_cons pe_int (pa_cons pe_int (pa_cons pe_int (pa_cons (pe_op op_mul pe_int (pe_op op_pow pe_int pe_int)) pa_nil))))) pa_nil))))
      (pss_cons (ps_if (pt_cmpR (op_neD hu) (pe_lc (own := [("_law_day", 7)]) (g := gName 7) (tt := tYes) rfl scLaw.nd (pi_range1 (by rfl) T.range (pa_cons pe_int pa_nil)) (blkOk_by (N := NL) (sc := defScope sLaw) (by decide +kernel)) (fun _ _ _ _ _ => pg_name (i := 7) scLaw.nd rfl (Or.inl rfl)) (fun _ _ _ _ _ => pts_nil)
          (fun _ _ _ _ _ => pe_call GP (hr.mono (by decide)) (by rfl) gP kP bP .nil pass0 (pa_cons (pv 2) (pa_cons pe_int (pa_cons (pe_op op_add (pv 5) (pv 7)) pa_nil)))))
          (pe_lst (pa_cons pe_int (pa_cons pe_int (pa_cons pe_int (pa_cons pe_int (pa_cons pe_int (pa_cons pe_int pa_nil))))))) (nomark _)) (pss_one (ps_ret pe_bl)) pss_nil)
      (pss_cons (ps_if (pt_cmpR (op_neD hu) (pe_lc (own := [("_law_day", 7)]) (g := gName 7) (tt := tYes) rfl scLaw.nd (pi_range1 (by rfl) T.range (pa_cons pe_int pa_nil)) (blkOk_by (N := NL) (sc := defScope sLaw) (by decide +kernel)) (fun _ _ _ _ _ => pg_name (i := 7) scLaw.nd rfl (Or.inl rfl)) (fun _ _ _ _ _ => pts_nil)
          (fun _ _ _ _ _ => pe_call GU (hr.mono (by decide)) (by rfl) gU kU bU .nil pass0 (pa_cons (pv 2) (pa_cons pe_int (pa_cons (pe_op op_add (pv 5) (pv 7)) pa_nil)))))
          (pe_lst (pa_cons pe_bl (pa_cons pe_bl (pa_cons pe_bl (pa_cons pe_bl (pa_cons pe_bl pa_nil)))))) (nomark _)) (pss_one (ps_ret pe_bl)) pss_nil)
      (pss_cons (ps_if (pt_cmpR (op_neD hu) (pe_lst (pa_cons (pe_call GR (hr.mono (by decide)) (by rfl) gR kR bR .nil pass0 (pa_cons (pv 2) (pa_cons pe_int pa_nil))) (pa_cons (pe_call GR (hr.mono (by decide)) (by rfl) gR kR bR .nil pass0 (pa_cons (pv 3) (pa_cons pe_int pa_nil)))
          (pa_cons (pe_call GR (hr.mono (by decide)) (by rfl) gR kR bR .nil pass0 (pa_cons (pv 4) (pa_cons pe_int pa_nil))) (pa_cons (pe_call GR (hr.mono (by decide)) (by rfl) gR kR bR .nil pass0 (pa_cons (pv 4) (pa_cons pe_int pa_nil))) pa_nil)))))
          (pe_lst (pa_cons pe_int (pa_cons pe_int (pa_cons pe_int (pa_cons pe_int pa_nil))))) (nomark _)) (pss_one (ps_ret pe_bl)) pss_nil)
      (pss_cons (ps_set (i := 6) scLaw.nd rfl (.inr rfl) (pe_call GK (hr.mono (by decide)) (by rfl) gK kK bK .nil pass0 (pa_cons (pv 1) (pa_cons (pe_lst (pa_cons pe_int (pa_cons pe_int (pa_cons (pe_op op_mul pe_int (pe_op op_pow pe_int pe_int)) pa_nil)))) pa_nil))))
      (pss_cons (ps_if (pt_cmpR (op_neD hu) (pe_lc (own := [("_law_day", 7)]) (g := gName 7) (tt := tYes) rfl scLaw.nd (pi_range1 (by rfl) T.range (pa_cons pe_int pa_nil)) (blkOk_by (N := NL) (sc := defScope sLaw) (by decide +kernel)) (fun _ _ _ _ _ => pg_name (i := 7) scLaw.nd rfl (Or.inl rfl)) (fun _ _ _ _ _ => pts_nil)
          (fun _ _ _ _ _ => pe_call GW (hr.mono (by decide)) (by rfl) gW kW bW .nil pass0 (pa_cons (pv 3) (pa_cons pe_int (pa_cons (pe_op op_add (pv 6) (pv 7)) pa_nil)))))
          (pe_lst (pa_cons pe_int (pa_cons pe_int (pa_cons pe_int (pa_cons pe_int pa_nil))))) (nomark _)) (pss_one (ps_ret pe_bl)) pss_nil)
      (pss_cons (ps_if (PW.pt (pw_or (pt_cmpR (op_neD hu) (pe_lc (own := [("_law_wheel", 8)]) (g := gName 8) (tt := tYes) rfl scLaw.nd (pi_range1 (by rfl) T.range (pa_cons pe_int pa_nil)) (blkOk_by (N := NL) (sc := defScope sLaw) (by decide +kernel)) (fun _ _ _ _ _ => pg_name (i := 8) scLaw.nd rfl (Or.inl rfl)) (fun _ _ _ _ _ => pts_nil)
          (fun _ _ _ _ _ => pe_call GD (hr.mono (by decide)) (by rfl) gD kD bD .nil pass0 (pa_cons (pv 3) (pa_cons (pv 8) (pa_cons pe_int pa_nil)))))
          (pe_lst (pa_cons pe_int (pa_cons pe_int (pa_cons pe_int pa_nil)))) (nomark _)) (pw_or1 (pt_cmpR op_ne (pe_call GD (hr.mono (by decide)) (by rfl) gD kD bD .nil pass0 (pa_cons (pv 3) (pa_cons pe_int (pa_cons pe_int pa_nil)))) pe_int (nomark _))))) (pss_one (ps_ret pe_bl)) pss_nil)
      (pss_cons (ps_if (PW.pt (pw_or (pt_cmpR (op_neD hu) (pe_lc (own := [("_law_wheel", 8)]) (g := gName 8) (tt := tYes) rfl scLaw.nd (pi_range1 (by rfl) T.range (pa_cons pe_int pa_nil)) (blkOk_by (N := NL) (sc := defScope sLaw) (by decide +kernel)) (fun _ _ _ _ _ => pg_name (i := 8) scLaw.nd rfl (Or.inl rfl)) (fun _ _ _ _ _ => pts_nil)
          (fun _ _ _ _ _ => pe_call GD (hr.mono (by decide)) (by rfl) gD kD bD .nil pass0 (pa_cons (pv 4) (pa_cons (pv 8) (pa_cons pe_int pa_nil)))))
          (pe_lst (pa_cons pe_non (pa_cons pe_int (pa_cons pe_int pa_nil)))) (nomark _)) (pw_or1 (pt_cmpR op_ne (pe_call GN (hr.mono (by decide)) (by rfl) gN kN bN .nil pass0 (pa_cons (pv 4) (pa_cons pe_int (pa_cons (pe_op op_pow pe_int pe_int) pa_nil)))) pe_int (nomark _))))) (pss_one (ps_ret pe_bl)) pss_nil)
      (pss_cons (ps_if (pt_cmpR (op_neD hu) (pe_lc (own := [("_law_day", 7)]) (g := gName 7) (tt := tYes) rfl scLaw.nd (pi_range1 (by rfl) T.range (pa_cons pe_int pa_nil)) (blkOk_by (N := NL) (sc := defScope sLaw) (by decide +kernel)) (fun _ _ _ _ _ => pg_name (i := 7) scLaw.nd rfl (Or.inl rfl)) (fun _ _ _ _ _ => pts_nil)
          (fun _ _ _ _ _ => pe_call GN (hr.mono (by decide)) (by rfl) gN kN bN .nil pass0 (pa_cons (pv 2) (pa_cons pe_int (pa_cons (pv 7) pa_nil)))))
          (pe_lst (pa_cons pe_int (pa_cons pe_int (pa_cons pe_int (pa_cons pe_int (pa_cons pe_int (pa_cons pe_int pa_nil))))))) (nomark _)) (pss_one (ps_ret pe_bl)) pss_nil)
      (pss_one (ps_ret (pe_cmpR op_eq (pe_call GN (hr.mono (by decide)) (by rfl) gN kN bN .nil pass0 (pa_cons (pv 3) (pa_cons pe_int (pa_cons (pe_op op_pow pe_int pe_int) pa_nil)))) pe_int (nomark _))))))))))))))))
end
end Tr

namespace Tr
open PySem PySem.Spec PyProof.Rows L2 TrM
section
variable {K : PySem.W.Frag} {C : Addr} {a B p2 p3 p4 : Addr} {F G : Int} {x5 x6 x7 x8 : Option V} {E : Ends} {H : Hp}
theorem map_rg {n : Nat} {ys : List V} {vs : List Nat} {σ : L2.St} {H : Hp} {g : TG} {te : TE} {D : Addr} {Qd : Hp → Prop} (nD : H D = none) (hlen : ys.length = n) (hz : n ≤ 1000)
    (hs : ∀ (j : Nat) (y : V) (H' : Hp) (R : V → Hp → Prop), ys[j]? = some y → Same H H' → (∀ H4, Same H' H4 → R y H4) → g (.int (0 + (j : Int))) (wipe σ vs) H' fun σ2 H2 => wipe σ2 vs = wipe σ vs ∧ te σ2 H2 R)
    (hd : ∀ H', Same H H' → H' D = some (.lst ys) → Qd H') : ∃ W : Nat → Nat → Hp → Prop, (∃ m, W 0 m (upd H D (.lst []))) ∧ ∀ i m H, W i m H →
      ((Itr 0 n).stop i H ∧ Qd H) ∨ ((Itr 0 n).go i H ∧ ∃ Nx : Hp → Prop, (∀ H', Nx H' → ∃ m', m' < m ∧ W (i + 1) m' H') ∧ ∀ x H', (Itr 0 n).yld i H x H' → g x (wipe σ vs) H' fun σ2 H2 => wipe σ2 vs = wipe σ vs ∧ tYes σ2 H2 fun b H3 =>
        if b = true then te σ2 H3 fun y H4 => ∃ acc, H4 D = some (.lst acc) ∧ acc.length < sizeLine ∧ Nx (upd H4 D (.lst (acc ++ [y]))) else Nx H3) := by
  refine lc_range (lo := 0) (n := n) (tt := tYes) (fun i H' => Same H H' ∧ H' D = some (.lst (ys.take i))) ⟨same_new nD, upd_same⟩ (fun i H' hi ⟨sm, e⟩ => ?_) fun H' ⟨sm, e⟩ => hd H' sm (by rw [e, ← hlen, List.take_length])
  have hy : ys[i]? = some (ys[i]'(by omega)) := List.getElem?_eq_getElem _
  exact hs i _ H' (fun y H4 => ∃ acc, H4 D = some (.lst acc) ∧ acc.length < sizeLine ∧ Same H (upd H4 D (.lst (acc ++ [y]))) ∧ (upd H4 D (.lst (acc ++ [y]))) D = some (.lst (ys.take (i + 1)))) hy sm fun H4 s4 => by
    refine ⟨ys.take i, s4 _ _ e, ?_, fun b o q => ?_, ?_⟩
    · rw [List.length_take]
      exact small1000 (by omega)
    · rw [upd_ne (ne_of_none q nD)]
      exact s4 _ _ (sm _ _ q)
    · rw [upd_same, take_next hy]
theorem ne_end {σ : L2.St} {L : Addr} {xs : List V} {t : TA} {ys : List V} (eL : H L = some (.lst xs)) (e : xs = ys) (ht : ∀ (Q : List V → Hp → Prop), Q ys H → t σ H Q) (hz : ys.length ≤ 1000) (hf : ∀ x ∈ ys, flatV x = true) (s1 : SeqAt.shaped (.list (dsOf ys)) = true)
    (hv : PyData.eqv (.list (dsOf ys)) (.list (dsOf ys)) = true) {R : V → Hp → Prop} (k : ∀ H', Same H H' → R (.bl false) H') : tLst t σ H (fun y H2 => rNeD K (.ref L) y H2 R) := by
  subst e
  refine ht _ ⟨Nat.le_of_lt (small1000 hz), fun M nM => ?_⟩
  have sm : Same H (upd H M (.lst xs)) := same_new nM
  exact ne_flat (SqL.of (sm _ _ eL)) (SqL.of upd_same) hf s1 hv (k _ sm)
theorem rd6 (m : Nat) (hF : F = 4 * m) (M : Made K C H p2 2 two) (k : ∀ H', Same H H' → E.nx [some (.ref a), some (.ref B), some (.ref p2), some (.ref p3), some (.ref p4), some (.int F), x6, x7, x8] H') : q6 K C E [some (.ref a), some (.ref B), some (.ref p2), some (.ref p3), some (.ref p4), some (.int F), x6, x7, x8] H := by
  refine ⟨6, rfl, by decide, by decide, fun L nL => map_rg nL (n := 6) (ys := spotsV two 0 6) (by rw [spotsV_len]) (by decide) (fun j y H' R hy sm hR => ?_) (fun H1 s1 eL => ?_)⟩
  · have hj : j < 6 := by
      have z := (List.getElem?_eq_some_iff.mp hy).1
      rw [spotsV_len] at z
      exact z
    refine ⟨rfl, _, rfl, _, rfl, _, rfl, _, _, rfl, rfl, p2, 0, 2, F + (0 + (j : Int)), two, rfl, M.same sm, by decide, by decide, by omega, fun H2 s2 => ?_⟩
    have e1 : (F + (0 + (j : Int))).toNat = 4 * m + j := by omega
    have e2 : V.int (pos two 0 j) = y := Option.some.inj ((spotsV_get hj).symm.trans hy)
    rw [e1, two_far 0 (by decide) m j, e2]
    exact hR _ s2
  · exact ne_end eL (ys := [0, 1, 1, 0, 0, 1].map V.int) (by decide +kernel) (fun Q h => rd_ints _ h) (by decide) (by decide) (by decide +kernel) (by decide +kernel) fun H2 s2 => ⟨false, rfl, iteF (k _ (s1.trans s2))⟩
theorem rd_bools {σ : L2.St} {H : Hp} {Q : List V → Hp → Prop} : ∀ (l : List Bool), Q (l.map V.bl) H → tBools l σ H Q := by
  intro l
  induction l generalizing Q with
  | nil => exact fun h => h
  | cons x r ih => exact fun h => ih (Q := fun xs H2 => Q (.bl x :: xs) H2) h
def duesB (rows : List RRow) (x : Int) (m : Nat) : List V := (List.range m).map fun d => V.bl (due rows x d)
theorem duesB_get {rows : List RRow} {x : Int} {m d : Nat} (h : d < m) : (duesB rows x m)[d]? = some (V.bl (due rows x d)) := by
  unfold duesB
  rw [List.getElem?_map, List.getElem?_range h]
  rfl
theorem duesB_len (rows : List RRow) (x : Int) (m : Nat) : (duesB rows x m).length = m := by
  unfold duesB
  rw [List.length_map, List.length_range]
theorem rd7 (m : Nat) (hF : F = 4 * m) (M : Made K C H p2 2 two) (k : ∀ H', Same H H' → E.nx [some (.ref a), some (.ref B), some (.ref p2), some (.ref p3), some (.ref p4), some (.int F), x6, x7, x8] H') : q7 K C E [some (.ref a), some (.ref B), some (.ref p2), some (.ref p3), some (.ref p4), some (.int F), x6, x7, x8] H := by
  refine ⟨5, rfl, by decide, by decide, fun L nL => map_rg nL (n := 5) (ys := duesB two 1 5) (by rw [duesB_len]) (by decide) (fun j y H' R hy sm hR => ?_) (fun H1 s1 eL => ?_)⟩
  · have hj : j < 5 := by
      have z := (List.getElem?_eq_some_iff.mp hy).1
      rw [duesB_len] at z
      exact z
    refine ⟨rfl, _, rfl, _, rfl, _, rfl, _, _, rfl, rfl, p2, 1, 2, F + (0 + (j : Int)), two, rfl, M.same sm, by decide, by decide, by omega, fun H2 s2 => ?_⟩
    have e1 : (F + (0 + (j : Int))).toNat = 4 * m + j := by omega
    have e2 : V.bl (due two 1 j) = y := Option.some.inj ((duesB_get hj).symm.trans hy)
    rw [e1, two_due 1 (by decide) m j, e2]
    exact hR _ s2
  · exact ne_end eL (ys := [false, true, true, true, false].map V.bl) (by decide +kernel) (fun Q h => rd_bools _ h) (by decide) (by decide) (by decide +kernel) (by decide +kernel) fun H2 s2 => ⟨false, rfl, iteF (k _ (s1.trans s2))⟩
theorem rd8 (M2 : Made K C H p2 2 two) (M3 : Made K C H p3 3 three) (M4 : Made K C H p4 3 still) (k : ∀ H', Same H H' → E.nx [some (.ref a), some (.ref B), some (.ref p2), some (.ref p3), some (.ref p4), x5, x6, x7, x8] H') : q8 K C E [some (.ref a), some (.ref B), some (.ref p2), some (.ref p3), some (.ref p4), x5, x6, x7, x8] H := by
  refine ⟨_, rfl, p2, 0, 2, two, rfl, M2, by decide, by decide, fun j1 H1 r1 _ s1 => ?_⟩
  refine ⟨_, rfl, p3, 2, 3, three, rfl, M3.same s1, by decide, by decide, fun j2 H2 r2 _ s2 => ?_⟩
  refine ⟨_, rfl, p4, 0, 3, still, rfl, M4.same (s1.trans s2), by decide, by decide, fun j3 H3 r3 _ s3 => ?_⟩
  refine ⟨_, rfl, p4, 1, 3, still, rfl, M4.same ((s1.trans s2).trans s3), by decide, by decide, fun j4 H4 r4 _ s4 => ?_⟩
  obtain rfl := r1.uniq r20
  obtain rfl := r2.uniq r32
  obtain rfl := r3.uniq Tr.s0
  obtain rfl := r4.uniq Tr.s1
  refine ⟨(by show 4 ≤ sizeLine; decide), fun L nL => ?_⟩
  have s5 : Same H4 (upd H4 L (.lst [.int ((2 * two.length : Nat) : Int), .int ((3 * three.length : Nat) : Int), .int ((1 * still.length : Nat) : Int), .int ((2 * still.length : Nat) : Int)])) := same_new nL
  exact ne_end (L := L) (xs := [.int ((2 * two.length : Nat) : Int), .int ((3 * three.length : Nat) : Int), .int ((1 * still.length : Nat) : Int), .int ((2 * still.length : Nat) : Int)]) upd_same (ys := [4, 3, 2, 4].map V.int) (by decide +kernel) (fun Q h => rd_ints _ h) (by decide) (by decide) (by decide +kernel) (by decide +kernel) fun H6 s6 => ⟨false, rfl, iteF (k _ (((((s1.trans s2).trans s3).trans s4).trans s5).trans s6))⟩
/-- the wheels of a place, day by day -/
theorem rd10 (m : Nat) (hG : G = 3 * m) (M : Made K C H p3 3 three) (k : ∀ H', Same H H' → E.nx [some (.ref a), some (.ref B), some (.ref p2), some (.ref p3), some (.ref p4), x5, some (.int G), x7, x8] H') : q10 K C E [some (.ref a), some (.ref B), some (.ref p2), some (.ref p3), some (.ref p4), x5, some (.int G), x7, x8] H := by
  refine ⟨4, rfl, by decide, by decide, fun L nL => map_rg nL (n := 4) (ys := [0, 2, 1, 0].map V.int) rfl (by decide) (fun j y H' R hy sm hR => ?_) (fun H1 s1 eL => ?_)⟩
  · have hj : j < 4 := (List.getElem?_eq_some_iff.mp hy).1
    refine ⟨rfl, _, rfl, _, rfl, _, rfl, _, _, rfl, rfl, p3, 0, 3, G + (0 + (j : Int)), three, rfl, M.same sm, by decide, by decide, by omega, fun v H2 v0 v1 ev s2 => ?_⟩
    have e1 : (G + (0 + (j : Int))).toNat = 3 * m + j := by omega
    have e3 : pos three v (3 * m + j) = pos three v j := by
      rcases (show v = 0 ∨ v = 1 ∨ v = 2 by omega) with rfl | rfl | rfl
      · exact three_far 0 (by decide) m j
      · exact three_far 1 (by decide) m j
      · exact three_far 2 (by decide) m j
    rw [e1, e3] at ev
    have e4 : V.int v = y := by
      rcases (show v = 0 ∨ v = 1 ∨ v = 2 by omega) with rfl | rfl | rfl <;> rcases (show j = 0 ∨ j = 1 ∨ j = 2 ∨ j = 3 by omega) with rfl | rfl | rfl | rfl <;>
        first | exact Option.some.inj hy | exact absurd ev (by decide)
    rw [e4]
    exact hR _ s2
  · exact ne_end eL (ys := [0, 2, 1, 0].map V.int) rfl (fun Q h => rd_ints _ h) (by decide) (by decide) (by decide +kernel) (by decide +kernel) fun H2 s2 => ⟨false, rfl, iteF (k _ (s1.trans s2))⟩
theorem rd11 (M : Made K C H p3 3 three) (k : ∀ H', Same H H' → E.nx [some (.ref a), some (.ref B), some (.ref p2), some (.ref p3), some (.ref p4), x5, x6, x7, x8] H') : q11 K C E [some (.ref a), some (.ref B), some (.ref p2), some (.ref p3), some (.ref p4), x5, x6, x7, x8] H := by
  refine ⟨3, rfl, by decide, by decide, fun L nL => map_rg nL (n := 3) (ys := [0, 2, 1].map V.int) rfl (by decide) (fun j y H' R hy sm hR => ?_) (fun H1 s1 eL => ?_)⟩
  · have hj : j < 3 := (List.getElem?_eq_some_iff.mp hy).1
    refine ⟨rfl, _, rfl, _, rfl, p3, 0 + (j : Int), 3, 0, three, rfl, M.same sm, by omega, by omega, by decide, fun i H2 ri _ s2 => ?_⟩
    have e4 : dayV three (0 + (j : Int)) (i * three.length) 0 = y := by
      rcases (show j = 0 ∨ j = 1 ∨ j = 2 by omega) with rfl | rfl | rfl
      · obtain rfl := ri.uniq r30
        exact Option.some.inj hy
      · obtain rfl := ri.uniq r31
        exact Option.some.inj hy
      · obtain rfl := ri.uniq r32
        exact Option.some.inj hy
    rw [e4]
    exact hR _ s2
  · refine ne_end eL (ys := [0, 2, 1].map V.int) rfl (fun Q h => rd_ints _ h) (by decide) (by decide) (by decide +kernel) (by decide +kernel) fun H2 s2 => ⟨false, rfl, iteF ?_⟩
    refine ⟨_, rfl, p3, 1, 3, 10, three, rfl, M.same (s1.trans s2), by decide, by decide, by decide, fun i H3 ri _ s3 => ?_⟩
    obtain rfl := ri.uniq r31
    exact ⟨rfl, false, rfl, iteF (k _ ((s1.trans s2).trans s3))⟩
theorem pow_big : (10 : Int) ^ (18 : Int).toNat = ((10 ^ 18 : Nat) : Int) := by decide
theorem rd12 (M : Made K C H p4 3 still) (k : ∀ H', Same H H' → E.nx [some (.ref a), some (.ref B), some (.ref p2), some (.ref p3), some (.ref p4), x5, x6, x7, x8] H') : q12 K C E [some (.ref a), some (.ref B), some (.ref p2), some (.ref p3), some (.ref p4), x5, x6, x7, x8] H := by
  refine ⟨3, rfl, by decide, by decide, fun L nL => map_rg nL (n := 3) (ys := [.non, .int 5, .int 7]) rfl (by decide) (fun j y H' R hy sm hR => ?_) (fun H1 s1 eL => ?_)⟩
  · have hj : j < 3 := (List.getElem?_eq_some_iff.mp hy).1
    refine ⟨rfl, _, rfl, _, rfl, p4, 0 + (j : Int), 3, 1, still, rfl, M.same sm, by omega, by omega, by decide, fun i H2 ri _ s2 => ?_⟩
    have e4 : dayV still (0 + (j : Int)) (i * still.length) 1 = y := by
      rcases (show j = 0 ∨ j = 1 ∨ j = 2 by omega) with rfl | rfl | rfl
      · obtain rfl := ri.uniq Tr.s0
        exact Option.some.inj hy
      · obtain rfl := ri.uniq Tr.s1
        exact Option.some.inj hy
      · obtain rfl := ri.uniq Tr.s2
        exact Option.some.inj hy
    rw [e4]
    exact hR _ s2
  · refine ne_end eL (ys := [.non, .int 5, .int 7]) rfl (fun Q h => h) (by decide) (by decide) (by decide +kernel) (by decide +kernel) fun H2 s2 => ⟨false, rfl, iteF ?_⟩
    refine ⟨_, rfl, _, _, rfl, rfl, ⟨by decide, by decide, by decide⟩, p4, 0, 3, 10 ^ 18, still, congrArg (fun z => [V.ref p4, V.int 0, V.int z]) pow_big, M.same (s1.trans s2), by decide, by decide, by decide, fun H3 s3 => ?_⟩
    rw [cnt_still]
    exact ⟨rfl, false, rfl, iteF (k _ ((s1.trans s2).trans s3))⟩
theorem rd13 (M : Made K C H p2 2 two) (k : ∀ H', Same H H' → E.nx [some (.ref a), some (.ref B), some (.ref p2), some (.ref p3), some (.ref p4), x5, x6, x7, x8] H') : q13 K C E [some (.ref a), some (.ref B), some (.ref p2), some (.ref p3), some (.ref p4), x5, x6, x7, x8] H := by
  refine ⟨6, rfl, by decide, by decide, fun L nL => map_rg nL (n := 6) (ys := [0, 1, 2, 2, 3, 4].map V.int) rfl (by decide) (fun j y H' R hy sm hR => ?_) (fun H1 s1 eL => ?_)⟩
  · have hj : j < 6 := (List.getElem?_eq_some_iff.mp hy).1
    refine ⟨rfl, _, rfl, _, rfl, p2, 0, 2, j, two, by rw [Int.zero_add]; rfl, M.same sm, by decide, by decide, by omega, fun H2 s2 => ?_⟩
    have e4 : V.int ((cnt two 0 j : Nat) : Int) = y := by
      rcases (show j = 0 ∨ j = 1 ∨ j = 2 ∨ j = 3 ∨ j = 4 ∨ j = 5 by omega) with rfl | rfl | rfl | rfl | rfl | rfl <;> exact Option.some.inj hy
    rw [e4]
    exact hR _ s2
  · exact ne_end eL (ys := [0, 1, 2, 2, 3, 4].map V.int) rfl (fun Q h => rd_ints _ h) (by decide) (by decide) (by decide +kernel) (by decide +kernel) fun H2 s2 => ⟨false, rfl, iteF (k _ (s1.trans s2))⟩
theorem rd14 (M : Made K C H p3 3 three) (k : ∀ H', E.rt (.bl true) H') : q14 K C E [some (.ref a), some (.ref B), some (.ref p2), some (.ref p3), some (.ref p4), x5, x6, x7, x8] H := by
  refine ⟨_, rfl, _, _, rfl, rfl, ⟨by decide, by decide, by decide⟩, p3, 2, 3, 10 ^ 18, three, congrArg (fun z => [V.ref p3, V.int 2, V.int z]) pow_big, M, by decide, by decide, by decide, fun H3 s3 => ?_⟩
  rw [cnt_three]
  exact ⟨rfl, k _⟩
end
end Tr

namespace Tr
open PySem PySem.Spec PyProof.Rows L2 TrM
section
variable {K : PySem.W.Frag} {C : Addr} {a B p2 p3 p4 : Addr} {F G : Int} {x5 x6 x7 x8 : Option V} {E : Ends} {H : Hp}
theorem q_seq {t u : TS} {σ : L2.St} (h : t { E with nx := u E } σ H) : tSeq t u E σ H := h
theorem rd1 {ns : List Int} (hS : SqL K H a (ns.map V.int)) (k : ∀ (D : Addr) (H1 : Hp), Same H H1 → BoxAt H1 D → E.nx [some (.ref a), some (.ref D), none, none, none, none, none, none, none] H1) : q1 K E [some (.ref a), none, none, none, none, none, none, none, none] H :=
  ⟨_, rfl, a, 0, 11, ns, rfl, hS, by decide, by decide, fun D H1 _ e1 hB => k D H1 e1 hB⟩
theorem rd_mk {n : Int} {i : Nat} {σ : L2.St} (rows : List RRow) (hg : ∀ r ∈ rows, Good n r) (h0 : 0 < rows.length) (hl : rows.length ≤ 60) (h1 : 1 ≤ n) (he : rows.map srt = rows) (gr : GoodRota n rows) (k : ∀ (p : Addr) (H' : Hp), Same H H' → Made K C H' p n rows → E.nx (σ.set i (some (.ref p))) H') : qMake K C n rows i E σ H :=
  rd_make (K := K) (C := C) (n := n) (σ := σ) (H := H) (Q := fun v H' => E.nx (σ.set i (some v)) H') rows hg h0 hl h1 he gr fun p H' _ s M => k p H' s M
theorem pick_box {σ : L2.St} {i : Nat} {t : TA} {xs : List V} (hσ : σ[1]? = some (some (.ref B))) (hB : BoxAt H B) (ht : ∀ (Q : List V → Hp → Prop), Q xs H → t σ H Q) (h0 : 0 < xs.length) (hz : xs.length ≤ 1000)
    (k : ∀ (v : V) (H' : Hp), v ∈ xs → Same (del H B) H' → BoxAt H' B → E.nx (σ.set i (some v)) H') : tAsg (tCall (spPick K) [] E0 (tCons (tVar 1) (tCons (tLst t) tNil))) (gName i) E σ H := by
  obtain ⟨c, s, u, hb, hD⟩ := hB
  refine ⟨_, hσ, ht _ ⟨Nat.le_of_lt (small1000 hz), fun L nL => ?_⟩⟩
  have sm : Same H (upd H L (.lst xs)) := same_new nL
  have hD2 := sm _ _ hD
  have hne : L ≠ B := (ne_of_none hD nL).symm
  refine ⟨B, L, xs, rfl, ⟨c, s, u, hb, hD2⟩, SqL.of upd_same, hne, h0, hz, fun v c' s' u' hv hb' => k v _ hv ?_ ⟨c', s', u', hb', upd_same⟩⟩
  exact (del_same sm).trans box_new
end
end Tr

namespace Tr
open PySem PySem.Spec PyProof.Rows L2 TrM
section
variable {K : PySem.W.Frag} {C : Addr} {a B p2 p3 p4 : Addr} {F G : Int} {x5 x6 x7 x8 : Option V} {E : Ends} {H : Hp}
theorem rd5 (hB : BoxAt H B) (k : ∀ (m : Nat) (H' : Hp), Same (del H B) H' → BoxAt H' B → E.nx [some (.ref a), some (.ref B), some (.ref p2), some (.ref p3), some (.ref p4), some (.int (4 * (m : Int))), none, none, none] H') : q5 K E [some (.ref a), some (.ref B), some (.ref p2), some (.ref p3), some (.ref p4), none, none, none, none] H := by
  refine pick_box (B := B) (xs := [.int 0, .int 4, .int 4000, .int (4 * 10 ^ (17 : Int).toNat)]) rfl hB (fun Q h => ⟨_, _, rfl, rfl, ⟨by decide, by decide, by decide⟩, _, _, rfl, rfl, .inl ⟨by decide, by decide⟩, h⟩) (by decide) (by decide) fun v H' hv sm hB' => ?_
  have e : ∃ m : Nat, v = .int (4 * (m : Int)) := by
    rcases List.mem_cons.mp hv with rfl | hv
    · exact ⟨0, rfl⟩
    rcases List.mem_cons.mp hv with rfl | hv
    · exact ⟨1, rfl⟩
    rcases List.mem_cons.mp hv with rfl | hv
    · exact ⟨1000, rfl⟩
    rcases List.mem_cons.mp hv with rfl | hv
    · exact ⟨10 ^ 17, by decide +kernel⟩
    · cases hv
  obtain ⟨m, rfl⟩ := e
  exact k m H' sm hB'
theorem rd9 {F : V} (hB : BoxAt H B) (k : ∀ (m : Nat) (H' : Hp), Same (del H B) H' → E.nx [some (.ref a), some (.ref B), some (.ref p2), some (.ref p3), some (.ref p4), some F, some (.int (3 * (m : Int))), none, none] H') : q9 K E [some (.ref a), some (.ref B), some (.ref p2), some (.ref p3), some (.ref p4), some F, none, none, none] H := by
  refine pick_box (B := B) (xs := [.int 0, .int 3, .int (3 * 10 ^ (17 : Int).toNat)]) rfl hB (fun Q h => ⟨_, _, rfl, rfl, ⟨by decide, by decide, by decide⟩, _, _, rfl, rfl, .inl ⟨by decide, by decide⟩, h⟩) (by decide) (by decide) fun v H' hv sm hB' => ?_
  have e : ∃ m : Nat, v = .int (3 * (m : Int)) := by
    rcases List.mem_cons.mp hv with rfl | hv
    · exact ⟨0, rfl⟩
    rcases List.mem_cons.mp hv with rfl | hv
    · exact ⟨1, rfl⟩
    rcases List.mem_cons.mp hv with rfl | hv
    · exact ⟨10 ^ 17, by decide +kernel⟩
    · cases hv
  obtain ⟨m, rfl⟩ := e
  exact k m H' sm
end
end Tr

namespace Tr
open PySem PySem.Spec PyProof.Rows L2 TrM
section
variable {K : PySem.W.Frag} {C : Addr} {a B p2 p3 p4 : Addr} {F G : Int} {x5 x6 x7 x8 : Option V} {E : Ends} {H : Hp}
theorem BoxAt.same {H' : Hp} (h : BoxAt H B) (e : Same H H') : BoxAt H' B :=
  let ⟨c, s, t, h1, h2⟩ := h
  ⟨c, s, t, h1, e _ _ h2⟩
theorem Made.pick {H' : Hp} {p : Addr} {n : Int} {rows : List RRow} (M : Made K C H p n rows) (hB : BoxAt H B) (e : Same (del H B) H') : Made K C H' p n rows :=
  let ⟨_, _, _, _, h2⟩ := hB
  M.box h2 e
theorem he_two : two.map srt = two := by decide +kernel
theorem he_three : three.map srt = three := by decide +kernel
theorem he_still : still.map srt = still := by decide +kernel
theorem st6 {u : TS} (m : Nat) (hF : F = 4 * m) (M : Made K C H p2 2 two) (k : ∀ H', Same H H' → u E [some (.ref a), some (.ref B), some (.ref p2), some (.ref p3), some (.ref p4), some (.int F), x6, x7, x8] H') : tSeq (q6 K C) u E [some (.ref a), some (.ref B), some (.ref p2), some (.ref p3), some (.ref p4), some (.int F), x6, x7, x8] H := rd6 (E := { E with nx := u E }) m hF M k
theorem st7 {u : TS} (m : Nat) (hF : F = 4 * m) (M : Made K C H p2 2 two) (k : ∀ H', Same H H' → u E [some (.ref a), some (.ref B), some (.ref p2), some (.ref p3), some (.ref p4), some (.int F), x6, x7, x8] H') : tSeq (q7 K C) u E [some (.ref a), some (.ref B), some (.ref p2), some (.ref p3), some (.ref p4), some (.int F), x6, x7, x8] H := rd7 (E := { E with nx := u E }) m hF M k
theorem st8 {u : TS} (M2 : Made K C H p2 2 two) (M3 : Made K C H p3 3 three) (M4 : Made K C H p4 3 still) (k : ∀ H', Same H H' → u E [some (.ref a), some (.ref B), some (.ref p2), some (.ref p3), some (.ref p4), x5, x6, x7, x8] H') : tSeq (q8 K C) u E [some (.ref a), some (.ref B), some (.ref p2), some (.ref p3), some (.ref p4), x5, x6, x7, x8] H := rd8 (E := { E with nx := u E }) M2 M3 M4 k
theorem st10 {u : TS} (m : Nat) (hG : G = 3 * m) (M : Made K C H p3 3 three) (k : ∀ H', Same H H' → u E [some (.ref a), some (.ref B), some (.ref p2), some (.ref p3), some (.ref p4), x5, some (.int G), x7, x8] H') : tSeq (q10 K C) u E [some (.ref a), some (.ref B), some (.ref p2), some (.ref p3), some (.ref p4), x5, some (.int G), x7, x8] H := rd10 (E := { E with nx := u E }) m hG M k
theorem st11 {u : TS} (M : Made K C H p3 3 three) (k : ∀ H', Same H H' → u E [some (.ref a), some (.ref B), some (.ref p2), some (.ref p3), some (.ref p4), x5, x6, x7, x8] H') : tSeq (q11 K C) u E [some (.ref a), some (.ref B), some (.ref p2), some (.ref p3), some (.ref p4), x5, x6, x7, x8] H := rd11 (E := { E with nx := u E }) M k
theorem st12 {u : TS} (M : Made K C H p4 3 still) (k : ∀ H', Same H H' → u E [some (.ref a), some (.ref B), some (.ref p2), some (.ref p3), some (.ref p4), x5, x6, x7, x8] H') : tSeq (q12 K C) u E [some (.ref a), some (.ref B), some (.ref p2), some (.ref p3), some (.ref p4), x5, x6, x7, x8] H := rd12 (E := { E with nx := u E }) M k
theorem st13 {u : TS} (M : Made K C H p2 2 two) (k : ∀ H', Same H H' → u E [some (.ref a), some (.ref B), some (.ref p2), some (.ref p3), some (.ref p4), x5, x6, x7, x8] H') : tSeq (q13 K C) u E [some (.ref a), some (.ref B), some (.ref p2), some (.ref p3), some (.ref p4), x5, x6, x7, x8] H := rd13 (E := { E with nx := u E }) M k
theorem st1 {u : TS} {ns : List Int} (hS : SqL K H a (ns.map V.int)) (k : ∀ (D : Addr) (H1 : Hp), Same H H1 → BoxAt H1 D → u E [some (.ref a), some (.ref D), none, none, none, none, none, none, none] H1) : tSeq (q1 K) u E [some (.ref a), none, none, none, none, none, none, none, none] H := rd1 (E := { E with nx := u E }) hS k
theorem st_mk {u : TS} {n : Int} {i : Nat} {σ : L2.St} (rows : List RRow) (hg : ∀ r ∈ rows, Good n r) (h0 : 0 < rows.length) (hl : rows.length ≤ 60) (h1 : 1 ≤ n) (he : rows.map srt = rows) (gr : GoodRota n rows) (k : ∀ (p : Addr) (H' : Hp), Same H H' → Made K C H' p n rows → u E (σ.set i (some (.ref p))) H') : tSeq (qMake K C n rows i) u E σ H :=
  rd_mk (E := { E with nx := u E }) rows hg h0 hl h1 he gr k
theorem st5 {u : TS} (hB : BoxAt H B) (k : ∀ (m : Nat) (H' : Hp), Same (del H B) H' → BoxAt H' B → u E [some (.ref a), some (.ref B), some (.ref p2), some (.ref p3), some (.ref p4), some (.int (4 * (m : Int))), none, none, none] H') : tSeq (q5 K) u E [some (.ref a), some (.ref B), some (.ref p2), some (.ref p3), some (.ref p4), none, none, none, none] H := rd5 (E := { E with nx := u E }) hB k
theorem st9 {u : TS} {F : V} (hB : BoxAt H B) (k : ∀ (m : Nat) (H' : Hp), Same (del H B) H' → u E [some (.ref a), some (.ref B), some (.ref p2), some (.ref p3), some (.ref p4), some F, some (.int (3 * (m : Int))), none, none] H') : tSeq (q9 K) u E [some (.ref a), some (.ref B), some (.ref p2), some (.ref p3), some (.ref p4), some F, none, none, none] H := rd9 (E := { E with nx := u E }) hB k
theorem rd_tail {m : Nat} (hB5 : BoxAt H B) (N2 : Made K C H p2 2 two) (N3 : Made K C H p3 3 three) (N4 : Made K C H p4 3 still) (q : ∀ H', E.rt (.bl true) H') :
    tSeq (q6 K C) (tSeq (q7 K C) (tSeq (q8 K C) (tSeq (q9 K) (tSeq (q10 K C) (tSeq (q11 K C) (tSeq (q12 K C) (tSeq (q13 K C) (q14 K C)))))))) E [some (.ref a), some (.ref B), some (.ref p2), some (.ref p3), some (.ref p4), some (.int (4 * (m : Int))), none, none, none] H :=
  st6 m rfl N2 fun H6 e6 => st7 m rfl (N2.same e6) fun H7 e7 => st8 (N2.same (e6.trans e7)) (N3.same (e6.trans e7)) (N4.same (e6.trans e7)) fun H8 e8 =>
  st9 (hB5.same ((e6.trans e7).trans e8)) fun m2 H9 e9 =>
  have e68 := (e6.trans e7).trans e8
  have hB8 := hB5.same e68
  have O2 := (N2.same e68).pick hB8 e9
  have O3 := (N3.same e68).pick hB8 e9
  have O4 := (N4.same e68).pick hB8 e9
  st10 m2 rfl O3 fun H10 e10 => st11 (O3.same e10) fun H11 e11 => st12 (O4.same (e10.trans e11)) fun H12 e12 => st13 (O2.same ((e10.trans e11).trans e12)) fun H13 e13 => rd14 (O3.same (((e10.trans e11).trans e12).trans e13)) q
theorem rd_head {ns : List Int} (hS : SqL K H a (ns.map V.int)) (q : ∀ H', E.rt (.bl true) H') : qLaw K C E [some (.ref a), none, none, none, none, none, none, none, none] H :=
  st1 hS fun B H1 e1 hB1 =>
  st_mk (σ := [some (.ref a), some (.ref B), none, none, none, none, none, none, none]) two good_two (by decide) (by decide) (by decide) he_two gr_two fun p2 H2 e2 M2 =>
  st_mk (σ := [some (.ref a), some (.ref B), some (.ref p2), none, none, none, none, none, none]) three good_three (by decide) (by decide) (by decide) he_three gr_three fun p3 H3 e3 M3 =>
  st_mk (σ := [some (.ref a), some (.ref B), some (.ref p2), some (.ref p3), none, none, none, none, none]) still good_still (by decide) (by decide) (by decide) he_still gr_still fun p4 H4 e4 M4 =>
  have hB4 := ((hB1.same e2).same e3).same e4
  st5 hB4 fun m H5 e5 hB5 => rd_tail (m := m) hB5 (((M2.same e3).same e4).pick hB4 e5) ((M3.same e4).pick hB4 e5) (M4.pick hB4 e5) q
theorem rd_law {Q : VK} {ns : List Int} (hS : SqL K H a (ns.map V.int)) (q : ∀ H', Q (.bl true) H') : qLaw K C { nx := fun _ H' => Q .non H', rt := Q } (start NL [.ref a]) H := rd_head (E := { nx := fun _ H' => Q .non H', rt := Q }) hS q
end
end Tr

namespace Tr
open PySem PySem.Spec PyProof.Rows L2 TrM
section
variable {P : Program} {w : World} {K : PySem.W.Frag} {mg : Str → Option Value} {base : Heap}
theorem ok_law {f fX fK fI fP fW fR fU fN fD C : Addr} {fd fdX fdK fdI fdP fdW fdR fdU fdN fdD : FuncData} (F : Fun K "law" "law" sLaw f fd) (T : Blt mg) (C0 : RTxt K mg C)
    (GX : FnOk P w K mg base CX0 1 fX fdX ["_law_script", "_law_k", "_law_own"] (spBox K)) (kX : PySem.W.keepIn K (.ref fX) = true) (bX : Binds K fdX ["_law_script", "_law_k", "_law_own"] []) (gX : mg "_law_box" = some (.ref fX))
    (GK : FnOk P w K mg base CX0 2 fK fdK ["_law_box_here", "_law_items"] (spPick K)) (kK : PySem.W.keepIn K (.ref fK) = true) (bK : Binds K fdK ["_law_box_here", "_law_items"] []) (gK : mg "_law_pick" = some (.ref fK))
    (MI : Mk K C fI) (GI : FnOk P w K mg base CX0 6 fI fdI ["self", "places", "rows"] (spInit K C)) (bI : Binds K fdI ["self", "places", "rows"] [])
    (GP : FnOk P w K mg base CX0 4 fP fdP ["rota", "wheel", "day"] (spPlace K C)) (kP : PySem.W.keepIn K (.ref fP) = true) (bP : Binds K fdP ["rota", "wheel", "day"] []) (gP : mg "place" = some (.ref fP))
    (GW : FnOk P w K mg base CX0 5 fW fdW ["rota", "spot", "day"] (spWheelOn K C)) (kW : PySem.W.keepIn K (.ref fW) = true) (bW : Binds K fdW ["rota", "spot", "day"] []) (gW : mg "wheel_on" = some (.ref fW))
    (GR : FnOk P w K mg base CX0 4 fR fdR ["rota", "wheel"] (spRound K C)) (kR : PySem.W.keepIn K (.ref fR) = true) (bR : Binds K fdR ["rota", "wheel"] []) (gR : mg "round_days" = some (.ref fR))
    (GU : FnOk P w K mg base CX0 5 fU fdU ["rota", "wheel", "day"] (spIsDue K C)) (kU : PySem.W.keepIn K (.ref fU) = true) (bU : Binds K fdU ["rota", "wheel", "day"] []) (gU : mg "is_due" = some (.ref fU))
    (GN : FnOk P w K mg base CX0 5 fN fdN ["rota", "wheel", "day"] (spDueCount K C)) (kN : PySem.W.keepIn K (.ref fN) = true) (bN : Binds K fdN ["rota", "wheel", "day"] []) (gN : mg "due_count" = some (.ref fN))
    (GD : FnOk P w K mg base CX0 5 fD fdD ["rota", "wheel", "at"] (spDueDay K C)) (kD : PySem.W.keepIn K (.ref fD) = true) (bD : Binds K fdD ["rota", "wheel", "at"] []) (gD : mg "due_day" = some (.ref fD)) : FnOk P w K mg base CX0 8 f fd ["_law_script"] (spLaw K) := by
  refine F.ok scLaw (fun vs H Q E h => ?_) (fun cdv A outer s H vs Q E hr h => ?_)
  · obtain ⟨a, ns, rfl, _⟩ := h
    rfl
  · obtain ⟨a, ns, rfl, hS, hlen, q⟩ := h
    have hu : (A.deeper (envOfC "law" (defScope sLaw) s.heap.objs.size f cdv)).units + 64 < cLine := by
      have := hr.un
      omega
    exact ⟨qLaw K C, tm_law (fd := fd) T C0 GX kX bX gX GK kK bK gK MI GI bI GP kP bP gP GW kW bW gW GR kR bR gR GU kU bU gU GN kN bN gN GD kD bD gD hr hu, rd_law hS q⟩
end
/-! what the top has written -/
theorem all_mk {l : PySem.W.OpenLaw} {w : World} {K : PySem.W.Frag} {h : Heap} {mg : Str → Option Value} {fa C fi fl f1 f2 f3 f4 f5 f6 f7 f8 f9 f10 f11 f12 f13 f14 f15 f16 f17 f18 f19 : Addr} (X : K.In h) (G : h.Ns mainGlobals mg) (hfa : mg "law" = some (.ref fa))
    {od1 an1 od2 an2 od3 an3 od4 an4 od5 an5 od6 an6 od7 an7 od8 an8 od9 an9 od10 an10 od11 an11 od12 an12 od13 an13 od14 an14 od15 an15 od16 an16 od17 an17 od18 an18 od19 an19 odi ani odl anl : Option Addr} {sl1 sl2 sl3 sl4 sl5 sl6 sl7 sl8 sl9 sl10 sl11 sl12 sl13 sl14 sl15 sl16 sl17 sl18 sl19 sli sll : Array (Option Value)} {oc1 kV1 dc1 pm1 cd1 ct1 oc2 kV2 dc2 pm2 cd2 ct2 oc3 kV3 dc3 pm3 cd3 ct3 oc4 kV4 dc4 pm4 cd4 ct4 oc5 kV5 dc5 pm5 cd5 ct5 oc6 kV6 dc6 pm6 cd6 ct6 oc7 kV7 dc7 pm7 cd7 ct7 oc8 kV8 dc8 pm8 cd8 ct8 oc9 kV9 dc9 pm9 cd9 ct9 oc10 kV10 dc10 pm10 cd10 ct10 oc11 kV11 dc11 pm11 cd11 ct11 oc12 kV12 dc12 pm12 cd12 ct12 oc13 kV13 dc13 pm13 cd13 ct13 oc14 kV14 dc14 pm14 cd14 ct14 oc15 kV15 dc15 pm15 cd15 ct15 oc16 kV16 dc16 pm16 cd16 ct16 oc17 kV17 dc17 pm17 cd17 ct17 oc18 kV18 dc18 pm18 cd18 ct18 oc19 kV19 dc19 pm19 cd19 ct19 oci kVi dci pmi cdi cti ocl kVl dcl pml cdl ctl : Value}
    (a1 : PySem.W.nsIn K mainGlobals "is_whole" = some (some (.ref f1))) (l1 : K.lookup f1 = some ⟨oc1, od1, .func (PySem.W.fnOf "is_whole" "is_whole" (defArgs sWhole) (defBody sWhole) (defScope sWhole) .none kV1 dc1 pm1 an1 cd1 ct1), sl1⟩) (c1 : PySem.W.codeIn K cd1 "is_whole" = true) (k1 : PySem.W.keepIn K (.ref f1) = true)
    (a2 : PySem.W.nsIn K mainGlobals "is_below" = some (some (.ref f2))) (l2 : K.lookup f2 = some ⟨oc2, od2, .func (PySem.W.fnOf "is_below" "is_below" (defArgs sBelow) (defBody sBelow) (defScope sBelow) .none kV2 dc2 pm2 an2 cd2 ct2), sl2⟩) (c2 : PySem.W.codeIn K cd2 "is_below" = true) (k2 : PySem.W.keepIn K (.ref f2) = true)
    (a3 : PySem.W.nsIn K mainGlobals "is_sequence" = some (some (.ref f3))) (l3 : K.lookup f3 = some ⟨oc3, od3, .func (PySem.W.fnOf "is_sequence" "is_sequence" (defArgs sIsSeq) (defBody sIsSeq) (defScope sIsSeq) .none kV3 dc3 pm3 an3 cd3 ct3), sl3⟩) (c3 : PySem.W.codeIn K cd3 "is_sequence" = true) (k3 : PySem.W.keepIn K (.ref f3) = true)
    (a4 : PySem.W.nsIn K mainGlobals "are_spots" = some (some (.ref f4))) (l4 : K.lookup f4 = some ⟨oc4, od4, .func (PySem.W.fnOf "are_spots" "are_spots" (defArgs sAreSpots) (defBody sAreSpots) (defScope sAreSpots) .none kV4 dc4 pm4 an4 cd4 ct4), sl4⟩) (c4 : PySem.W.codeIn K cd4 "are_spots" = true) (k4 : PySem.W.keepIn K (.ref f4) = true)
    (a5 : PySem.W.nsIn K mainGlobals "is_row" = some (some (.ref f5))) (l5 : K.lookup f5 = some ⟨oc5, od5, .func (PySem.W.fnOf "is_row" "is_row" (defArgs sIsRow) (defBody sIsRow) (defScope sIsRow) .none kV5 dc5 pm5 an5 cd5 ct5), sl5⟩) (c5 : PySem.W.codeIn K cd5 "is_row" = true) (k5 : PySem.W.keepIn K (.ref f5) = true)
    (a6 : PySem.W.nsIn K mainGlobals "are_rows" = some (some (.ref f6))) (l6 : K.lookup f6 = some ⟨oc6, od6, .func (PySem.W.fnOf "are_rows" "are_rows" (defArgs sAreRows) (defBody sAreRows) (defScope sAreRows) .none kV6 dc6 pm6 an6 cd6 ct6), sl6⟩) (c6 : PySem.W.codeIn K cd6 "are_rows" = true) (k6 : PySem.W.keepIn K (.ref f6) = true)
    (a7 : PySem.W.nsIn K mainGlobals "check_wheel" = some (some (.ref f7))) (l7 : K.lookup f7 = some ⟨oc7, od7, .func (PySem.W.fnOf "check_wheel" "check_wheel" (defArgs sCheck) (defBody sCheck) (defScope sCheck) .none kV7 dc7 pm7 an7 cd7 ct7), sl7⟩) (c7 : PySem.W.codeIn K cd7 "check_wheel" = true) (k7 : PySem.W.keepIn K (.ref f7) = true)
    (a8 : PySem.W.nsIn K mainGlobals "round_spots" = some (some (.ref f8))) (l8 : K.lookup f8 = some ⟨oc8, od8, .func (PySem.W.fnOf "round_spots" "round_spots" (defArgs sSpots) (defBody sSpots) (defScope sSpots) .none kV8 dc8 pm8 an8 cd8 ct8), sl8⟩) (c8 : PySem.W.codeIn K cd8 "round_spots" = true) (k8 : PySem.W.keepIn K (.ref f8) = true)
    (a9 : PySem.W.nsIn K mainGlobals "round_days" = some (some (.ref f9))) (l9 : K.lookup f9 = some ⟨oc9, od9, .func (PySem.W.fnOf "round_days" "round_days" (defArgs sRound) (defBody sRound) (defScope sRound) .none kV9 dc9 pm9 an9 cd9 ct9), sl9⟩) (c9 : PySem.W.codeIn K cd9 "round_days" = true) (k9 : PySem.W.keepIn K (.ref f9) = true)
    (a10 : PySem.W.nsIn K mainGlobals "place" = some (some (.ref f10))) (l10 : K.lookup f10 = some ⟨oc10, od10, .func (PySem.W.fnOf "place" "place" (defArgs sPlace) (defBody sPlace) (defScope sPlace) .none kV10 dc10 pm10 an10 cd10 ct10), sl10⟩) (c10 : PySem.W.codeIn K cd10 "place" = true) (k10 : PySem.W.keepIn K (.ref f10) = true)
    (a11 : PySem.W.nsIn K mainGlobals "wheel_on" = some (some (.ref f11))) (l11 : K.lookup f11 = some ⟨oc11, od11, .func (PySem.W.fnOf "wheel_on" "wheel_on" (defArgs sWheelOn) (defBody sWheelOn) (defScope sWheelOn) .none kV11 dc11 pm11 an11 cd11 ct11), sl11⟩) (c11 : PySem.W.codeIn K cd11 "wheel_on" = true) (k11 : PySem.W.keepIn K (.ref f11) = true)
    (a12 : PySem.W.nsIn K mainGlobals "is_due" = some (some (.ref f12))) (l12 : K.lookup f12 = some ⟨oc12, od12, .func (PySem.W.fnOf "is_due" "is_due" (defArgs sIsDue) (defBody sIsDue) (defScope sIsDue) .none kV12 dc12 pm12 an12 cd12 ct12), sl12⟩) (c12 : PySem.W.codeIn K cd12 "is_due" = true) (k12 : PySem.W.keepIn K (.ref f12) = true)
    (a13 : PySem.W.nsIn K mainGlobals "round_dues" = some (some (.ref f13))) (l13 : K.lookup f13 = some ⟨oc13, od13, .func (PySem.W.fnOf "round_dues" "round_dues" (defArgs sDues) (defBody sDues) (defScope sDues) .none kV13 dc13 pm13 an13 cd13 ct13), sl13⟩) (c13 : PySem.W.codeIn K cd13 "round_dues" = true) (k13 : PySem.W.keepIn K (.ref f13) = true)
    (a14 : PySem.W.nsIn K mainGlobals "due_count" = some (some (.ref f14))) (l14 : K.lookup f14 = some ⟨oc14, od14, .func (PySem.W.fnOf "due_count" "due_count" (defArgs sDueCount) (defBody sDueCount) (defScope sDueCount) .none kV14 dc14 pm14 an14 cd14 ct14), sl14⟩) (c14 : PySem.W.codeIn K cd14 "due_count" = true) (k14 : PySem.W.keepIn K (.ref f14) = true)
    (a15 : PySem.W.nsIn K mainGlobals "due_day" = some (some (.ref f15))) (l15 : K.lookup f15 = some ⟨oc15, od15, .func (PySem.W.fnOf "due_day" "due_day" (defArgs sDueDay) (defBody sDueDay) (defScope sDueDay) .none kV15 dc15 pm15 an15 cd15 ct15), sl15⟩) (c15 : PySem.W.codeIn K cd15 "due_day" = true) (k15 : PySem.W.keepIn K (.ref f15) = true)
    (a16 : PySem.W.nsIn K mainGlobals "_law_box" = some (some (.ref f16))) (l16 : K.lookup f16 = some ⟨oc16, od16, .func (PySem.W.fnOf "_law_box" "_law_box" (defArgs sBox) (defBody sBox) (defScope sBox) .none kV16 dc16 pm16 an16 cd16 ct16), sl16⟩) (c16 : PySem.W.codeIn K cd16 "_law_box" = true) (k16 : PySem.W.keepIn K (.ref f16) = true)
    (a17 : PySem.W.nsIn K mainGlobals "_law_take" = some (some (.ref f17))) (l17 : K.lookup f17 = some ⟨oc17, od17, .func (PySem.W.fnOf "_law_take" "_law_take" (defArgs sTake) (defBody sTake) (defScope sTake) .none kV17 dc17 pm17 an17 cd17 ct17), sl17⟩) (c17 : PySem.W.codeIn K cd17 "_law_take" = true) (k17 : PySem.W.keepIn K (.ref f17) = true)
    (a18 : PySem.W.nsIn K mainGlobals "_law_pick" = some (some (.ref f18))) (l18 : K.lookup f18 = some ⟨oc18, od18, .func (PySem.W.fnOf "_law_pick" "_law_pick" (defArgs sPick) (defBody sPick) (defScope sPick) .none kV18 dc18 pm18 an18 cd18 ct18), sl18⟩) (c18 : PySem.W.codeIn K cd18 "_law_pick" = true) (k18 : PySem.W.keepIn K (.ref f18) = true)
    (a19 : PySem.W.nsIn K mainGlobals "law" = some (some (.ref f19))) (l19 : K.lookup f19 = some ⟨oc19, od19, .func (PySem.W.fnOf "law" "law" (defArgs sLaw) (defBody sLaw) (defScope sLaw) .none kV19 dc19 pm19 an19 cd19 ct19), sl19⟩) (c19 : PySem.W.codeIn K cd19 "law" = true) (k19 : PySem.W.keepIn K (.ref f19) = true)
    (ai : PySem.W.findIn K (.ref C) "__init__" = some (some (.ref fi))) (ii : PySem.W.isFn K (.ref fi) = true) (li : K.lookup fi = some ⟨oci, odi, .func (PySem.W.fnOf "__init__" "Rota.__init__" (defArgs sInit) (defBody sInit) (defScope sInit) .none kVi dci pmi ani cdi cti), sli⟩) (ci : PySem.W.codeIn K cdi "Rota.__init__" = true) (ki : PySem.W.keepIn K (.ref fi) = true)
    (al : PySem.W.findIn K (.ref C) "__len__" = some (some (.ref fl))) (il : PySem.W.isFn K (.ref fl) = true) (ll : K.lookup fl = some ⟨ocl, odl, .func (PySem.W.fnOf "__len__" "Rota.__len__" (defArgs sLen) (defBody sLen) (defScope sLen) .none kVl dcl pml anl cdl ctl), sll⟩) (cl : PySem.W.codeIn K cdl "Rota.__len__" = true) (kl : PySem.W.keepIn K (.ref fl) = true)
    (aC : PySem.W.nsIn K mainGlobals "Rota" = some (some (.ref C))) (pg : PySem.W.plainGet K C Str.empty = true) (hd : PySem.W.hasDictIn K C = true) (po : PySem.W.plainOver K C = true) (sa : PySem.W.findIn K (.ref C) "__setattr__" = some (some (.builtin "object.__setattr__"))) (mk : PySem.W.makesIn K C = true) (kc : PySem.W.keepIn K (.ref C) = true)
    (nP : PySem.W.findIn K (.ref C) "places" = some none) (nR : PySem.W.findIn K (.ref C) "rows" = some none)
    (z0 : PySem.W.nsIn K mainGlobals "isinstance" = some none) (z1 : PySem.W.nsIn K mainGlobals "int" = some none) (z2 : PySem.W.nsIn K mainGlobals "bool" = some none) (z3 : PySem.W.nsIn K mainGlobals "list" = some none) (z4 : PySem.W.nsIn K mainGlobals "tuple" = some none) (z5 : PySem.W.nsIn K mainGlobals "all" = some none) (z6 : PySem.W.nsIn K mainGlobals "len" = some none) (z7 : PySem.W.nsIn K mainGlobals "set" = some none) (z8 : PySem.W.nsIn K mainGlobals "sorted" = some none) (z9 : PySem.W.nsIn K mainGlobals "range" = some none) (z10 : PySem.W.nsIn K mainGlobals "divmod" = some none) (z11 : PySem.W.nsIn K mainGlobals "enumerate" = some none) (z12 : PySem.W.nsIn K mainGlobals "abs" = some none) :
    ∃ fd : FuncData, (∀ (s : Shared) (v : Value), BindsTo s fd ⟨[v], []⟩ [("_law_script", v)]) ∧ ∀ base : Heap, K.In base → base.Ns mainGlobals mg → FnOk l.prog w K mg base CX0 8 fa fd ["_law_script"] (spLaw K) := by
  have e := hfa.symm.trans (PySem.W.mg_of X G a19)
  cases e
  have T : Blt mg := ⟨PySem.W.mg_none_of X G z0, PySem.W.mg_none_of X G z1, PySem.W.mg_none_of X G z2, PySem.W.mg_none_of X G z3, PySem.W.mg_none_of X G z4, PySem.W.mg_none_of X G z5, PySem.W.mg_none_of X G z6, PySem.W.mg_none_of X G z7, PySem.W.mg_none_of X G z8, PySem.W.mg_none_of X G z9, PySem.W.mg_none_of X G z10, PySem.W.mg_none_of X G z11, PySem.W.mg_none_of X G z12⟩
  have C0 : RTxt K mg C := ⟨⟨pg, hd, po, sa⟩, nP, nR, PySem.W.mg_of X G aC⟩
  have F1 := fun_mk (st := sWhole) l1 c1 k1
  have b1 := F1.binds (ps := ["value", "least"]) fun _ _ _ _ _ _ us hl => match us, hl with | [_, _], _ => rfl
  have g1 := PySem.W.mg_of X G a1
  have F2 := fun_mk (st := sBelow) l2 c2 k2
  have b2 := F2.binds (ps := ["value", "many"]) fun _ _ _ _ _ _ us hl => match us, hl with | [_, _], _ => rfl
  have g2 := PySem.W.mg_of X G a2
  have F3 := fun_mk (st := sIsSeq) l3 c3 k3
  have b3 := F3.binds (ps := ["value"]) fun _ _ _ _ _ _ us hl => match us, hl with | [_], _ => rfl
  have g3 := PySem.W.mg_of X G a3
  have F4 := fun_mk (st := sAreSpots) l4 c4 k4
  have b4 := F4.binds (ps := ["spots", "places"]) fun _ _ _ _ _ _ us hl => match us, hl with | [_, _], _ => rfl
  have g4 := PySem.W.mg_of X G a4
  have F5 := fun_mk (st := sIsRow) l5 c5 k5
  have b5 := F5.binds (ps := ["row", "places"]) fun _ _ _ _ _ _ us hl => match us, hl with | [_, _], _ => rfl
  have g5 := PySem.W.mg_of X G a5
  have F6 := fun_mk (st := sAreRows) l6 c6 k6
  have b6 := F6.binds (ps := ["rows", "places"]) fun _ _ _ _ _ _ us hl => match us, hl with | [_, _], _ => rfl
  have g6 := PySem.W.mg_of X G a6
  have F7 := fun_mk (st := sCheck) l7 c7 k7
  have b7 := F7.binds (ps := ["rota", "wheel"]) fun _ _ _ _ _ _ us hl => match us, hl with | [_, _], _ => rfl
  have g7 := PySem.W.mg_of X G a7
  have F8 := fun_mk (st := sSpots) l8 c8 k8
  have b8 := F8.binds (ps := ["rota", "wheel"]) fun _ _ _ _ _ _ us hl => match us, hl with | [_, _], _ => rfl
  have g8 := PySem.W.mg_of X G a8
  have F9 := fun_mk (st := sRound) l9 c9 k9
  have b9 := F9.binds (ps := ["rota", "wheel"]) fun _ _ _ _ _ _ us hl => match us, hl with | [_, _], _ => rfl
  have g9 := PySem.W.mg_of X G a9
  have F10 := fun_mk (st := sPlace) l10 c10 k10
  have b10 := F10.binds (ps := ["rota", "wheel", "day"]) fun _ _ _ _ _ _ us hl => match us, hl with | [_, _, _], _ => rfl
  have g10 := PySem.W.mg_of X G a10
  have F11 := fun_mk (st := sWheelOn) l11 c11 k11
  have b11 := F11.binds (ps := ["rota", "spot", "day"]) fun _ _ _ _ _ _ us hl => match us, hl with | [_, _, _], _ => rfl
  have g11 := PySem.W.mg_of X G a11
  have F12 := fun_mk (st := sIsDue) l12 c12 k12
  have b12 := F12.binds (ps := ["rota", "wheel", "day"]) fun _ _ _ _ _ _ us hl => match us, hl with | [_, _, _], _ => rfl
  have g12 := PySem.W.mg_of X G a12
  have F13 := fun_mk (st := sDues) l13 c13 k13
  have b13 := F13.binds (ps := ["rota", "wheel"]) fun _ _ _ _ _ _ us hl => match us, hl with | [_, _], _ => rfl
  have g13 := PySem.W.mg_of X G a13
  have F14 := fun_mk (st := sDueCount) l14 c14 k14
  have b14 := F14.binds (ps := ["rota", "wheel", "day"]) fun _ _ _ _ _ _ us hl => match us, hl with | [_, _, _], _ => rfl
  have g14 := PySem.W.mg_of X G a14
  have F15 := fun_mk (st := sDueDay) l15 c15 k15
  have b15 := F15.binds (ps := ["rota", "wheel", "at"]) fun _ _ _ _ _ _ us hl => match us, hl with | [_, _, _], _ => rfl
  have g15 := PySem.W.mg_of X G a15
  have F16 := fun_mk (st := sBox) l16 c16 k16
  have b16 := F16.binds (ps := ["_law_script", "_law_k", "_law_own"]) fun _ _ _ _ _ _ us hl => match us, hl with | [_, _, _], _ => rfl
  have g16 := PySem.W.mg_of X G a16
  have F17 := fun_mk (st := sTake) l17 c17 k17
  have b17 := F17.binds (ps := ["_law_box_here", "_law_bound"]) fun _ _ _ _ _ _ us hl => match us, hl with | [_, _], _ => rfl
  have g17 := PySem.W.mg_of X G a17
  have F18 := fun_mk (st := sPick) l18 c18 k18
  have b18 := F18.binds (ps := ["_law_box_here", "_law_items"]) fun _ _ _ _ _ _ us hl => match us, hl with | [_, _], _ => rfl
  have g18 := PySem.W.mg_of X G a18
  have F19 := fun_mk (st := sLaw) l19 c19 k19
  have Fi := fun_mk (st := sInit) li ci ki
  have bi := Fi.binds (ps := ["self", "places", "rows"]) fun _ _ _ _ _ _ us hl => match us, hl with | [_, _, _], _ => rfl
  have Fl := fun_mk (st := sLen) ll cl kl
  have bl := Fl.binds (ps := ["self"]) fun _ _ _ _ _ _ us hl => match us, hl with | [_], _ => rfl
  refine ⟨PySem.W.fnOf "law" "law" (defArgs sLaw) (defBody sLaw) (defScope sLaw) .none kV19 dc19 pm19 an19 cd19 ct19, fun s v => .of_eq rfl, fun base _ _ => ?_⟩
  have G1 : FnOk l.prog w K mg base CX0 1 f1 _ _ spWhole := ok_whole F1 T
  have G2 : FnOk l.prog w K mg base CX0 2 f2 _ _ spBelow := ok_below F2 T F1 b1 g1
  have G3 : FnOk l.prog w K mg base CX0 1 f3 _ _ (spIsSeq K) := ok_isseq F3 T
  have G4 : FnOk l.prog w K mg base CX0 3 f4 _ _ (spAreSpots K) := ok_arespots F4 T G3 k3 b3 g3 G2 k2 b2 g2
  have G5 : FnOk l.prog w K mg base CX0 4 f5 _ _ (spIsRow K) := ok_isrow F5 T G4 k4 b4 g4
  have G6 : FnOk l.prog w K mg base CX0 5 f6 _ _ (spAreRows K) := ok_arerows F6 T G3 k3 b3 g3 G5 k5 b5 g5
  have Gi : FnOk l.prog w K mg base CX0 6 fi _ _ (spInit K C) := ok_init Fi T C0 G1 k1 b1 g1 G6 k6 b6 g6
  have Gl : FnOk l.prog w K mg base CX0 1 fl _ _ (spLen K C) := ok_len Fl T C0
  have mL : Meth K C "__len__" fl := ⟨al, il, kl⟩
  have G7 : FnOk l.prog w K mg base CX0 3 f7 _ _ (spCheck K C) := ok_check F7 C0 G2 k2 b2 g2
  have G8 : FnOk l.prog w K mg base CX0 1 f8 _ _ (spSpots K C) := ok_spots F8 C0
  have G9 : FnOk l.prog w K mg base CX0 4 f9 _ _ (spRound K C) := ok_round F9 T G7 k7 b7 g7 G8 k8 b8 g8
  have G10 : FnOk l.prog w K mg base CX0 4 f10 _ _ (spPlace K C) := ok_place F10 T G7 k7 b7 g7 G8 k8 b8 g8
  have G11 : FnOk l.prog w K mg base CX0 5 f11 _ _ (spWheelOn K C) := ok_wheelon F11 T C0 G7 k7 b7 g7 G10 k10 b10 g10
  have G12 : FnOk l.prog w K mg base CX0 5 f12 _ _ (spIsDue K C) := ok_isdue F12 T C0 Gl mL bl G10 k10 b10 g10
  have G13 : FnOk l.prog w K mg base CX0 3 f13 _ _ (spDues K C) := ok_dues F13 T C0 Gl mL bl G8 k8 b8 g8
  have G14 : FnOk l.prog w K mg base CX0 5 f14 _ _ (spDueCount K C) := ok_duecount F14 T G9 k9 b9 g9 G13 k13 b13 g13
  have G15 : FnOk l.prog w K mg base CX0 5 f15 _ _ (spDueDay K C) := ok_dueday F15 T G7 k7 b7 g7 G9 k9 b9 g9 G13 k13 b13 g13
  have G16 : FnOk l.prog w K mg base CX0 1 f16 _ _ (spBox K) := ok_box F16 T
  have G17 : FnOk l.prog w K mg base CX0 1 f17 _ _ spTake := ok_take F17 T
  have G18 : FnOk l.prog w K mg base CX0 2 f18 _ _ (spPick K) := ok_pick F18 T G17 k17 b17 g17
  exact ok_law F19 T C0 G16 k16 b16 g16 G18 k18 b18 g18 ⟨mk, ai, ii, kc⟩ Gi bi G10 k10 b10 g10 G11 k11 b11 g11 G9 k9 b9 g9 G12 k12 b12 g12 G14 k14 b14 g14 G15 k15 b15 g15
end Tr

open PySem PySem.W PyProof.Rows
set_option maxRecDepth 100000 in
set_option maxHeartbeats 0 in
theorem PySem.Challenge.cw_turnrota_k11_ways_known_by_hand_holds : PySem.Challenge.rw_turnrota_k11_ways_known_by_hand.Holds := by
  w_on; o_law; k_head; (case hw => w_witness2)
  k_fill
  refine L2.walk_of (l := PySem.Challenge.rw_turnrota_k11_ways_known_by_hand) (n := 63) (k := 8) (x := "_law_script") (CX := fun _ => L2.CX0) (sp := fun w => Tr.spLaw _) rfl (by decide) rfl ⟨rfl, by decide, by decide⟩ (fun w h Y => PySem.W.kIn_of Y) ?F (fun _ _ a ns hl _ hS => ⟨a, ns, rfl, hS, hl, fun _ => rfl⟩) (fun _ _ _ _ _ h => h)
  case F =>
    intro w mg fa h KX G hmg
    refine' Tr.all_mk KX G hmg ?a1 ?l1 ?c1 ?k1 ?a2 ?l2 ?c2 ?k2 ?a3 ?l3 ?c3 ?k3 ?a4 ?l4 ?c4 ?k4 ?a5 ?l5 ?c5 ?k5 ?a6 ?l6 ?c6 ?k6 ?a7 ?l7 ?c7 ?k7 ?a8 ?l8 ?c8 ?k8 ?a9 ?l9 ?c9 ?k9 ?a10 ?l10 ?c10 ?k10 ?a11 ?l11 ?c11 ?k11 ?a12 ?l12 ?c12 ?k12 ?a13 ?l13 ?c13 ?k13 ?a14 ?l14 ?c14 ?k14 ?a15 ?l15 ?c15 ?k15 ?a16 ?l16 ?c16 ?k16 ?a17 ?l17 ?c17 ?k17 ?a18 ?l18 ?c18 ?k18 ?a19 ?l19 ?c19 ?k19 ?ai ?ii ?li ?ci ?ki ?al ?il ?ll ?cl ?kl ?aC ?pg ?hd ?po ?sa ?mk ?kc ?nP ?nR ?z0 ?z1 ?z2 ?z3 ?z4 ?z5 ?z6 ?z7 ?z8 ?z9 ?z10 ?z11 ?z12
    (case aC => k_is); (case a1 => k_is); (case l1 => k_is); (case c1 => k_is); (case k1 => k_is); (case a2 => k_is); (case l2 => k_is); (case c2 => k_is); (case k2 => k_is); (case a3 => k_is); (case l3 => k_is); (case c3 => k_is); (case k3 => k_is); (case a4 => k_is); (case l4 => k_is); (case c4 => k_is); (case k4 => k_is); (case a5 => k_is); (case l5 => k_is); (case c5 => k_is); (case k5 => k_is); (case a6 => k_is); (case l6 => k_is); (case c6 => k_is); (case k6 => k_is); (case a7 => k_is); (case l7 => k_is); (case c7 => k_is); (case k7 => k_is); (case a8 => k_is); (case l8 => k_is); (case c8 => k_is); (case k8 => k_is); (case a9 => k_is); (case l9 => k_is); (case c9 => k_is); (case k9 => k_is); (case a10 => k_is); (case l10 => k_is); (case c10 => k_is); (case k10 => k_is); (case a11 => k_is); (case l11 => k_is); (case c11 => k_is); (case k11 => k_is); (case a12 => k_is); (case l12 => k_is); (case c12 => k_is); (case k12 => k_is); (case a13 => k_is); (case l13 => k_is); (case c13 => k_is); (case k13 => k_is); (case a14 => k_is); (case l14 => k_is); (case c14 => k_is); (case k14 => k_is); (case a15 => k_is); (case l15 => k_is); (case c15 => k_is); (case k15 => k_is); (case a16 => k_is); (case l16 => k_is); (case c16 => k_is); (case k16 => k_is); (case a17 => k_is); (case l17 => k_is); (case c17 => k_is); (case k17 => k_is); (case a18 => k_is); (case l18 => k_is); (case c18 => k_is); (case k18 => k_is); (case a19 => k_is); (case l19 => k_is); (case c19 => k_is); (case k19 => k_is); (case ai => k_is); (case ii => k_is); (case li => k_is); (case ci => k_is); (case ki => k_is); (case al => k_is); (case il => k_is); (case ll => k_is); (case cl => k_is); (case kl => k_is); (case pg => k_is); (case hd => k_is); (case po => k_is); (case sa => k_is); (case mk => k_is); (case kc => k_is); (case nP => k_is); (case nR => k_is); (case z0 => k_is); (case z1 => k_is); (case z2 => k_is); (case z3 => k_is); (case z4 => k_is); (case z5 => k_is); (case z6 => k_is); (case z7 => k_is); (case z8 => k_is); (case z9 => k_is); (case z10 => k_is); (case z11 => k_is); (case z12 => k_is)
