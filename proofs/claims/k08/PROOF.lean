import PyProof.Rows.All
import Wide.All
import OpenK.AllK
import Wide.FinOn
import HandS.ForMost
import HandS.ForExc
import HandS.SortKw
import HandS.Walk
import HandS.Zip
import HandS.IsInst
import HandS.Conv
import HandS.WideBits
import HandS.Style
import HandS.Deep
import HandS.TupAny
import HandS.DeepEq
import HandS.Codes
import KE.KMinKey
import HandS.Zip0
import KE.SortData
import HandS.TupMul
import HandS.DictComp
import HandS.Iter
import HandS.Sort
import KE.SortKeyHeap
import HandS.FromBytesMap
import HandS.ExcValue
import PySem.Challenge.RW_pitlots_k08_whole_best_pits
set_option Elab.async false
set_option linter.all false
set_option maxRecDepth 100000
set_option maxHeartbeats 4000000
/-! max(xs, default=d) over a list of ints -/
namespace Pit
open PySem PySem.Spec PyProof.Rows L2
open Sem (wp)
abbrev dfKw (d : Value) : List (Str × Value) := [(("default" : Str), d)]
theorem mx_args (a v : Value) : argsOk "max" ⟨[a], dfKw v⟩ := by
  unfold argsOk
  kernel_rfl
section
variable {prog : Program} {w : World} {A : Around} {R : Result → Shared → Prop} {it : Addr} {fp wr : List Addr}
  {n : Nat} {P : Nat → Value → Prop} {St : Nat → Heap → Prop} {dv : Value}

theorem mx_loop (W : Walks prog w A.in1 it fp wr n P St) (bt : Nat → Nat → Bool)
    (hcmp : CmpOf prog w A.in1 .Gt P bt) (B : Addr) (hB : B ∉ fp) (k : Nat) :
    ∀ (j : Nat) (s : Shared) (vb : Value) (c : Nat), n - (j + 1) = k → j + 1 ≤ n →
      St (j + 1) s.heap → P (argBest bt j) vb →
      s.heap.get? B = some { cls := .type "list", dict := none, data := .seq #[vb, vb] c, slots := #[] } →
      (∀ v h' tk, P (argBest bt (n - 1)) v →
        (∀ b o, b ∉ wr → b ≠ B → s.heap.get? b = some o → h'.get? b = some o) →
        R (.ok (.ret v)) { s with heap := h', toks := tk }) →
      codeAny (model prog w) A (.builtin "max.loop" ⟨[.ref it, .none, .ref B], dfKw dv⟩) R s := by
  have hBw : B ∉ wr := fun h => hB (W.sub _ h)
  have nm : (toString "max" ++ toString ".loop" : String) = "max.loop" := by decide
  induction k with
  | zero =>
    intro j s vb c hk hj hst hP hO fin
    have last : j + 1 = n := by omega
    refine codeAny_builtin PySem.F.entry_max_loop ?_
    rw [Around.under_plainId PySem.F.plain_max_loop _]
    show wpAny _ A.in1 (seqItems? (.ref B) >>= _) _ _ s
    refine wpAny_bind (wpAny_seqItems hO rfl ?_)
    show wpAny _ A.in1 (tryCatch (pyNext (.ref it)) _ >>= _) _ _ s
    refine wpAny_bind (wpAny_tryCatch (W.done s _ _ (last ▸ hst) fun g tk kp => ?_))
    have hO' := kp B _ hBw hO
    show wpAny _ A.in1 (updateSeq B (fun _ => #[]) >>= _) _ _ _
    refine wpAny_bind (wpAny_updateSeq hO' rfl ?_)
    refine wpAny_bind (wpAny_letGo (wpAny_pure ?_))
    refine fin vb _ tk ?_ fun b o h1 h2 e => ?_
    · rw [← last]
      exact hP
    · rw [Heap.get?_update_other _ _ (Ne.symm h2)]
      exact kp b o h1 e
  | succ k ih =>
    intro j s vb c hk hj hst hP hO fin
    have lt : j + 1 < n := by omega
    refine codeAny_builtin PySem.F.entry_max_loop ?_
    rw [Around.under_plainId PySem.F.plain_max_loop _]
    show wpAny _ A.in1 (seqItems? (.ref B) >>= _) _ _ s
    refine wpAny_bind (wpAny_seqItems hO rfl ?_)
    show wpAny _ A.in1 (tryCatch (pyNext (.ref it)) _ >>= _) _ _ s
    refine wpAny_bind (wpAny_tryCatch (W.item (j + 1) s _ _ lt hst fun v g tk hv hst' kp => ?_))
    have hO' := kp B _ hBw hO
    show wpAny _ A.in1 (tryCatch (holding [v, v] (richCompare .Gt v vb >>= _)) _ >>= _) _ _ _
    refine wpAny_bind (wpAny_tryCatch (wpAny_holding (wpAny_bind ?_)))
    refine hcmp (j + 1) (argBest bt j) v vb _ _ _ hv hP ?_
    refine wpAny_bind (wpAny_holding (wpAny_truthy_bool ?_))
    refine wpAny_bind (wpAny_letGo (wpAny_pure ?_))
    cases hb : bt (j + 1) (argBest bt j) with
    | true =>
      simp only [if_true]
      refine wpAny_bind (wpAny_updateSeq hO' rfl ?_)
      refine wpAny_bind (wpAny_letGo ?_)
      rw [nm]
      refine wpAny_pure ⟨plainId_quiet PySem.F.plain_max_loop _, ih (j + 1) _ v _ (by omega) lt ?_ ?_ (Heap.get?_update_self _ hO' rfl) ?_⟩
      · refine W.frame _ _ _ hst' fun b hbf o e => ?_
        rw [Heap.get?_update_other _ _ (fun z : B = b => hB (by rw [z]; exact hbf))]
        exact e
      · simp only [argBest, hb, if_true]
        exact hv
      · intro v' g' tk' hv' kp'
        refine fin v' g' tk' hv' fun b o h1 h2 e => kp' b o h1 h2 ?_
        rw [Heap.get?_update_other _ _ (Ne.symm h2)]
        exact kp b o h1 e
    | false =>
      simp only [Bool.false_eq_true, if_false]
      refine wpAny_bind (wpAny_letGo ?_)
      rw [nm]
      refine wpAny_pure ⟨plainId_quiet PySem.F.plain_max_loop _, ih (j + 1) _ vb c (by omega) lt hst' ?_ hO' ?_⟩
      · simp only [argBest, hb, Bool.false_eq_true, if_false]
        exact hP
      · intro v' g' tk' hv' kp'
        exact fin v' g' tk' hv' fun b o h1 h2 e => kp' b o h1 h2 (kp b o h1 e)

theorem mx_start (W : Walks prog w A.in1 it fp wr n P St) (bt : Nat → Nat → Bool)
    (hcmp : CmpOf prog w A.in1 .Gt P bt) (B : Addr) (hB : B ∉ fp) (hn : 0 < n) {s : Shared} {c : Nat}
    (hst : St 0 s.heap)
    (hO : s.heap.get? B = some { cls := .type "list", dict := none, data := .seq #[] c, slots := #[] })
    (fin : ∀ v h' tk, P (argBest bt (n - 1)) v →
      (∀ b o, b ∉ wr → b ≠ B → s.heap.get? b = some o → h'.get? b = some o) →
      R (.ok (.ret v)) { s with heap := h', toks := tk }) :
    codeAny (model prog w) A (.builtin "max.loop" ⟨[.ref it, .none, .ref B], dfKw dv⟩) R s := by
  have hBw : B ∉ wr := fun h => hB (W.sub _ h)
  have nm : (toString "max" ++ toString ".loop" : String) = "max.loop" := by decide
  refine codeAny_builtin PySem.F.entry_max_loop ?_
  rw [Around.under_plainId PySem.F.plain_max_loop _]
  show wpAny _ A.in1 (seqItems? (.ref B) >>= _) _ _ s
  refine wpAny_bind (wpAny_seqItems hO rfl ?_)
  show wpAny _ A.in1 (tryCatch (pyNext (.ref it)) _ >>= _) _ _ s
  refine wpAny_bind (wpAny_tryCatch (W.item 0 s _ _ hn hst fun v g tk hv hst' kp => ?_))
  have hO' := kp B _ hBw hO
  show wpAny _ A.in1 (updateSeq B (fun _ => #[v, v]) >>= _) _ _ _
  refine wpAny_bind (wpAny_updateSeq hO' rfl ?_)
  rw [nm]
  refine wpAny_pure ⟨plainId_quiet PySem.F.plain_max_loop _, mx_loop W bt hcmp B hB _ 0 _ v _ rfl hn ?_ hv (Heap.get?_update_self _ hO' rfl) ?_⟩
  · refine W.frame _ _ _ hst' fun b hbf o e => ?_
    rw [Heap.get?_update_other _ _ (fun z : B = b => hB (by rw [z]; exact hbf))]
    exact e
  · intro v' g' tk' hv' kp'
    refine fin v' g' tk' hv' fun b o h1 h2 e => kp' b o h1 h2 ?_
    rw [Heap.get?_update_other _ _ (Ne.symm h2)]
    exact kp b o h1 e

theorem mx_none (W : Walks prog w A.in1 it fp wr 0 P St) (B : Addr) (hB : B ∉ fp) {s : Shared} {c : Nat}
    (hst : St 0 s.heap)
    (hO : s.heap.get? B = some { cls := .type "list", dict := none, data := .seq #[] c, slots := #[] })
    (fin : ∀ h' tk, (∀ b o, b ∉ wr → b ≠ B → s.heap.get? b = some o → h'.get? b = some o) →
      R (.ok (.ret dv)) { s with heap := h', toks := tk }) :
    codeAny (model prog w) A (.builtin "max.loop" ⟨[.ref it, .none, .ref B], dfKw dv⟩) R s := by
  refine codeAny_builtin PySem.F.entry_max_loop ?_
  rw [Around.under_plainId PySem.F.plain_max_loop _]
  show wpAny _ A.in1 (seqItems? (.ref B) >>= _) _ _ s
  refine wpAny_bind (wpAny_seqItems hO rfl ?_)
  show wpAny _ A.in1 (tryCatch (pyNext (.ref it)) _ >>= _) _ _ s
  refine wpAny_bind (wpAny_tryCatch (W.done s _ _ hst fun g tk kp => ?_))
  refine wpAny_bind (wpAny_rule (wpAny_pure ?_))
  exact fin g tk fun b o h1 _ e => kp b o h1 e
end

section
variable {prog : Program} {w : World} {A : Around} {E : Value → Shared → Prop} {s : Shared} {l : Addr}
  {its : List Value} {ns : List Int} {Q : Value → Shared → Prop} {dv : Value}
theorem mx_call (hh : A.handled = none) (hl : s.heap.IsList l its.toArray) (hi : IntsAre its ns)
    (h0 : ns = [] → ∀ h' tk, (∀ b o, s.heap.get? b = some o → h'.get? b = some o) → Q dv { s with heap := h', toks := tk })
    (h1 : ∀ h' tk m t, (∀ b o, s.heap.get? b = some o → h'.get? b = some o) → m ∈ ns → (∀ a, a ∈ ns → a ≤ m) →
      Q (.int m t) { s with heap := h', toks := tk }) :
    wpAny (model prog w) A (call (.builtin "max") [.ref l] (dfKw dv)) Q E s := by
  obtain ⟨xs, e⟩ := hi.allInts.items
  have hn : numsOf (intItems xs).toList = ns := by
    rw [← e]
    exact hi.numsOf
  rw [nums_intItems] at hn
  subst hn
  rw [e] at hl
  have nm : (toString "max" ++ toString ".loop" : String) = "max.loop" := by decide
  refine kmk_tree PySem.F.kind_max PySem.F.plain_max PySem.F.entry_max (mx_args _ _) ?_
  show wpAny _ A.in1 (Builtin.Builtins.bindParams "max" ["key", "default"] 0 ⟨[], dfKw dv⟩ >>= _) _ _ s
  have bp : Builtin.Builtins.bindParams "max" ["key", "default"] 0 ⟨[], dfKw dv⟩ = pure [none, some dv] := rfl
  refine wpAny_bind (wpAny_of_eq bp ?_)
  refine wpAny_bind (wpAny_pure ?_)
  refine wpAny_bind (iter_intList hl fun s2 es st hfp hlI => ?_)
  subst es
  refine wpAny_bind (wpAny_newObj_type ?_)
  rw [nm]
  have W := Walks.list (prog := prog) (w := w) (A := A.in1) hh s.heap.objs.size l hlI (intItems xs)
  refine wpAny_pure ⟨plainId_quiet PySem.F.plain_max_loop _, ?_⟩
  refine (show codeAny (model prog w) A (.builtin "max.loop" ⟨[.ref _, .none, .ref _], dfKw dv⟩) _ _ from ?_)
  have sz : (intItems xs).size = xs.size := by simp [intItems]
  by_cases he : 0 < xs.size
  · refine mx_start W _ (CmpOf.ints_gt (numAt xs) (fun _ _ => intItems_at)) _ (fun hm => Nat.lt_irrefl _ (hfp _ hm)) (by rw [sz]; exact he)
      (W.frame _ _ _ st fun b _ o q => Heap.get?_push_of_some _ q) (Heap.get?_push_size _ rfl) fun v g tk hv kp => ?_
    rw [sz] at hv
    obtain ⟨t, rfl⟩ := intItems_at hv
    obtain ⟨m1, m2⟩ := argBest_gt (numAt xs) (xs.size - 1)
    refine h1 g tk _ t (old_kept fun b o q1 q2 => kp b o q1 (Nat.ne_of_lt (Heap.lt_size q2)) (Heap.get?_push_of_some _ q2)) ?_ fun a ha => ?_
    · rw [numAt_eq]
      exact PySem.getD_mem (by rw [List.length_map, Array.length_toList]; omega)
    · obtain ⟨j, hj, rfl⟩ := mem_getD ha
      rw [List.length_map, Array.length_toList] at hj
      rw [← numAt_eq]
      exact m2 j (by omega)
  · have z : (intItems xs).size = 0 := by omega
    have zx : xs = #[] := Array.eq_empty_of_size_eq_zero (by omega)
    rw [z] at W
    refine mx_none W _ (fun hm => Nat.lt_irrefl _ (hfp _ hm))
      (W.frame _ _ _ st fun b _ o q => Heap.get?_push_of_some _ q) (Heap.get?_push_size _ rfl) fun g tk kp => ?_
    refine h0 (by rw [zx]; rfl) g tk (old_kept fun b o q1 q2 => kp b o q1 (Nat.ne_of_lt (Heap.lt_size q2)) (Heap.get?_push_of_some _ q2))
end
/-- max(xs, default=d) -/
def rMaxD0 (K : PySem.W.Frag) : List V → List V → Hp → VK → Prop := fun vs zs H Q =>
  ∃ (a : Addr) (ns : List Int) (d : V), vs = [V.ref a] ∧ zs = [d] ∧ SqL K H a (ns.map V.int) ∧
    (ns = [] → Q d H) ∧ ∀ m, m ∈ ns → (∀ y, y ∈ ns → y ≤ m) → Q (.int m) H
theorem cr_maxDf {X : Cx} (hc : X.calm = true) : CallRK X (.builtin "max") [("default" : Str)] (rMaxD0 X.K) := by
  intro pins s σ H xs zs us ws Q I r rz h
  obtain ⟨a, ns, d, rfl, rfl, hs, q0, q1⟩ := h
  obtain ⟨its, rv, hl, _⟩ := I.list hs
  rw [Vals.ref1 r]
  obtain ⟨u, rfl, ru⟩ := vals1 rz
  exact mx_call (I.ok.hd hc) hl.isList rv.ints (fun e g tk kp => ⟨d, H, I.kept kp, ru, q0 e⟩)
    fun g tk m t kp m1 m2 => ⟨.int m, H, I.kept kp, ⟨t, rfl⟩, q1 m m1 m2⟩
end Pit

set_option Elab.async false
set_option linter.all false
set_option maxRecDepth 100000
set_option maxHeartbeats 4000000
/-! enumerate(t) over a tuple -/
namespace Pit
open PySem PySem.Spec PyProof.Rows L2
open AutoSeq1 (wpAny_loadPart')
abbrev tupItO (t : Addr) : Obj := { cls := .type "tuple_iterator", data := .fields #[.ref t, .int 0 0] }
abbrev enuO (it : Addr) : Obj :=
  { cls := .type "enumerate", data := .fields #[.none, .bool false, .ref it, rawInt 0, .none, .none] }
theorem en_new (t : Addr) (items : Array Value) (n : Nat) (dct : Option Addr) (sl : Array (Option Value)) :
    Meets (Builtin.«enumerate.__new__» ⟨[.type "enumerate", .ref t], []⟩) (fun _ R s =>
      s.heap.get? t = some { cls := .type "tuple", dict := dct, data := .seq items n, slots := sl } ∧
      R (.ok (.ret (.ref (s.heap.push (tupItO t)).objs.size)))
        { s with heap := (s.heap.push (tupItO t)).push (enuO s.heap.objs.size) }) :=
  .of_wp fun prog w A R s h => by
    obtain ⟨hp, g, d, tk, os⟩ := s
    obtain ⟨ht, h⟩ := h
    have sb := sub_enumerate
    have hT : Heap.IsTuple (Shared.heap ⟨hp, g, d, tk, os⟩) t items := ⟨_, ht, rfl, n, rfl⟩
    wp_walk using wpAny_loadPart' ht
    refine wpAny_stack_any fun st => wpAny_pure ?_
    split
    · rename_i c _ _ _ _ _
      cases (c == Value.type "enumerate")
      · wp_walk using wpAny_loadPart' ht, wpAny_pyIter_tuple hT
        exact ⟨_, rfl, h⟩
      · wp_walk using wpAny_loadPart' ht, wpAny_pyIter_tuple hT
        exact ⟨_, rfl, h⟩
    · wp_walk using wpAny_loadPart' ht, wpAny_pyIter_tuple hT
      exact ⟨_, rfl, h⟩
section
variable {prog : Program} {w : World} {A : Around} {E : Value → Shared → Prop} {s : Shared}
theorem en_call {t : Addr} {items : Array Value} {Q : Value → Shared → Prop} (hT : s.heap.IsTuple t items)
    (h : ∀ h', IsEnum h' (s.heap.objs.size + 1) s.heap.objs.size 0 .none → h'.IsTupleIter s.heap.objs.size t 0 →
      (∀ b o, s.heap.get? b = some o → h'.get? b = some o) → Q (.ref (s.heap.objs.size + 1)) { s with heap := h' }) :
    wpAny (model prog w) A (call (.type "enumerate") [.ref t]) Q E s := by
  obtain ⟨⟨c, dct, dt, sl⟩, ht, hc, n, hd⟩ := hT
  replace hc : c = .type "tuple" := hc
  replace hd : dt = .seq items n := hd
  subst hc hd
  have sz : (s.heap.push (tupItO t)).objs.size = s.heap.objs.size + 1 := Heap.size_push ..
  have he : IsEnum ((s.heap.push (tupItO t)).push (enuO s.heap.objs.size)) (s.heap.objs.size + 1) s.heap.objs.size 0 .none := by
    have q := Heap.get?_push_size (s.heap.push (tupItO t)) (o := enuO s.heap.objs.size) rfl
    rw [sz] at q
    exact q
  refine callType_new F.called_enumerate (by decide) (F.typeCall_enumerate_1 _) (F.newCall_enumerate_1 _)
    (fun obj => F.args_object_init_2 obj _) F.entry_enumerate_new (en_new t items n dct sl) ⟨ht, ?_⟩
  show _ ∧ _
  rw [sz]
  refine ⟨⟨_, he, rfl⟩, h _ he ⟨tupItO t, ?_, rfl, rfl⟩ fun b o x => ?_⟩
  · exact Heap.get?_push_of_some _ (Heap.get?_push_size _ rfl)
  · exact Heap.get?_push_of_some _ (Heap.get?_push_of_some _ x)

theorem en_step {e it t : Addr} {i : Nat} {items : Array Value} {x old : Value} {Q : Value → Shared → Prop}
    (he : IsEnum s.heap e it i old) (hit : s.heap.IsTupleIter it t i) (hT : s.heap.IsTuple t items)
    (hx : items[i]? = some x) (hne : e ≠ it)
    (hQ : ∀ h', IsEnumOut h' e it ((i : Int) + 1) x s.heap.objs.size → h'.IsTupleIter it t (i + 1) →
      h'.get? s.heap.objs.size = some { cls := .type "tuple", data := .seq #[.int i s.toks, x] } →
      (∀ b o, b ≠ e → b ≠ it → s.heap.get? b = some o → h'.get? b = some o) →
      Q (.ref s.heap.objs.size) { s with heap := h', toks := s.toks + 1 }) :
    wpAny (model prog w) A (Builtin.«enumerate.__next__» ⟨[.ref e], []⟩)
      (fun fin s' => ∃ v, fin = .done (.ret v) ∧ Q v s') E s := by
  obtain ⟨hp, g, d, tk, os⟩ := s
  have el : e < hp.objs.size := Heap.lt_size he
  show wpAny _ _ (field (.ref e) 2 >>= _) _ _ _
  refine wpAny_bind (wpAny_field he rfl (x := .ref it) rfl ?_)
  refine wpAny_bind (RZ.nextOf_tuple_item hit hT hx fun g1 it1 sb1 => ?_)
  replace sb1 : Heap.SameBut it hp g1 := sb1
  have e1 : IsEnum g1 e it i old := (sb1.2 e hne).trans he
  show wpAny _ _ (field (.ref e) 3 >>= _) _ _ ⟨g1, g, d, tk, os⟩
  refine wpAny_bind (wpAny_field e1 rfl (x := rawInt i) rfl ?_)
  show wpAny _ _ (field (.ref e) 4 >>= _) _ _ ⟨g1, g, d, tk, os⟩
  refine wpAny_bind (wpAny_field e1 rfl (x := .none) rfl ?_)
  show wpAny _ _ (mkInt i >>= _) _ _ ⟨g1, g, d, tk, os⟩
  refine wpAny_bind (wpAny_mkInt ?_)
  show wpAny _ _ (setField (.ref e) 3 (rawInt ((i : Int) + 1)) >>= _) _ _ ⟨g1, g, d, tk + 1, os⟩
  refine wpAny_bind (wpAny_setField_rec e1 (by simp) fun g2 e2 sb2 => ?_)
  replace sb2 : Heap.SameBut e g1 g2 := sb2
  replace e2 : IsEnum g2 e it ((i : Int) + 1) old := e2
  show wpAny _ _ (setField (.ref e) 4 .none >>= _) _ _ ⟨g2, g, d, tk + 1, os⟩
  refine wpAny_bind (wpAny_setField_rec e2 (by simp) fun g3 e3 sb3 => ?_)
  replace sb3 : Heap.SameBut e g2 g3 := sb3
  replace e3 : IsEnum g3 e it ((i : Int) + 1) old := e3
  show wpAny _ _ (newTuple [.int i tk, x] >>= _) _ _ ⟨g3, g, d, tk + 1, os⟩
  refine wpAny_bind (wpAny_newTuple ?_)
  have sz3 : g3.objs.size = hp.objs.size := by rw [sb3.1, sb2.1, sb1.1]
  have e4 : IsEnum (g3.push { cls := .type "tuple", data := .seq #[.int i tk, x] }) e it ((i : Int) + 1) old := Heap.get?_push_of_some _ e3
  have t4 : (g3.push { cls := .type "tuple", data := .seq #[.int i tk, x] }).get? hp.objs.size = some { cls := .type "tuple", data := .seq #[.int i tk, x] } := by
    rw [← sz3]
    exact Heap.get?_push_size _ rfl
  have k4 : ∀ b o, b ≠ e → b ≠ it → hp.get? b = some o → (g3.push { cls := .type "tuple", data := .seq #[.int i tk, x] }).get? b = some o :=
    fun b o z1 z2 q => Heap.get?_push_of_some _ (sb3.extBut b o z1 (sb2.extBut b o z1 (sb1.extBut b o z2 q)))
  have i4 : (g3.push { cls := .type "tuple", data := .seq #[.int i tk, x] }).IsTupleIter it t (i + 1) := by
    obtain ⟨o, ho, r⟩ := (it1.extBut sb2.extBut (Ne.symm hne)).extBut sb3.extBut (Ne.symm hne)
    exact ⟨o, Heap.get?_push_of_some _ ho, r⟩
  generalize (g3.push { cls := .type "tuple", data := .seq #[.int i tk, x] }) = g4 at e4 t4 k4 i4 ⊢
  show wpAny _ _ (Builtin.SmallTypes.ownedTupleIsFree (.ref e) >>= _) _ _ ⟨g4, g, d, tk + 1, os⟩
  rw [sz3]
  clear e3 sb3 e2 sb2 e1 sb1 it1 sz3 g3 g2 g1
  refine wpAny_bind ?_
  unfold Builtin.SmallTypes.ownedTupleIsFree
  refine wpAny_bind (wpAny_field e4 rfl (x := .none) rfl (wpAny_pure ?_))
  simp only [if_true]
  refine wpAny_bind (wpAny_rule ?_)
  refine wpAny_bind (wpAny_field e4 rfl (x := old) rfl ?_)
  refine wpAny_bind (wpAny_setField_rec e4 (by simp) fun g5 e5 sb5 => ?_)
  replace sb5 : Heap.SameBut e g4 g5 := sb5
  replace e5 : IsEnum g5 e it ((i : Int) + 1) x := e5
  show wpAny _ _ (Builtin.SmallTypes.ownedTupleHandOut (.ref e) (.ref hp.objs.size) >>= _) _ _ ⟨g5, g, d, tk + 1, os⟩
  refine wpAny_bind ?_
  unfold Builtin.SmallTypes.ownedTupleHandOut
  refine wpAny_bind (wpAny_setField_rec e5 (by simp) fun g6 e6 sb6 => ?_)
  replace sb6 : Heap.SameBut e g5 g6 := sb6
  replace e6 : IsEnumOut g6 e it ((i : Int) + 1) x hp.objs.size := e6
  refine wpAny_setField_rec e6 (by simp) fun g7 e7 sb7 => ?_
  replace sb7 : Heap.SameBut e g6 g7 := sb7
  replace e7 : IsEnumOut g7 e it ((i : Int) + 1) x hp.objs.size := e7
  refine wpAny_bind (wpAny_letGo (wpAny_pure ⟨_, rfl, hQ g7 e7 ?_ ?_ ?_⟩))
  · have a1 := i4.extBut sb5.extBut (Ne.symm hne)
    have a2 := a1.extBut sb6.extBut (Ne.symm hne)
    exact a2.extBut sb7.extBut (Ne.symm hne)
  · have nz := Nat.ne_of_gt el
    exact sb7.extBut _ _ nz (sb6.extBut _ _ nz (sb5.extBut _ _ nz t4))
  · intro b o z1 z2 q
    exact sb7.extBut b o z1 (sb6.extBut b o z1 (sb5.extBut b o z1 (k4 b o z1 z2 q)))

theorem en_item {e it t : Addr} {i : Nat} {items : Array Value} {x old : Value} {Q : Option Value → Shared → Prop}
    (he : IsEnum s.heap e it i old) (hit : s.heap.IsTupleIter it t i) (hT : s.heap.IsTuple t items)
    (hx : items[i]? = some x) (hne : e ≠ it)
    (hQ : ∀ h', IsEnumOut h' e it ((i : Int) + 1) x s.heap.objs.size → h'.IsTupleIter it t (i + 1) →
      h'.get? s.heap.objs.size = some { cls := .type "tuple", data := .seq #[.int i s.toks, x] } →
      (∀ b o, b ≠ e → b ≠ it → s.heap.get? b = some o → h'.get? b = some o) →
      Q (some (.ref s.heap.objs.size)) { s with heap := h', toks := s.toks + 1 }) :
    wpAny (model prog w) A (pyNext (.ref e)) Q E s := by
  have ty : s.TypeIs (.ref e) "enumerate" := ⟨_, he, rfl⟩
  unfold pyNext
  refine wpAny_bind (wpAny_attempt (wpAny_callSpecial?_slot (name := Str.ofString "__next__") ty F.slot_enumerate_next ?_))
  refine wpAny_call_entry F.slot_enumerate_next ty F.entry_enumerate_next ?_ (F.args_enumerate_next_1 _)
  exact en_step he hit hT hx hne fun h' a b c k => wpAny_pure (hQ h' a b c k)

theorem en_end {e it t : Addr} {i : Nat} {items : Array Value} {old : Value} {Q : Option Value → Shared → Prop}
    (hh : A.handled = none) (he : IsEnum s.heap e it i old) (hit : s.heap.IsTupleIter it t i)
    (hT : s.heap.IsTuple t items) (hx : items[i]? = none)
    (hQ : ∀ h', Heap.ExtBut it s.heap h' → Q none { s with heap := h' }) :
    wpAny (model prog w) A (pyNext (.ref e)) Q E s := by
  have ty : s.TypeIs (.ref e) "enumerate" := ⟨_, he, rfl⟩
  unfold pyNext
  refine wpAny_bind (wpAny_attempt (wpAny_callSpecial?_slot (name := Str.ofString "__next__") ty F.slot_enumerate_next ?_))
  refine wpAny_call_entry F.slot_enumerate_next ty F.entry_enumerate_next ?_ (F.args_enumerate_next_1 _)
  show wpAny _ _ (field (.ref e) 2 >>= _) _ _ _
  refine wpAny_bind (wpAny_field he rfl (x := .ref it) rfl ?_)
  refine wpAny_bind (RZ.nextOf_tuple_end hh hit hT hx fun h' ex xt ho => ?_)
  obtain ⟨o, h1, h2⟩ := ho
  refine wpAny_bind (wpAny_isInstance (T := "StopIteration") (b := true) ⟨o, h1, h2⟩ isSubtype_stop ?_)
  exact wpAny_pure (hQ _ xt)
end
/-- the tuple at a, each item in a new pair with its place -/
def Itet (K : PySem.W.Frag) (a : Addr) : It :=
  ⟨fun i H => ∃ (xs : List V) (x : V), SqT K H a xs ∧ xs[i]? = some x,
   fun i H v H' => ∃ T x, v = .ref T ∧ H T = none ∧ H' = upd H T (.tup [.int (i : Nat), x]) ∧ ∀ xs, SqT K H a xs → xs[i]? = some x,
   fun i H => ∃ xs : List V, SqT K H a xs ∧ xs.length ≤ i⟩
theorem turn_enT {P : Program} {w : World} {K : PySem.W.Frag} {elts : List Expr} {kk : Nat} {tpos : Pos} (a e it : Addr) :
    Turn P w K (.Tuple elts kk tpos) (Itet K a) [e, it] e
      (fun i h => (∃ old, IsEnum h e it ((i : Nat) : Int) old) ∧ h.IsTupleIter it a i ∧ e ≠ it) where
  mem := by simp
  obj := fun i h st b hb => by
    obtain ⟨⟨old, he⟩, ⟨o, ho, hc, hd⟩, _⟩ := st
    rcases (by simpa using hb : b = e ∨ b = it) with z | z
    · subst z
      exact ⟨_, he, fun v q => nomatch q⟩
    · subst z
      refine ⟨o, ho, fun v q => ?_⟩
      rw [hd] at q
      cases q
  keep := fun i h h' st k => by
    obtain ⟨⟨old, he⟩, hi, hne⟩ := st
    exact ⟨⟨old, k e (by simp) _ he⟩, hi.at fun o q => k it (by simp) o q, hne⟩
  item := by
    intro X hP hw hK hc i pins s σ H E I hf st hg
    subst hP hw hK
    obtain ⟨⟨old, he⟩, hit, hne⟩ := st
    obtain ⟨xs, x, hq, hx⟩ := hg
    obtain ⟨its, rv, p, hz⟩ := I.tuple hq
    obtain ⟨u, hu, ru⟩ := rv.get hx
    have el : e < s.heap.objs.size := Heap.lt_size he
    have il : it < s.heap.objs.size := by
      obtain ⟨_, q, _⟩ := hit
      exact Heap.lt_size q
    refine en_item he hit (show s.heap.IsTuple a its.toArray from p) (x := u) (by simpa using hu) hne fun h' ho hit' hT hk => ?_
    refine ⟨_, rfl, wpAny_letOwnedTupleGo_enum (s := { s with heap := h', toks := s.toks + 1 }) ho fun h'' he' sb => ?_⟩
    have hT2 := (sb.2 _ (Nat.ne_of_gt el)).trans hT
    have new : ObjOk X.prog X.w (upd H s.heap.objs.size (.tup [.int (i : Nat), x])) h'' s.heap.objs.size (.tup [.int (i : Nat), x]) := by
      refine ⟨by show 2 ≤ sizeLine; decide, [.int i s.toks, u], .cons ⟨_, rfl⟩ (.cons ru .nil), ?_⟩
      exact ⟨_, hT2, rfl, _, rfl⟩
    have I1 : Inv X pins σ (upd H s.heap.objs.size (.tup [.int (i : Nat), x])) { s with heap := h'', toks := s.toks + 1 } := by
      refine I.turnedNew (ch := [e, it]) (fun b ob hb q => ?_) hf (Nat.le_refl _) new
      have n1 : b ≠ e := fun z => hb (by simp [z])
      have n2 : b ≠ it := fun z => hb (by simp [z])
      exact (sb.2 b n1).trans (hk b ob n1 n2 q)
    refine ⟨.ref s.heap.objs.size, _, I1, rfl, ⟨_, x, rfl, I.hok.fresh (Nat.le_refl _), rfl, fun ys hy => ?_⟩, ⟨⟨u, ?_⟩, ?_, hne⟩, fun b hb => ?_⟩
    · rw [I.tuple_inj hy hq]
      exact hx
    · have e1 : ((i + 1 : Nat) : Int) = (i : Int) + 1 := by omega
      rw [e1]
      exact he'
    · exact hit'.at fun o q => (sb.2 it (Ne.symm hne)).trans q
    · have lt : b < s.heap.objs.size := by
        rcases (by simpa using hb : b = e ∨ b = it) with z | z
        · subst z; exact el
        · subst z; exact il
      rw [upd_ne (Nat.ne_of_lt lt)]
      exact (hf b hb).1
  done := by
    intro X hP hw hK hc i pins s σ H E I hf st hg
    subst hP hw hK
    obtain ⟨⟨old, he⟩, hit, hne⟩ := st
    obtain ⟨xs, hq, hx⟩ := hg
    obtain ⟨its, rv, p, hz⟩ := I.tuple hq
    obtain ⟨f0, f1, f2, f3, f4, f5⟩ := hf it (by simp)
    have hl := rv.length
    refine en_end (I.ok.hd hc) he hit (show s.heap.IsTuple a its.toArray from p) (by simp; omega) fun h' eb => ⟨rfl, ?_⟩
    exact I.turned (t' := s.toks) (fun b o hb q => eb b o hb q) f0 f1 f3 f4 f5
  self := fun A i s Q E st h => by
    obtain ⟨⟨_, he⟩, _⟩ := st
    exact wpAny_pyIter_enum he h
def iEnumT (K : PySem.W.Frag) (ta : TA) : TI := fun σ H R => ta σ H fun vs H1 => ∃ a xs, vs = [.ref a] ∧ SqT K H1 a xs ∧ R (Itet K a) H1
theorem pi_enumT {X : Cx} {e : Expr} {ta : TA} {p pos tpos : Pos} {elts : List Expr} {kk : Nat} (hg : Gl X "enumerate")
    (hm : X.mg "enumerate" = none) (ha : PA X [e] ta) (hs : starEach [e] X.env = [(false, eval e X.env)] := by rfl) :
    PI X (.Tuple elts kk tpos) (.Call (.Name "enumerate" p) [e] [] pos) (iEnumT X.K ta) := by
  refine ⟨fun pins s σ H R I h => ?_⟩
  refine Call_ (ld_blt I hg hm boot_enumerate (PyProof.Rows.callWith_type1 (thn (ha.run pos pins s σ H _ I h) fun us s1 hh => ?_) hs rfl))
  obtain ⟨vs, H1, I1, r1, a, xs, ex, hq, q⟩ := hh
  subst ex
  obtain ⟨u, rfl, ru⟩ := vals1 r1
  cases ru
  obtain ⟨its, rv, p', hz⟩ := I1.tuple hq
  refine en_call (show s1.heap.IsTuple a its.toArray from p') fun h' he hit hk => wpAny_pyIter_enum he ?_
  have I2 : Inv X pins σ H1 { s1 with heap := h' } := I1.kept (t' := s1.toks) hk
  refine ⟨s1.heap.objs.size + 1, [s1.heap.objs.size + 1, s1.heap.objs.size], _, _, H1, rfl, I2,
    turn_enT a (s1.heap.objs.size + 1) s1.heap.objs.size, ⟨⟨.none, he⟩, hit, Nat.succ_ne_self _⟩, fun b hb => ?_, q⟩
  have le : s1.heap.objs.size ≤ b := by
    rcases (by simpa using hb : b = s1.heap.objs.size + 1 ∨ b = s1.heap.objs.size) with z | z
    · rw [z]; exact Nat.le_add_right _ _
    · rw [z]; exact Nat.le_refl _
  exact I1.fpOk le (I1.hok.fresh le)
theorem walk_enT {K : PySem.W.Frag} {a : Addr} {xs : List V} :
    Walk (Itet K a) xs.length (fun H => SqT K H a xs) (YPair (fun i => some (.int (i : Nat))) (fun i => xs[i]?)) := by
  refine ⟨fun i _ hi q => ⟨xs, xs[i], q, by simp [hi]⟩, fun _ q => ⟨xs, q, Nat.le_refl _⟩, fun i H v H' _ q y => ?_⟩
  obtain ⟨T, x, h1, h2, h3, h4⟩ := y
  exact ⟨T, .int (i : Nat), x, h1, h2, h3, rfl, h4 xs q⟩
end Pit

set_option Elab.async false
set_option linter.all false
set_option maxRecDepth 100000
set_option maxHeartbeats 4000000
/-! unions of rules, so that a derivation follows the text alone; frames; the mathematics of covers -/
namespace Pit
open PySem PySem.Spec PyProof.Rows L2
section
variable {X : Cx}
theorem orOp {f : Value → Value → Sem Value} {r r' : R2} (h : OpR X f r) (h' : OpR X f r') :
    OpR X f (fun x y H Q => r x y H Q ∨ r' x y H Q) := fun pins s σ H x y v u Q I rx ry q =>
  q.elim (h pins s σ H x y v u Q I rx ry) (h' pins s σ H x y v u Q I rx ry)
theorem op_addU : OpR X (binaryOp .Add) (fun x y H Q => (rI0 fun i j => .int (i + j)) x y H Q ∨ rCat x y H Q ∨ rCatA X.K x y H Q) :=
  orOp op_add (orOp op_cat op_catA)
theorem op_eqU (hu : X.A.units + 64 < cLine) : OpR X (compareOp .Eq) (fun x y H Q => rEq x y H Q ∨ rEqD X.K x y H Q) := orOp op_eq (op_eqD hu)
theorem op_neU (hu : X.A.units + 64 < cLine) : OpR X (compareOp .NotEq) (fun x y H Q => rNe x y H Q ∨ rNeD X.K x y H Q) := orOp op_ne (op_neD hu)
theorem sl_U : L2.SlR X (fun x lo hi H Q => rSlL X.K x lo hi H Q ∨ rSlA X.K x lo hi H Q) := L2.SlR.or sl_list sl_tupA
theorem pi_seq {tg l : Expr} {tl : TE} (hl : PE X l tl) : PI X tg l (fun σ H R => iList X.K tl σ H R ∨ iTup X.K tl σ H R) :=
  ⟨fun pins s σ H R I h => h.elim ((pi_list hl).run pins s σ H R I) ((pi_tup hl).run pins s σ H R I)⟩
theorem pTy {n : String} {x : Str} {pos : Pos} (hm : X.mg x = none) (hv : bootBuiltins x = some (.type n) := by decide +kernel) (hg : Gl X x := by rfl)
    (hn : x ≠ "__name__" := by decide) (hd : (x == ("__debug__" : Str)) = false := by decide) : PE X (.Name x pos) (tC (.ty n)) :=
  pe_bltn hg hm hv rfl hn hd
theorem hu64 {A : Around} {k : Nat} (hr : Room k A) : A.units + 64 < cLine := by have := hr.un; omega
end
/-! ### frames -/
/-- all but what stands at r stays -/
def Fx (r : Addr) (H H' : Hp) : Prop := ∀ b o, b ≠ r → H b = some o → H' b = some o
theorem Fx.refl (r : Addr) (H : Hp) : Fx r H H := fun _ _ _ e => e
theorem Fx.trans {r : Addr} {H H1 H2 : Hp} (a : Fx r H H1) (b : Fx r H1 H2) : Fx r H H2 := fun c o n e => b c o n (a c o n e)
theorem same_fx {H H' : Hp} (r : Addr) (s : Same H H') : Fx r H H' := fun b o _ e => s b o e
theorem fx_upd {r : Addr} {H : Hp} {o : HO} : Fx r H (upd H r o) := fun b o' n e => by rw [upd_ne n]; exact e
/-- a new object beside -/
theorem same_new {H : Hp} {p : Addr} {o : HO} (h : H p = none) : Same H (upd H p o) := fun b o' e => by
  rw [upd_ne (ne_of_none e h)]
  exact e
theorem same_upd {H H' : Hp} {p : Addr} {o : HO} (s : Same H H') (h : H p = none) : Same H (upd H' p o) := fun b o' e => by
  rw [upd_ne (ne_of_none e h)]
  exact s b o' e
theorem same_free {H H' : Hp} {p : Addr} (s : Same H H') (h : H' p = none) : H p = none := Same.free s h
theorem same_seqT {K : PySem.W.Frag} {H H' : Hp} {a : Addr} {xs : List V} (e : Same H H') (h : SqT K H a xs) : SqT K H' a xs := by
  rcases h with (h | ⟨o, h⟩) | h
  · exact .inl (.inl (e _ _ h))
  · exact .inl (.inr ⟨o, e _ _ h⟩)
  · exact .inr h
theorem sqT {K : PySem.W.Frag} {H : Hp} {a : Addr} {xs : List V} (h : H a = some (.tup xs)) : SqT K H a xs := .inl (.inl h)
theorem sqL {K : PySem.W.Frag} {H : Hp} {a : Addr} {xs : List V} (h : H a = some (.lst xs)) : SqL K H a xs := .inl (.inl h)
/-! ### ints of naturals -/
abbrev ni (n : Nat) : V := .int (n : Int)
abbrev nis (l : List Nat) : List V := l.map ni
theorem nis_len (l : List Nat) : (nis l).length = l.length := List.length_map _
theorem nis_get {l : List Nat} {i : Nat} {x : V} (h : (nis l)[i]? = some x) : ∃ n, l[i]? = some n ∧ x = ni n := by
  rw [List.getElem?_map] at h
  cases e : l[i]? with
  | none => rw [e] at h; cases h
  | some n => rw [e] at h; exact ⟨n, rfl, (Option.some.inj h).symm⟩
theorem nis_app (l m : List Nat) : nis (l ++ m) = nis l ++ nis m := List.map_append
/-! ### masks, by naturals -/
def maskN (l : List Nat) : Nat := l.foldl (fun m b => m ||| 2 ^ b) 0
theorem maskFold (l : List Nat) : ∀ (m b : Nat), (l.foldl (fun m b => m ||| 2 ^ b) m).testBit b = (m.testBit b || decide (b ∈ l)) := by
  induction l with
  | nil => intro m b; simp
  | cons a l ih =>
    intro m b
    rw [List.foldl_cons, ih, Nat.testBit_or, Nat.testBit_two_pow]
    by_cases e : a = b
    · subst e; simp
    · have e' : ¬ b = a := fun z => e z.symm
      simp [e, e']
theorem maskN_bit (l : List Nat) (b : Nat) : (maskN l).testBit b = decide (b ∈ l) := by
  unfold maskN
  rw [maskFold]
  simp
theorem maskN_snoc (l : List Nat) (a : Nat) : maskN (l ++ [a]) = maskN l ||| 2 ^ a := by
  unfold maskN
  rw [List.foldl_append]
  rfl
theorem bits_lt {m n : Nat} (h : ∀ b, m.testBit b = true → b < n) : m < 2 ^ n := by
  refine Nat.lt_pow_two_of_testBit m fun i hi => ?_
  cases e : m.testBit i with
  | false => rfl
  | true => exact absurd (h i e) (by omega)
theorem maskN_lt {l : List Nat} {n : Nat} (h : ∀ x ∈ l, x < n) : maskN l < 2 ^ n := bits_lt fun b hb => by
  rw [maskN_bit] at hb
  exact h b (of_decide_eq_true hb)
/-- the lot of a mask -/
def bitsN (m : Nat) : List Nat := (List.range (if m = 0 then 0 else m.log2 + 1)).filter fun b => m.testBit b
theorem filter_range_more (p : Nat → Bool) {a : Nat} (h : ∀ b, p b = true → b < a) : ∀ n, a ≤ n → (List.range n).filter p = (List.range a).filter p := by
  intro n hn
  induction n with
  | zero =>
    have z : a = 0 := by omega
    subst z; rfl
  | succ n ih =>
    by_cases e : a = n + 1
    · subst e; rfl
    · rw [List.range_succ, List.filter_append, ih (by omega)]
      have : p n = false := by
        cases q : p n with
        | false => rfl
        | true => exact absurd (h n q) (by omega)
      simp [this]
theorem bitsN_range {m n : Nat} (h : m < 2 ^ n) : bitsN m = (List.range n).filter fun b => m.testBit b := by
  unfold bitsN
  by_cases z : m = 0
  · subst z
    simp
  · rw [if_neg z]
    have hb : ∀ b, m.testBit b = true → b < m.log2 + 1 := fun b hb => by
      have h1 := Nat.ge_two_pow_of_testBit hb
      have h2 := (Nat.le_log2 z).mpr h1
      omega
    have hl : m.log2 + 1 ≤ n := by
      have := (Nat.log2_lt z).mpr h
      omega
    exact (filter_range_more _ hb n hl).symm
end Pit

set_option Elab.async false
set_option linter.all false
set_option maxRecDepth 100000
set_option maxHeartbeats 4000000
/-! a def as callers know it; the promises of the defs that many laws share -/
namespace Pit
open PySem PySem.Spec PyProof.Rows L2
/-- the def x stands at f and keeps sp -/
structure Df (P : Program) (w : World) (K : PySem.W.Frag) (mg : Str → Option Value) (base : Heap) (k : Nat) (x : Str) (ps : List Str) (sp : Sp) (f : Addr) (fd : FuncData) : Prop where
  G : FnOk P w K mg base CX0 k f fd ps sp
  g : mg x = some (.ref f)
  k : PySem.W.keepIn K (.ref f) = true
  b : Binds K fd ps []
/-- the class x stands at C, its __init__ at f keeps sp -/
structure Dc (P : Program) (w : World) (K : PySem.W.Frag) (mg : Str → Option Value) (base : Heap) (k : Nat) (x : Str) (ps : List Str) (sp : Sp) (C f : Addr) (fd : FuncData) : Prop where
  M : Mk K C f
  G : FnOk P w K mg base CX0 k f fd ps sp
  g : mg x = some (.ref C)
  b : Binds K fd ps []
section
variable {X : Cx} {k j : Nat} {x : Str} {ps : List Str} {sp : Sp} {f C : Addr} {fd : FuncData} {e : Expr} {es : List Expr} {t : TA} {p pos : Pos}
theorem pe_callD (D : Df X.prog X.w X.K X.mg X.base k x ps sp f fd) (hr : Room k X.A) (ha : PA X (e :: es) t) (hg : Gl X x := by rfl) (hdb : (x == ("__debug__" : Str)) = false := by decide)
    (he : starEach (e :: es) X.env = (false, eval e X.env) :: starEach es X.env := by rfl) (hpl : (backTo pos (starEach es X.env)).any (·.1) = false := by rfl) :
    PE X (.Call (.Name x p) (e :: es) [] pos) (tCall sp [] E0 t) := pe_call D.G hr hg D.g D.k D.b .nil pass0 ha hdb he hpl
theorem pe_makeD (D : Dc X.prog X.w X.K X.mg X.base k x ps sp C f fd) (hr : Room (k + 1) X.A) (ha : PA X (e :: es) t) (hg : Gl X x := by rfl) (hdb : (x == ("__debug__" : Str)) = false := by decide)
    (he : starEach (e :: es) X.env = (false, eval e X.env) :: starEach es X.env := by rfl) (hpl : (backTo pos (starEach es X.env)).any (·.1) = false := by rfl) :
    PE X (.Call (.Name x p) (e :: es) [] pos) (tMake C sp [] E0 t) := pe_make D.M D.G hr hg D.g D.b .nil pass0 ha hdb he hpl
end
/-- the built-in names are still the built-in ones -/
structure Bl (mg : Str → Option Value) : Prop where
  b_isinstance : mg "isinstance" = none
  b_int : mg "int" = none
  b_bool : mg "bool" = none
  b_tuple : mg "tuple" = none
  b_list : mg "list" = none
  b_str : mg "str" = none
  b_len : mg "len" = none
  b_all : mg "all" = none
  b_zip : mg "zip" = none
  b_range : mg "range" = none
  b_enumerate : mg "enumerate" = none
  b_max : mg "max" = none
  b_sorted : mg "sorted" = none
  b_sum : mg "sum" = none
  b_min : mg "min" = none
  b_any : mg "any" = none
/-- whether a value is an integer (no bool) -/
def Whole (K : PySem.W.Frag) (H : Hp) (v : V) (b : Bool) : Prop :=
  (∃ i : Int, v = .int i ∧ b = true) ∨ (∃ t : String, TyX K H v (.type t) ∧ t ∈ ["bool", "NoneType", "str", "tuple", "list", "dict"] ∧ b = false)
/-- a value between two bounds -/
def betw (v : V) (lo hi : Int) : Bool := match v with
  | .int i => decide (lo ≤ i) && decide (i ≤ hi)
  | _ => false
def spWhole (K : PySem.W.Frag) : Sp := fun vs H Q _ => ∃ (v : V) (b : Bool), vs = [v] ∧ Whole K H v b ∧ Q (.bl b) H
def spBetween (K : PySem.W.Frag) : Sp := fun vs H Q _ => ∃ (v : V) (b : Bool) (lo hi : Int), vs = [v, .int lo, .int hi] ∧ Whole K H v b ∧ Q (.bl (betw v lo hi)) H
/-- each item greater than the one ahead -/
def rising : List Int → Bool
  | a :: b :: r => decide (a < b) && rising (b :: r)
  | _ => true
def spRising (K : PySem.W.Frag) : Sp := fun vs H Q _ => ∃ (a : Addr) (l : List Int), vs = [.ref a] ∧ H a = some (.tup (l.map V.int)) ∧ l.length ≤ 1000 ∧ ∀ H', Same H H' → Q (.bl (rising l)) H'
/-- a lot below many: what is_lot_below tells -/
def lotB (xs : List V) (many : Int) : Bool := xs.all (fun v => betw v 0 (many - 1)) && rising (xs.map fun v => match v with | .int i => i | _ => 0)
def spLotBelow (K : PySem.W.Frag) : Sp := fun vs H Q _ => ∃ (v : V) (many : Int), vs = [v, .int many] ∧
  ((∃ (a : Addr) (xs : List V), v = .ref a ∧ H a = some (.tup xs) ∧ xs.length ≤ 1000 ∧ (∀ x ∈ xs, ∃ b, Whole K H x b) ∧ ∀ H', Same H H' → Q (.bl (lotB xs many)) H') ∨
   (∃ t : String, TyX K H v (.type t) ∧ t ∈ ["int", "bool", "NoneType", "str", "list", "dict"] ∧ ∀ H', Same H H' → Q (.bl false) H'))
def spMaskOf (K : PySem.W.Frag) : Sp := fun vs H Q _ => ∃ (a : Addr) (l : List Nat), vs = [.ref a] ∧ H a = some (.tup (nis l)) ∧ (∀ x ∈ l, x ≤ 100) ∧ Q (ni (maskN l)) H
def spLotOf : Sp := fun vs H Q _ => ∃ m : Nat, vs = [ni m] ∧ m < 2 ^ 100 ∧ ∀ (p : Addr) (H' : Hp), Same H H' → H p = none → H' p = some (.tup (nis (bitsN m))) → Q (.ref p) H'
/-- covers: a tuple of tuples of naturals -/
def CovAt (H : Hp) (p : Addr) (cs : List (List Nat)) : Prop :=
  ∃ as : List Addr, H p = some (.tup (as.map V.ref)) ∧ as.length = cs.length ∧ ∀ (i : Nat) (a : Addr) (c : List Nat), as[i]? = some a → cs[i]? = some c → H a = some (.tup (nis c))
/-- each block needs first lesser blocks, ascending -/
def Valid (cs : List (List Nat)) : Prop := ∀ (i : Nat) (c : List Nat), cs[i]? = some c → c.Pairwise (· < ·) ∧ ∀ x ∈ c, x < i
theorem CovAt.same {H H' : Hp} {p : Addr} {cs : List (List Nat)} (c : CovAt H p cs) (s : Same H H') : CovAt H' p cs := by
  obtain ⟨as, h1, h2, h3⟩ := c
  exact ⟨as, s _ _ h1, h2, fun i a c e1 e2 => s _ _ (h3 i a c e1 e2)⟩
theorem CovAt.fx {H H' : Hp} {r p : Addr} {cs : List (List Nat)} (c : CovAt H p cs) {xs : List V} (hr : H r = some (.lst xs)) (s : Fx r H H') : CovAt H' p cs := by
  obtain ⟨as, h1, h2, h3⟩ := c
  have ne : ∀ {q ys}, H q = some (.tup ys) → q ≠ r := fun e => ne_of e hr (by intro z; cases z)
  exact ⟨as, s _ _ (ne h1) h1, h2, fun i a c e1 e2 => s _ _ (ne (h3 i a c e1 e2)) (h3 i a c e1 e2)⟩
theorem CovAt.get {H : Hp} {p : Addr} {cs : List (List Nat)} (c : CovAt H p cs) : ∃ xs, H p = some (.tup xs) ∧ xs.length = cs.length ∧
    ∀ (i : Nat) (c : List Nat), cs[i]? = some c → ∃ a, xs[i]? = some (.ref a) ∧ H a = some (.tup (nis c)) := by
  obtain ⟨as, h1, h2, h3⟩ := c
  refine ⟨_, h1, by rw [List.length_map, h2], fun i c e => ?_⟩
  have hl : i < as.length := by rw [h2]; exact (List.getElem?_eq_some_iff.mp e).1
  have e1 : as[i]? = some as[i] := List.getElem?_eq_getElem hl
  exact ⟨as[i], by rw [List.getElem?_map, e1]; rfl, h3 i _ c e1 e⟩
theorem CovAt.item {H : Hp} {p : Addr} {cs : List (List Nat)} {xs : List V} (c : CovAt H p cs) (h : H p = some (.tup xs)) {i : Nat} {x : V} (e : xs[i]? = some x) :
    ∃ (a : Addr) (c : List Nat), x = .ref a ∧ cs[i]? = some c ∧ H a = some (.tup (nis c)) := by
  obtain ⟨as, h1, h2, h3⟩ := c
  rw [h] at h1
  cases h1
  rw [List.getElem?_map] at e
  cases q : as[i]? with
  | none => rw [q] at e; cases e
  | some a =>
    rw [q] at e
    cases e
    have hl : i < cs.length := by rw [← h2]; exact (List.getElem?_eq_some_iff.mp q).1
    exact ⟨a, cs[i], rfl, List.getElem?_eq_getElem hl, h3 i a _ q (List.getElem?_eq_getElem hl)⟩
/-- the masks of all that each block needs -/
def needStep (acc : List Nat) (c : List Nat) : List Nat := acc ++ [c.foldl (fun m f => m ||| acc.getD f 0) (maskN c)]
def needN (cs : List (List Nat)) : List Nat := cs.foldl needStep []
def levStep (acc : List Nat) (c : List Nat) : List Nat := acc ++ [c.foldl (fun m f => max m (acc.getD f 0 + 1)) 0]
def levN (cs : List (List Nat)) : List Nat := cs.foldl levStep []
def spNeed : Sp := fun vs H Q _ => ∃ (p : Addr) (cs : List (List Nat)), vs = [.ref p] ∧ CovAt H p cs ∧ Valid cs ∧ cs.length ≤ 10 ∧ ∀ (q : Addr) (H' : Hp), Same H H' → H q = none → H' q = some (.lst (nis (needN cs))) → Q (.ref q) H'
def flds (p : Addr) : List (Str × V) := [(("covers" : Str), .ref p)]
/-- a ground at g -/
def GrAt (C : Addr) (H : Hp) (g p : Addr) (cs : List (List Nat)) : Prop := (∃ dx, H g = some (.ins C dx (flds p))) ∧ CovAt H p cs ∧ Valid cs ∧ 1 ≤ cs.length ∧ cs.length ≤ 10
theorem GrAt.same {C : Addr} {H H' : Hp} {g p : Addr} {cs : List (List Nat)} (c : GrAt C H g p cs) (s : Same H H') : GrAt C H' g p cs := by
  obtain ⟨⟨dx, h1⟩, h2, h3⟩ := c
  exact ⟨⟨dx, s _ _ h1⟩, h2.same s, h3⟩
theorem GrAt.fx {C : Addr} {H H' : Hp} {r g p : Addr} {cs : List (List Nat)} (c : GrAt C H g p cs) {xs : List V} (hr : H r = some (.lst xs)) (s : Fx r H H') : GrAt C H' g p cs := by
  obtain ⟨⟨dx, h1⟩, h2, h3⟩ := c
  exact ⟨⟨dx, s _ _ (ne_of h1 hr (by intro z; cases z)) h1⟩, h2.fx hr s, h3⟩
def spCkCovers : Sp := fun vs H Q _ => ∃ (p : Addr) (cs : List (List Nat)), vs = [.ref p] ∧ CovAt H p cs ∧ Valid cs ∧ 1 ≤ cs.length ∧ cs.length ≤ 10 ∧ ∀ H', Same H H' → Q .non H'
def spGround (C : Addr) : Sp := fun vs H Q _ => ∃ (g dx p : Addr) (cs : List (List Nat)), vs = [.ref g, .ref p] ∧ H g = some (.ins C dx []) ∧ CovAt H p cs ∧ Valid cs ∧ 1 ≤ cs.length ∧ cs.length ≤ 10 ∧
  ∀ H' : Hp, (∀ (b : Addr) (o : HO), b ≠ g → H b = some o → H' b = some o) → GrAt C H' g p cs → Q .non H'
def spCkGround (C : Addr) : Sp := fun vs H Q _ => ∃ (g p : Addr) (cs : List (List Nat)), vs = [.ref g] ∧ GrAt C H g p cs ∧ Q .non H
def spIsBlock (C : Addr) : Sp := fun vs H Q _ => ∃ (g p : Addr) (cs : List (List Nat)) (b : Int), vs = [.ref g, .int b] ∧ GrAt C H g p cs ∧ Q (.bl (decide (0 ≤ b) && decide (b ≤ (cs.length : Int) - 1))) H
def spCkBlock (C : Addr) : Sp := fun vs H Q _ => ∃ (g p : Addr) (cs : List (List Nat)) (b : Nat), vs = [.ref g, ni b] ∧ GrAt C H g p cs ∧ b < cs.length ∧ Q .non H
def spCover (C : Addr) : Sp := fun vs H Q _ => ∃ (g p : Addr) (cs : List (List Nat)) (b : Nat), vs = [.ref g, ni b] ∧ GrAt C H g p cs ∧ b < cs.length ∧
  ∀ (q : Addr) (H' : Hp), Same H H' → H q = none → H' q = some (.tup (nis (bitsN ((needN cs).getD b 0)))) → Q (.ref q) H'
def spNeeders (C : Addr) : Sp := fun vs H Q _ => ∃ (g p : Addr) (cs : List (List Nat)) (b : Nat), vs = [.ref g, ni b] ∧ GrAt C H g p cs ∧ b < cs.length ∧
  ∀ (q : Addr) (H' : Hp), Same H H' → H q = none → H' q = some (.tup (nis ((List.range cs.length).filter fun o => ((needN cs).getD o 0).testBit b))) → Q (.ref q) H'
def spLevels (C : Addr) : Sp := fun vs H Q _ => ∃ (g p : Addr) (cs : List (List Nat)), vs = [.ref g] ∧ GrAt C H g p cs ∧ ∀ (q : Addr) (H' : Hp), Same H H' → H q = none → H' q = some (.tup (nis (levN cs))) → Q (.ref q) H'
/-! ### the law's own helpers -/
/-- the row that draws: the script, its place, the mix, the great cell's rest -/
def RowAt (K : PySem.W.Frag) (H : Hp) (r a : Addr) (ns : List Int) : Prop :=
  (∃ i s g : Int, 0 ≤ i ∧ H r = some (.lst [.ref a, .int i, .int s, .int g])) ∧ SqL K H a (ns.map V.int) ∧ (a ≠ r ∨ ∀ H' : Hp, SqL K H' a (ns.map V.int))
theorem sqL_fx {K : PySem.W.Frag} {H H' : Hp} {r a : Addr} {xs : List V} (h : SqL K H a xs) (s : Fx r H H') (n : a ≠ r ∨ ∀ H' : Hp, SqL K H' a xs) : SqL K H' a xs := by
  rcases n with n | n
  · rcases h with (h | ⟨o, h⟩) | h
    · exact .inl (.inl (s _ _ n h))
    · exact .inl (.inr ⟨o, s _ _ n h⟩)
    · exact .inr h
  · exact n H'
/-- what is read stands beside a new address -/
theorem sqL_new {K : PySem.W.Frag} {H : Hp} {r a : Addr} {xs : List V} (h : SqL K H a xs) (hr : H r = none) : a ≠ r ∨ ∀ H' : Hp, SqL K H' a xs := by
  rcases h with (h | ⟨o, h⟩) | h
  · exact .inl (ne_of_none h hr)
  · exact .inl (ne_of_none h hr)
  · exact .inr fun _ => .inr h
theorem RowAt.lst {K : PySem.W.Frag} {H : Hp} {r a : Addr} {ns : List Int} (h : RowAt K H r a ns) : ∃ xs, H r = some (.lst xs) := by
  obtain ⟨⟨i, s, g, _, h⟩, _⟩ := h
  exact ⟨_, h⟩
theorem RowAt.same {K : PySem.W.Frag} {H H' : Hp} {r a : Addr} {ns : List Int} (h : RowAt K H r a ns) (s : Same H H') : RowAt K H' r a ns := by
  obtain ⟨⟨i, z, g, h0, h1⟩, h2, h3⟩ := h
  exact ⟨⟨i, z, g, h0, s _ _ h1⟩, s.seq h2, h3⟩
theorem rowAt_upd {K : PySem.W.Frag} {H : Hp} {r a : Addr} {i s g : Int} {ns : List Int} (hi : 0 ≤ i) (h : SqL K H a (ns.map V.int)) (n : a ≠ r ∨ ∀ H' : Hp, SqL K H' a (ns.map V.int)) :
    RowAt K (upd H r (.lst [.ref a, .int i, .int s, .int g])) r a ns := ⟨⟨i, s, g, hi, upd_same⟩, sqL_fx h fx_upd n, n⟩
/-- something is laid, or changed, that stood beside the row from the start -/
theorem rowAt_beside {K : PySem.W.Frag} {H H' : Hp} {r a D : Addr} {ns : List Int} {o : HO} (h : RowAt K H r a ns) (hD : H D = none) (fx : Fx r H H') (h' : RowAt K H' r a ns) :
    RowAt K (upd H' D o) r a ns := by
  obtain ⟨⟨i, z, g, h0, h1⟩, h2, h3⟩ := h
  obtain ⟨⟨i', z', g', h0', h1'⟩, _, _⟩ := h'
  have nDr : r ≠ D := ne_of_none h1 hD
  refine ⟨⟨i', z', g', h0', by rw [upd_ne nDr]; exact h1'⟩, sqL_fx h2 (fun b o' n e => ?_) h3, h3⟩
  rw [upd_ne (ne_of_none e hD)]
  exact fx b o' n e
theorem fx_beside {H H' : Hp} {r D : Addr} {o : HO} (hD : H D = none) (fx : Fx r H H') : Fx r H (upd H' D o) := fun b o' n e => by
  rw [upd_ne (ne_of_none e hD)]
  exact fx b o' n e
theorem RowAt.ne {K : PySem.W.Frag} {H : Hp} {r a D : Addr} {ns : List Int} (h : RowAt K H r a ns) (hD : H D = none) : D ≠ r := by
  obtain ⟨xs, e⟩ := h.lst
  exact (ne_of_none e hD).symm
def spTaken (K : PySem.W.Frag) : Sp := fun vs H Q _ => ∃ (r a : Addr) (ns : List Int) (m : Nat), vs = [.ref r, ni m] ∧ RowAt K H r a ns ∧ 1 ≤ m ∧ m < 1000000 ∧ ∀ (v : Nat) (H' : Hp), v < m → RowAt K H' r a ns → Fx r H H' → Q (ni v) H'
def spCovers (K : PySem.W.Frag) : Sp := fun vs H Q _ => ∃ (r a : Addr) (ns : List Int) (most : Nat), vs = [.ref r, ni most] ∧ RowAt K H r a ns ∧ 1 ≤ most ∧ most ≤ 10 ∧
  ∀ (p : Addr) (cs : List (List Nat)) (H' : Hp), RowAt K H' r a ns → Fx r H H' → CovAt H' p cs → Valid cs → 1 ≤ cs.length → cs.length ≤ most → Q (.ref p) H'
/-- two values that are alike, to a depth -/
def Alk (K : PySem.W.Frag) (H : Hp) : Nat → V → V → Prop
  | 0, x, y => x = y ∧ (x = .non ∨ (∃ b, x = .bl b) ∨ (∃ i, x = .int i) ∨ ∃ s, x = .str s)
  | n + 1, x, y => (x = y ∧ (x = .non ∨ (∃ b, x = .bl b) ∨ (∃ i, x = .int i) ∨ ∃ s, x = .str s)) ∨
      ∃ (a b : Addr) (xs ys : List V), x = .ref a ∧ y = .ref b ∧ ((H a = some (.lst xs) ∧ H b = some (.lst ys)) ∨ (H a = some (.tup xs) ∧ H b = some (.tup ys))) ∧ xs.length ≤ 100000 ∧ xs.length = ys.length ∧
        ∀ (i : Nat) (u v : V), xs[i]? = some u → ys[i]? = some v → Alk K H n u v
theorem Alk.same {K : PySem.W.Frag} {H H' : Hp} (s : Same H H') : ∀ {n : Nat} {x y : V}, Alk K H n x y → Alk K H' n x y
  | 0, _, _, h => h
  | n + 1, _, _, h => by
    rcases h with h | ⟨a, b, xs, ys, e1, e2, h, z, l, f⟩
    · exact .inl h
    · refine .inr ⟨a, b, xs, ys, e1, e2, ?_, z, l, fun i u v h1 h2 => Alk.same s (f i u v h1 h2)⟩
      rcases h with ⟨h1, h2⟩ | ⟨h1, h2⟩
      · exact .inl ⟨s _ _ h1, s _ _ h2⟩
      · exact .inr ⟨s _ _ h1, s _ _ h2⟩
theorem Alk.more {K : PySem.W.Frag} {H : Hp} : ∀ {n : Nat} {x y : V}, Alk K H n x y → Alk K H (n + 1) x y
  | 0, _, _, h => .inl h
  | n + 1, _, _, h => by
    rcases h with h | ⟨a, b, xs, ys, e1, e2, h, z, l, f⟩
    · exact .inl h
    · exact .inr ⟨a, b, xs, ys, e1, e2, h, z, l, fun i u v h1 h2 => Alk.more (f i u v h1 h2)⟩
def spAlike (K : PySem.W.Frag) (n : Nat) : Sp := fun vs H Q _ => ∃ (x y : V), vs = [x, y] ∧ Alk K H n x y ∧ ∀ H', Same H H' → Q (.bl true) H'
end Pit
namespace Pit
open PySem PySem.Spec PyProof.Rows L2
theorem walk_zT {K : PySem.W.Frag} {a b : Addr} {xs ys : List V} {n : Nat} (hn : n = min xs.length ys.length) :
    Walk (RZ.ItzT K a b) n (fun H => SqT K H a xs ∧ SqT K H b ys) (YPair (fun i => xs[i]?) (fun i => ys[i]?)) := by
  subst hn
  refine ⟨fun i _ hi q => ?_, fun _ q => ⟨xs, ys, q.1, q.2, by omega⟩, fun i H v H' _ q y => ?_⟩
  · have h1 : i < xs.length := by omega
    have h2 : i < ys.length := by omega
    exact ⟨xs, ys, xs[i], ys[i], q.1, q.2, by simp [h1], by simp [h2]⟩
  · obtain ⟨T, x, z, h1, h2, h3, h4, h5⟩ := y
    exact ⟨T, x, z, h1, h2, h3, h4 xs q.1, h5 ys q.2⟩
/-- a turn of a comprehension that keeps what was there and lays one more item -/
theorem lc_push {H1 H4 : Hp} {D : Addr} {acc : List V} {y : V} {Fn : List V} (s : Same H1 H4) (hd : H1 D = none) (hD : H4 D = some (.lst acc)) (hl : acc.length < sizeLine) (e : Fn = acc ++ [y]) :
    ∃ ac, H4 D = some (.lst ac) ∧ ac.length < sizeLine ∧ Same H1 (upd H4 D (.lst (ac ++ [y]))) ∧ (upd H4 D (.lst (ac ++ [y]))) D = some (.lst Fn) :=
  ⟨acc, hD, hl, same_upd s hd, by rw [upd_same, e]⟩
theorem szl {n : Nat} (h : n ≤ 100000) : n < sizeLine := Nat.lt_of_le_of_lt h (by decide)
theorem szle {n : Nat} (h : n ≤ 100000) : n ≤ sizeLine := Nat.le_of_lt (szl h)
theorem same_start {H1 : Hp} {D : Addr} (hd : H1 D = none) : Same H1 (upd H1 D (.lst [])) ∧ (upd H1 D (.lst [])) D = some (.lst []) := ⟨same_new hd, upd_same⟩
theorem take_snoc {α : Type} {l : List α} {i : Nat} {x : α} (h : l[i]? = some x) : l.take (i + 1) = l.take i ++ [x] := by
  obtain ⟨hl, e⟩ := List.getElem?_eq_some_iff.mp h
  rw [← e, List.take_append_getElem]
theorem bit_test (m b : Nat) : (Builtin.bitAnd ((m : Int) / 2 ^ ((b : Int)).toNat) 1 != 0) = m.testBit b := by
  rw [bitAnd_m1, Int.toNat_natCast, ← PySem.W.kbt_cast, ← Int.natCast_ediv]
  have e : m.testBit b = decide ((m / 2 ^ b) % 2 = 1) := by
    rw [Nat.testBit_eq_decide_div_mod_eq]
  rw [e]
  have h : ((((m / 2 ^ b : Nat) : Int)) % 2) = (((m / 2 ^ b) % 2 : Nat) : Int) := by omega
  rw [h]
  by_cases q : (m / 2 ^ b) % 2 = 1
  · rw [q]; rfl
  · have z : (m / 2 ^ b) % 2 = 0 := by omega
    rw [z]; rfl
theorem intBits_nat (m : Nat) : Builtin.Int.intBits (m : Int) = if m = 0 then 0 else m.log2 + 1 := by
  unfold Builtin.Int.intBits
  by_cases z : m = 0
  · subst z; rfl
  · rw [if_neg z, if_neg (by simpa using z)]
    rfl
theorem map_get {α β : Type} {f : α → β} {l : List α} {i : Nat} {v : β} (h : (l.map f)[i]? = some v) : ∃ n, l[i]? = some n ∧ v = f n := by
  rw [List.getElem?_map] at h
  cases e : l[i]? with
  | none => rw [e] at h; cases h
  | some n => rw [e] at h; exact ⟨n, rfl, (Option.some.inj h).symm⟩
theorem tyX_same {K : PySem.W.Frag} {H H' : Hp} (s : Same H H') {x : V} {t : Value} (h : TyX K H x t) : TyX K H' x t := by
  cases h with
  | base b =>
    refine .base ?_
    cases b with
    | non => exact .non
    | bl y => exact .bl y
    | int i => exact .int i
    | str y => exact .str y
    | flt y => exact .flt y
    | lst e => exact .lst (s _ _ e)
    | frz e => exact .frz (s _ _ e)
    | tup e => exact .tup (s _ _ e)
    | dK e => exact .dK (s _ _ e)
    | dT e => exact .dT (s _ _ e)
    | ins e cl ha hn htk hm => exact .ins (s _ _ e) cl ha hn htk hm
  | byt b => exact .byt b
  | set e => exact .set (s _ _ e)
  | kList e c => exact .kList e c
  | kTuple e c => exact .kTuple e c
  | kDict e c => exact .kDict e c
  | fTuple e => exact .fTuple (s _ _ e)
  | fDict e => exact .fDict (s _ _ e)
theorem whole_same {K : PySem.W.Frag} {H H' : Hp} (s : Same H H') {x : V} {b : Bool} (h : Whole K H x b) : Whole K H' x b := by
  rcases h with h | ⟨t, ty, r⟩
  · exact .inl h
  · exact .inr ⟨t, tyX_same s ty, r⟩
/-- a value of any kind as a test -/
def tTru (K : PySem.W.Frag) (ta : TE) : TT := fun σ H Q => ta σ H fun x H' => ∃ k, TruV K x H' k ∧ Q k H'
theorem pt_tru {X : Cx} {a : Expr} {ta : TE} (ha : PE X a ta) (he : ∀ whole, isTrue a X.env whole = (do let v ← whole; standAt a.pos; holding [v] (truthy v)) := by intro _; rfl) :
    PT X a (tTru X.K ta) := pt_truth ha he
theorem yesT {σ : L2.St} {H : Hp} {A B : Hp → Prop} (h : A H) : tYes σ H (fun b H3 => if b = true then A H3 else B H3) := by
  show (if true = true then A H else B H)
  rw [if_pos rfl]
  exact h
theorem lotB_all (xs : List V) (many : Int) : ((xs.map fun v => betw v 0 (many - 1)).all id) = xs.all (fun v => betw v 0 (many - 1)) := by
  rw [List.all_map]
  rfl
theorem betw_int {v : V} {lo hi : Int} (h : betw v lo hi = true) : ∃ i : Int, v = .int i ∧ lo ≤ i ∧ i ≤ hi := by
  cases v with
  | int i =>
    have h' : (decide (lo ≤ i) && decide (i ≤ hi)) = true := h
    rw [Bool.and_eq_true] at h'
    exact ⟨i, rfl, of_decide_eq_true h'.1, of_decide_eq_true h'.2⟩
  | _ => exact Bool.noConfusion (show false = true from h)
def toI (v : V) : Int := match v with | .int i => i | _ => 0
theorem all_ints {lo hi : Int} : ∀ {xs : List V}, xs.all (fun v => betw v lo hi) = true → xs = (xs.map toI).map V.int
  | [], _ => rfl
  | v :: xs, h => by
    rw [List.all_cons, Bool.and_eq_true] at h
    obtain ⟨i, rfl, _⟩ := betw_int h.1
    have ih := all_ints h.2
    show V.int i :: xs = V.int i :: (xs.map toI).map V.int
    rw [← ih]
theorem or_nat (a b : Nat) : Builtin.bitOr (a : Int) (b : Int) = ((a ||| b : Nat) : Int) := by
  rw [bitOr_nn (Int.natCast_nonneg _) (Int.natCast_nonneg _), Int.toNat_natCast, Int.toNat_natCast]
end Pit
namespace Pit
open PySem PySem.Spec PyProof.Rows L2
/-! the rules once more, the written part said by name (a comprehension's block has the same one) -/
section
variable {X : Cx} {K : PySem.W.Frag}
theorem k_tru (hK : X.K = K) {a : Expr} {ta : TE} (ha : PE X a ta) (he : ∀ whole, isTrue a X.env whole = (do let v ← whole; standAt a.pos; holding [v] (truthy v)) := by intro _; rfl) :
    PT X a (tTru K ta) := hK ▸ pt_tru ha he
theorem k_ix (hK : X.K = K) : IxR X (rIx K) := hK ▸ ix_seq
theorem k_len (hK : X.K = K) : CallR X (.builtin "len") (fun xs H Q => ∃ p ys, xs = [.ref p] ∧ (SqL K H p ys ∨ SqT K H p ys) ∧ Q (.int ys.length) H) := hK ▸ call_len_seq
theorem k_listOf (hK : X.K = K) : CallR X (.type "list") (fun xs H Q => ∃ p ys, xs = [.ref p] ∧ (SqL K H p ys ∨ SqT K H p ys) ∧ ∀ l, H l = none → Q (.ref l) (upd H l (.lst ys))) := hK ▸ call_list_of
theorem k_tupOf (hK : X.K = K) : CallR X (.type "tuple") (fun xs H Q => ∃ p ys, xs = [.ref p] ∧ ((SqL K H p ys ∧ ∀ l, H l = none → Q (.ref l) (upd H l (.tup ys))) ∨ (SqT K H p ys ∧ Q (.ref p) H))) := hK ▸ call_tuple_of
theorem k_in (hK : X.K = K) : OpR X (compareOp .In) (rIn K false) := hK ▸ op_in_seq
theorem k_notIn (hK : X.K = K) : OpR X (compareOp .NotIn) (rIn K true) := hK ▸ op_notIn_seq
theorem k_add (hK : X.K = K) : OpR X (binaryOp .Add) (fun x y H Q => (rI0 fun i j => .int (i + j)) x y H Q ∨ rCat x y H Q ∨ rCatA K x y H Q) := hK ▸ op_addU
theorem k_eq (hK : X.K = K) (hu : X.A.units + 64 < cLine) : OpR X (compareOp .Eq) (fun x y H Q => rEq x y H Q ∨ rEqD K x y H Q) := hK ▸ op_eqU hu
theorem k_ne (hK : X.K = K) (hu : X.A.units + 64 < cLine) : OpR X (compareOp .NotEq) (fun x y H Q => rNe x y H Q ∨ rNeD K x y H Q) := hK ▸ op_neU hu
theorem k_sl (hK : X.K = K) : L2.SlR X (fun x lo hi H Q => rSlL K x lo hi H Q ∨ rSlA K x lo hi H Q) := hK ▸ sl_U
theorem k_all (hK : X.K = K) (hc : X.calm = true) : CallR X (.builtin "all") (rAll K) := hK ▸ cr_all hc
theorem k_isi (hK : X.K = K) : CallR X (.builtin "isinstance") (rIsi K) := hK ▸ call_isi
theorem k_isiT (hK : X.K = K) : CallR X (.builtin "isinstance") (rIsiT K) := hK ▸ call_isiT
theorem k_maxD (hK : X.K = K) (hc : X.calm = true) : CallRK X (.builtin "max") [("default" : Str)] (rMaxD0 K) := hK ▸ cr_maxDf hc
end
end Pit
namespace Pit
open PySem PySem.Spec PyProof.Rows L2
theorem stepFold_len {st : List Nat → List Nat → List Nat} (h : ∀ acc c, (st acc c).length = acc.length + 1) : ∀ (cs : List (List Nat)) (acc : List Nat), (cs.foldl st acc).length = acc.length + cs.length
  | [], acc => rfl
  | c :: cs, acc => by
    rw [List.foldl_cons, stepFold_len h cs, h, List.length_cons]
    omega
theorem needN_len (cs : List (List Nat)) : (needN cs).length = cs.length := by
  unfold needN
  rw [stepFold_len (fun acc c => by unfold needStep; rw [List.length_append]; rfl)]
  exact Nat.zero_add _
theorem levN_len (cs : List (List Nat)) : (levN cs).length = cs.length := by
  unfold levN
  rw [stepFold_len (fun acc c => by unfold levStep; rw [List.length_append]; rfl)]
  exact Nat.zero_add _
theorem needN_more {cs : List (List Nat)} {i : Nat} {c : List Nat} (h : cs[i]? = some c) : needN (cs.take (i + 1)) = needStep (needN (cs.take i)) c := by
  unfold needN
  rw [take_snoc h, List.foldl_append]
  rfl
theorem levN_more {cs : List (List Nat)} {i : Nat} {c : List Nat} (h : cs[i]? = some c) : levN (cs.take (i + 1)) = levStep (levN (cs.take i)) c := by
  unfold levN
  rw [take_snoc h, List.foldl_append]
  rfl
/-- what the class Ground's text asks -/
structure Txt (K : PySem.W.Frag) (mg : Str → Option Value) (C : Addr) (tk : Tok) : Prop where
  cl : Cls K C
  nC : NoAttr K C "covers"
  i_Ground : C8.InsC K C
  g_Ground : mg "Ground" = some (.ref C)
  g_MOST_BLOCKS : mg "MOST_BLOCKS" = some (.int 10 tk)
theorem flds_lk (p : Addr) : (flds p).lookup ("covers" : Str) = some (.ref p) := by
  unfold flds
  simp [List.lookup]
theorem nis_at {l : List Nat} {b : Nat} (h : b < l.length) : (nis l)[b]? = some (ni (l.getD b 0)) := by
  rw [List.getElem?_map, List.getElem?_eq_getElem h]
  simp [h]
end Pit
namespace Pit
open PySem PySem.Spec PyProof.Rows L2
theorem asc_len {n : Nat} : ∀ {c : List Nat} {lo : Nat}, c.Pairwise (· < ·) → (∀ x ∈ c, lo ≤ x ∧ x < n) → c.length ≤ n - lo
  | [], _, _, _ => Nat.zero_le _
  | a :: r, lo, hp, hb => by
    rw [List.pairwise_cons] at hp
    obtain ⟨h1, h2⟩ := hb a List.mem_cons_self
    have ih := asc_len (c := r) (lo := a + 1) hp.2 fun x hx => ⟨hp.1 x hx, (hb x (List.mem_cons_of_mem _ hx)).2⟩
    rw [List.length_cons]
    omega
theorem asc_len0 {n : Nat} {c : List Nat} (hp : c.Pairwise (· < ·)) (hb : ∀ x ∈ c, x < n) : c.length ≤ n :=
  asc_len (lo := 0) hp fun x hx => ⟨Nat.zero_le _, hb x hx⟩
theorem rising_nat : ∀ {c : List Nat}, c.Pairwise (· < ·) → rising (c.map fun n : Nat => (n : Int)) = true
  | [], _ => rfl
  | [_], _ => rfl
  | a :: b :: r, h => by
    rw [List.pairwise_cons] at h
    have h1 : a < b := h.1 b List.mem_cons_self
    have ih := rising_nat (c := b :: r) h.2
    show (decide ((a : Int) < (b : Int)) && rising ((b :: r).map fun n : Nat => (n : Int))) = true
    rw [ih, decide_eq_true (by omega)]
    rfl
theorem lotB_nis {c : List Nat} {n : Nat} (hp : c.Pairwise (· < ·)) (hb : ∀ x ∈ c, x < n) : lotB (nis c) (n : Int) = true := by
  unfold lotB
  have e1 : (nis c).all (fun v => betw v 0 ((n : Int) - 1)) = true := by
    rw [List.all_eq_true]
    intro x hx
    obtain ⟨m, hm, rfl⟩ := List.mem_map.mp hx
    have := hb m hm
    show (decide ((0 : Int) ≤ (m : Int)) && decide ((m : Int) ≤ (n : Int) - 1)) = true
    rw [decide_eq_true (by omega), decide_eq_true (by omega)]
    rfl
  have e2 : ((nis c).map fun v => match v with | .int i => i | _ => 0) = c.map fun n : Nat => (n : Int) := by
    rw [List.map_map]
    rfl
  rw [e1, e2, rising_nat hp]
  rfl
end Pit
namespace Pit
open PySem PySem.Spec PyProof.Rows L2
theorem walk_rg {n : Nat} : Walk (Itr 0 n) n (fun _ => True) (YFn fun i => ni i) :=
  ⟨fun _ _ hi _ => hi, fun _ _ => Nat.le_refl _, fun _ _ _ _ _ _ y => by
    obtain ⟨e1, e2⟩ := y
    rw [Int.zero_add] at e2
    exact ⟨e1, e2⟩⟩
end Pit
namespace Pit
theorem rgf_t {p : Nat → Bool} {i : Nat} (h : p i = true) : (List.range (i + 1)).filter p = (List.range i).filter p ++ [i] := by
  rw [List.range_succ, List.filter_append, List.filter_cons, if_pos h, List.filter_nil]
theorem rgf_f {p : Nat → Bool} {i : Nat} (h : p i = false) : (List.range (i + 1)).filter p = (List.range i).filter p := by
  rw [List.range_succ, List.filter_append, List.filter_cons, if_neg (by rw [h]; exact Bool.false_ne_true), List.filter_nil, List.append_nil]
theorem rgf_len (p : Nat → Bool) (i : Nat) : ((List.range i).filter p).length ≤ i := by
  have h := List.length_filter_le p (List.range i)
  rw [List.length_range] at h
  exact h
end Pit
namespace Pit
open PySem PySem.Spec PyProof.Rows L2
theorem kit2 {K : PySem.W.Frag} {t : String} {b1 b2 : Bool} (h1 : kitB t "tuple" = some b1) (h2 : kitB t "list" = some b2) :
    PySem.W.kitAny K (.type t) [.type "tuple", .type "list"] = some (b1 || b2) := by
  refine kitAny_cons (kit_ty h1) (fun e => ?_) (fun e => by rw [e]; rfl)
  subst e
  refine kitAny_cons (kit_ty h2) (fun e => ?_) (fun e => by rw [e]; rfl)
  subst e
  exact kitAny_nil
theorem cls2 : Paired ClsV [V.ty "tuple", V.ty "list"] [Value.type "tuple", Value.type "list"] := .cons (.ty _) (.cons (.ty _) .nil)
/-- a def's promise by depth: none at 0 -/
def spAk (K : PySem.W.Frag) : Nat → Sp
  | 0 => fun _ _ _ _ => False
  | n + 1 => spAlike K n
end Pit
namespace Pit
open PySem PySem.Spec PyProof.Rows L2
section
variable {K : PySem.W.Frag}
theorem kit2_non : PySem.W.kitAny K (.type "NoneType") [.type "tuple", .type "list"] = some false := kit2 (b1 := false) (b2 := false) (by decide +kernel) (by decide +kernel)
theorem kit2_bool : PySem.W.kitAny K (.type "bool") [.type "tuple", .type "list"] = some false := kit2 (b1 := false) (b2 := false) (by decide +kernel) (by decide +kernel)
theorem kit2_int : PySem.W.kitAny K (.type "int") [.type "tuple", .type "list"] = some false := kit2 (b1 := false) (b2 := false) (by decide +kernel) (by decide +kernel)
theorem kit2_str : PySem.W.kitAny K (.type "str") [.type "tuple", .type "list"] = some false := kit2 (b1 := false) (b2 := false) (by decide +kernel) (by decide +kernel)
end
end Pit
namespace Pit
open PySem PySem.Spec PyProof.Rows L2
theorem itT {c : Bool} {A B : Prop} (hc : c = true) (h : A) : if c = true then A else B := by
  rw [if_pos hc]
  exact h
theorem itF {c : Bool} {A B : Prop} (hc : c = false) (h : B) : if c = true then A else B := by
  rw [hc, if_neg Bool.false_ne_true]
  exact h
theorem ni_dec (a b : Nat) : decide (ni a = V.int ((b : Nat) : Int)) = decide (a = b) := by
  by_cases e : a = b
  · subst e
    rw [decide_eq_true rfl, decide_eq_true rfl]
  · rw [decide_eq_false e, decide_eq_false]
    intro q
    have q' : ((a : Nat) : Int) = (b : Int) := V.int.inj q
    exact e (by omega)
theorem rgV_nat (n : Nat) : rgV 0 (n : Int) = nis (List.range n) := by
  unfold rgV
  have e : ((n : Int) - 0).toNat = n := by omega
  rw [e]
  refine List.map_congr_left fun k _ => ?_
  rw [Int.zero_add]
/-- the last one of those below n -/
def lastN (n : Nat) : List Nat := if n = 0 then [] else [n - 1]
theorem cut_last (n : Nat) : cutV (nis (List.range n)) (some (-1)) none = nis (lastN n) := by
  have e1 : HT.sIx (nis (List.range n)).length 0 (some (-1)) = n - 1 := by
    rw [nis_len, List.length_range]
    show (if (-1 : Int) < 0 then ((-1 : Int) + (n : Int)).toNat else min (-1 : Int).toNat n) = n - 1
    rw [if_pos (by decide)]
    omega
  unfold cutV
  rw [e1, HT.sIx_none, nis_len, List.length_range]
  cases n with
  | zero => rfl
  | succ k =>
    rw [List.range_succ, nis_app, Nat.add_sub_cancel]
    have e2 : (nis (List.range k)).length = k := by rw [nis_len, List.length_range]
    have e3 : (nis (List.range k)).drop k = [] := List.drop_of_length_le (Nat.le_of_eq e2)
    rw [List.drop_append_of_le_length (Nat.le_of_eq e2.symm), e3, List.nil_append, Nat.add_sub_cancel_left]
    rfl
/-- how the drawn covers stand after i blocks -/
def CovInv (K : PySem.W.Frag) (H : Hp) (r a0 q : Addr) (ns : List Int) (most way : Nat) (many : Int) (i : Nat) (σ : L2.St) (H' : Hp) : Prop :=
  ∃ (as : List Addr) (cs : List (List Nat)) (v5 v6 v7 : Option V), σ = [some (.ref r), some (ni most), some (.ref q), some (ni way), some (.int many), v5, v6, v7] ∧
    RowAt K H' r a0 ns ∧ Fx r H H' ∧ H' q = some (.lst (as.map V.ref)) ∧ as.length = i ∧ cs.length = i ∧
    (∀ (j : Nat) (a : Addr) (c : List Nat), as[j]? = some a → cs[j]? = some c → H' a = some (.tup (nis c))) ∧ Valid cs
theorem valid_snoc {cs : List (List Nat)} {c : List Nat} (h : Valid cs) (hp : c.Pairwise (· < ·)) (hb : ∀ x ∈ c, x < cs.length) : Valid (cs ++ [c]) := by
  intro i d e
  by_cases z : i < cs.length
  · rw [List.getElem?_append_left z] at e
    exact h i d e
  · have zz : cs.length ≤ i := by omega
    rw [List.getElem?_append_right zz] at e
    have i0 : i - cs.length = 0 := by
      cases q : i - cs.length with
      | zero => rfl
      | succ k => rw [q] at e; cases e
    rw [i0] at e
    cases e
    exact ⟨hp, fun x hx => by have := hb x hx; omega⟩
theorem asc_snoc {l : List Nat} {n : Nat} (h : l.Pairwise (· < ·)) (hb : ∀ x ∈ l, x < n) : (l ++ [n]).Pairwise (· < ·) := by
  rw [List.pairwise_append]
  refine ⟨h, List.pairwise_singleton _ _, fun a ha b hb' => ?_⟩
  rw [List.mem_singleton.mp hb']
  exact hb a ha
end Pit
namespace Pit
open PySem PySem.Spec PyProof.Rows L2
def spLeads (K : PySem.W.Frag) : Sp := fun vs H Q _ => ∃ (p : Addr) (cs : List (List Nat)) (i b : Nat), vs = [.ref p, ni i, ni b] ∧ CovAt H p cs ∧ Valid cs ∧ cs.length ≤ 10 ∧ i < cs.length ∧
  ∀ H', Same H H' → Q (.bl (((needN cs).getD i 0).testBit b)) H'
def spLongest (K : PySem.W.Frag) : Sp := fun vs H Q _ => ∃ (p : Addr) (cs : List (List Nat)) (i : Nat), vs = [.ref p, ni i] ∧ CovAt H p cs ∧ Valid cs ∧ cs.length ≤ 10 ∧ i < cs.length ∧
  ∀ H', Same H H' → Q (ni ((levN cs).getD i 0)) H'
end Pit

set_option Elab.async false
set_option linter.all false
set_option maxRecDepth 100000
set_option maxHeartbeats 4000000
/-! sorted of pairs of an integer and a tuple of integers, any number of them -/
namespace Pit
open PySem PySem.Spec PyProof.Rows L2
/-- such a pair, as data -/
def encSL (n : Addr → Nat) (l : Addr → List Nat) (t : Addr) : PyData := .tuple [.int (n t), .tuple ((l t).map fun x : Nat => .int x)]
theorem alike_nats : ∀ xs ys : List Nat, PySem.W.alikeAll (xs.map fun x : Nat => PyData.int x) (ys.map fun x : Nat => PyData.int x) = true
  | [], _ => by simp [PySem.W.alikeAll]
  | x :: xs, [] => by simp [PySem.W.alikeAll]
  | x :: xs, y :: ys => by
    rw [List.map_cons, List.map_cons, PySem.W.alikeAll, alike_nats xs ys]
    simp [PySem.W.alike]
theorem depth_nats : ∀ xs : List Nat, PyData.depthAll (xs.map fun x : Nat => PyData.int x) = 0
  | [] => by simp [PyData.depthAll]
  | x :: xs => by
    rw [List.map_cons, PyData.depthAll, depth_nats xs]
    simp [PyData.depth]
theorem enc_alike (n : Addr → Nat) (l : Addr → List Nat) (b b' : Addr) : PySem.W.alike (encSL n l b) (encSL n l b') = true := by
  simp [encSL, PySem.W.alike, PySem.W.alikeAll, alike_nats]
theorem enc_depth (n : Addr → Nat) (l : Addr → List Nat) (b : Addr) : (encSL n l b).depth ≤ 2 := by
  simp [encSL, PyData.depth, PyData.depthAll, depth_nats]
/-- in order: the sizes do not fall -/
theorem le_size {n : Addr → Nat} {l : Addr → List Nat} {x y : Addr} (h : PySem.W.dataLe false (encSL n l) x y = true) : n x ≤ n y := by
  rw [PySem.W.dataLe_eq] at h
  have h' : (!PySem.W.dataLt (encSL n l y) (encSL n l x)) = true := h
  rw [Bool.not_eq_true'] at h'
  unfold encSL at h'
  rw [PySem.W.dataLt_pair (by simp [PySem.W.alike]) (by simp [PySem.W.alike, alike_nats]), PySem.W.dataLt_int] at h'
  by_cases e : n y = n x
  · omega
  · rw [if_neg (by simp [PyData.eqv]; omega)] at h'
    have := of_decide_eq_false h'
    omega
theorem each_ref {R : Value → Addr → Prop} : ∀ {ts : List Addr}, (∀ t ∈ ts, R (.ref t) t) → PySem.W.EachIs R (ts.map Value.ref) ts
  | [], _ => .nil
  | t :: ts, h => .cons (h t List.mem_cons_self) (each_ref fun u hu => h u (List.mem_cons_of_mem _ hu))
theorem each_back : ∀ {vs : List Value} {ts : List Addr}, PySem.W.EachIs (fun v t => v = Value.ref t) vs ts → vs = ts.map Value.ref
  | _, _, .nil => rfl
  | _, _, .cons e t => by rw [e, each_back t]; rfl
theorem refs_of : ∀ {ts : List Addr} {us : List Value}, Vals (ts.map V.ref) us → us = ts.map Value.ref
  | [], us, r => by
    rw [List.map_nil] at r
    cases r
    rfl
  | t :: ts, us, r => by
    rw [List.map_cons] at r
    cases r with
    | cons h q =>
      cases h
      rw [List.map_cons, ← refs_of q]
theorem of_refs : ∀ ts : List Addr, Vals (ts.map V.ref) (ts.map Value.ref)
  | [] => .nil
  | _ :: ts => .cons rfl (of_refs ts)
theorem reads_nis {h : Heap} : ∀ {l : List Nat} {us : List Value}, Vals (nis l) us → ∃ as, ReadsAll h us (l.map fun x : Nat => PyData.int x) as
  | [], us, r => by
    cases r
    exact ⟨_, .nil⟩
  | x :: l, us, r => by
    cases r with
    | cons e q =>
      obtain ⟨t, rfl⟩ := e
      obtain ⟨as, z⟩ := reads_nis q
      exact ⟨_, .cons (.int _ t) z⟩
/-- sorted(xs), xs a list of pairs (integer, tuple of integers): a new list, the same pairs in order -/
def rSortedSL (K : PySem.W.Frag) : List V → Hp → VK → Prop := fun vs H Q => ∃ (a : Addr) (ts : List Addr) (n : Addr → Nat) (l : Addr → List Nat), vs = [V.ref a] ∧ SqL K H a (ts.map V.ref) ∧
  (∀ t ∈ ts, ∃ u, H t = some (.tup [ni (n t), .ref u]) ∧ H u = some (.tup (nis (l t)))) ∧
  ∀ (ts' : List Addr) (p : Addr), ts'.Perm ts → ts'.Pairwise (fun x y => PySem.W.dataLe false (encSL n l) x y = true) → H p = none → Q (.ref p) (upd H p (.lst (ts'.map V.ref)))
section
variable {X : Cx}
theorem cr_sortedSL (hu : X.A.units + 64 < cLine) : CallR X (.builtin "sorted") (rSortedSL X.K) := by
  intro pins s σ H vs us Q I r h
  obtain ⟨a, ts, n, l, rfl, hs, hx, q⟩ := h
  obtain ⟨its, rv, hl, hz⟩ := I.list hs
  obtain ⟨u, rfl, ru⟩ := vals1 r
  obtain rfl : u = Value.ref a := ru
  have ei := refs_of rv
  subst ei
  rw [List.length_map] at hz
  have hrd : ∀ t ∈ ts, ∃ as, Reads s.heap (.ref t) (encSL n l t) as := by
    intro t ht
    obtain ⟨u, h1, h2⟩ := hx t ht
    obtain ⟨_, its2, r2, o, ho, hc, m, hd⟩ := I.hok _ _ h1
    obtain ⟨u1, u2, rfl, ri, rj⟩ := vals2 r2
    obtain ⟨t1, rfl⟩ := ri
    obtain rfl : u2 = Value.ref u := rj
    obtain ⟨_, its3, r3, o3, ho3, hc3, m3, hd3⟩ := I.hok _ _ h2
    obtain ⟨as, z⟩ := reads_nis (h := s.heap) r3
    exact ⟨_, .tuple ho hc hd (.cons (.int _ t1) (.cons (.tuple ho3 hc3 hd3 z) .nil))⟩
  refine PySem.W.sorted_data (R := fun v t => v = Value.ref t) (bs := ts) (enc := encSL n l) hl.isList (each_ref fun _ _ => rfl) (each_ref hrd) (PySem.W.AllAlike.of (enc_alike n l)) (PySem.W.Sortable.tuples fun _ => ⟨_, _, rfl⟩) hz (fun b _ => ?_) fun out hlen eo => ?_
  · have := enc_depth n l b
    omega
  · have eo' := each_back eo
    obtain ⟨m, hn⟩ := sortedAll_at s.heap (ts.map Value.ref) out.toArray
    have hd : s.heap.objs.size ≤ s.heap.objs.size + 1 := Nat.le_succ _
    have hp : (ts.mergeSort (PySem.W.dataLe false (encSL n l))).Perm ts := List.mergeSort_perm _ _
    refine ⟨.ref (s.heap.objs.size + 1), upd H (s.heap.objs.size + 1) (.lst ((ts.mergeSort (PySem.W.dataLe false (encSL n l))).map V.ref)), I.laid (t' := s.toks) (fun b o e => sortedAll_old e) hd ⟨?_, out, m, ?_, hn⟩, rfl, q _ _ hp ?_ (I.hok.fresh hd)⟩
    · rw [List.length_map, hp.length_eq]
      exact hz
    · rw [eo']
      exact of_refs _
    · exact PySem.W.sort_pairwise (PySem.W.sortLe_total _ _ _) ts
theorem k_sorted {K : PySem.W.Frag} (hK : X.K = K) (hu : X.A.units + 64 < cLine) : CallR X (.builtin "sorted") (rSortedSL K) := hK ▸ cr_sortedSL hu
end
end Pit

set_option Elab.async false
set_option linter.all false
set_option maxRecDepth 100000
set_option maxHeartbeats 4000000
/-! the mathematics of covers: what a block needs, levels -/
namespace Pit
open PySem PySem.Spec PyProof.Rows L2
section
variable (g : List Nat → List Nat → Nat)
def gFold (cs : List (List Nat)) : List Nat := cs.foldl (fun acc c => acc ++ [g acc c]) []
theorem gFold_grow : ∀ (b : List (List Nat)) (acc : List Nat), ∃ t, b.foldl (fun acc c => acc ++ [g acc c]) acc = acc ++ t
  | [], acc => ⟨[], (List.append_nil _).symm⟩
  | c :: b, acc => by
    obtain ⟨t, e⟩ := gFold_grow b (acc ++ [g acc c])
    exact ⟨[g acc c] ++ t, by rw [List.foldl_cons, e, List.append_assoc]⟩
theorem gFold_len (cs : List (List Nat)) : (gFold g cs).length = cs.length := by
  unfold gFold
  rw [stepFold_len (fun acc c => by rw [List.length_append]; rfl)]
  exact Nat.zero_add _
theorem gFold_take (cs : List (List Nat)) (i : Nat) : gFold g (cs.take i) = (gFold g cs).take i := by
  have e : gFold g cs = (cs.drop i).foldl (fun acc c => acc ++ [g acc c]) (gFold g (cs.take i)) := by
    unfold gFold
    rw [← List.foldl_append, List.take_append_drop]
  obtain ⟨t, et⟩ := gFold_grow g (cs.drop i) (gFold g (cs.take i))
  rw [e, et]
  have hl := gFold_len g (cs.take i)
  rw [List.length_take] at hl
  by_cases z : i ≤ cs.length
  · rw [List.take_append_of_le_length (by omega), List.take_of_length_le (l := gFold g (cs.take i)) (by omega)]
  · have hd : cs.drop i = [] := List.drop_of_length_le (by omega)
    rw [hd] at et
    have ht : t = [] := by
      have := congrArg List.length et
      rw [List.foldl_nil, List.length_append] at this
      exact List.eq_nil_of_length_eq_zero (by omega)
    rw [ht, List.append_nil, List.take_of_length_le (l := gFold g (cs.take i)) (by omega)]
theorem gFold_at {cs : List (List Nat)} {i : Nat} {c : List Nat} (h : cs[i]? = some c) : (gFold g cs).getD i 0 = g ((gFold g cs).take i) c := by
  have hi : i < cs.length := (List.getElem?_eq_some_iff.mp h).1
  have e1 : gFold g (cs.take (i + 1)) = gFold g (cs.take i) ++ [g (gFold g (cs.take i)) c] := by
    unfold gFold
    rw [take_snoc h, List.foldl_append]
    rfl
  rw [gFold_take, gFold_take] at e1
  have hl := gFold_len g cs
  have hl2 : ((gFold g cs).take i).length = i := by rw [List.length_take]; omega
  have e2 : ((gFold g cs).take (i + 1))[i]? = some (g ((gFold g cs).take i) c) := by
    rw [e1, List.getElem?_append_right (by omega), hl2, Nat.sub_self]
    rfl
  rw [List.getElem?_take_of_lt (by omega)] at e2
  rw [List.getD_eq_getElem?_getD, e2]
  rfl
theorem take_getD (l : List Nat) {f i : Nat} (h : f < i) : (l.take i).getD f 0 = l.getD f 0 := by
  rw [List.getD_eq_getElem?_getD, List.getD_eq_getElem?_getD, List.getElem?_take_of_lt h]
end
theorem needN_g (cs : List (List Nat)) : needN cs = gFold (fun acc c => c.foldl (fun m f => m ||| acc.getD f 0) (maskN c)) cs := rfl
theorem levN_g (cs : List (List Nat)) : levN cs = gFold (fun acc c => c.foldl (fun m f => max m (acc.getD f 0 + 1)) 0) cs := rfl
/-- whether a block needs another one -/
def need (cs : List (List Nat)) (i b : Nat) : Bool := ((needN cs).getD i 0).testBit b
def lev (cs : List (List Nat)) (i : Nat) : Nat := (levN cs).getD i 0
theorem need_fold_bit (acc : List Nat) : ∀ (c : List Nat) (m b : Nat), (c.foldl (fun m f => m ||| acc.getD f 0) m).testBit b = (m.testBit b || c.any fun f => (acc.getD f 0).testBit b)
  | [], m, b => by simp
  | a :: c, m, b => by
    rw [List.foldl_cons, need_fold_bit acc c, Nat.testBit_or, List.any_cons, Bool.or_assoc]
theorem any_congr {α : Type} {p q : α → Bool} : ∀ {l : List α}, (∀ x ∈ l, p x = q x) → l.any p = l.any q
  | [], _ => rfl
  | a :: l, h => by
    rw [List.any_cons, List.any_cons, h a List.mem_cons_self, any_congr fun x hx => h x (List.mem_cons_of_mem _ hx)]
theorem need_rec {cs : List (List Nat)} (hV : Valid cs) {i : Nat} {c : List Nat} (h : cs[i]? = some c) (b : Nat) :
    need cs i b = (decide (b ∈ c) || c.any fun f => need cs f b) := by
  unfold need
  rw [needN_g, gFold_at _ h, need_fold_bit, maskN_bit]
  congr 1
  refine any_congr fun f hf => ?_
  rw [take_getD _ ((hV i c h).2 f hf)]
theorem need_iff {cs : List (List Nat)} (hV : Valid cs) {i : Nat} {c : List Nat} (h : cs[i]? = some c) (b : Nat) :
    need cs i b = true ↔ b ∈ c ∨ ∃ f ∈ c, need cs f b = true := by
  rw [need_rec hV h, Bool.or_eq_true, List.any_eq_true, decide_eq_true_iff]
theorem need_out {cs : List (List Nat)} {i : Nat} (h : cs[i]? = none) (b : Nat) : need cs i b = false := by
  unfold need
  rw [List.getD_eq_getElem?_getD, List.getElem?_eq_none (by rw [needN_len]; exact List.getElem?_eq_none_iff.mp h)]
  exact Nat.zero_testBit b
theorem need_lt {cs : List (List Nat)} (hV : Valid cs) : ∀ (i b : Nat), need cs i b = true → b < i := by
  intro i
  induction i using Nat.strongRecOn with
  | ind i ih =>
    intro b hb
    cases h : cs[i]? with
    | none => rw [need_out h] at hb; cases hb
    | some c =>
      rcases (need_iff hV h b).mp hb with hm | ⟨f, hf, hn⟩
      · exact (hV i c h).2 b hm
      · have h1 := (hV i c h).2 f hf
        have h2 := ih f h1 b hn
        omega
theorem need_small {cs : List (List Nat)} (hV : Valid cs) (i : Nat) : (needN cs).getD i 0 < 2 ^ i := bits_lt fun b hb => need_lt hV i b hb
theorem need_lim (cs : List (List Nat)) (hV : Valid cs) (hl : cs.length ≤ 10) (b : Nat) (hb : b < cs.length) : (needN cs).getD b 0 < 2 ^ 100 :=
  Nat.lt_of_lt_of_le (need_small hV b) (Nat.pow_le_pow_right (by decide) (by omega))
/-- a set with the firsts of i, closed under firsts, has all that i needs -/
theorem need_closed {cs : List (List Nat)} (hV : Valid cs) (S : Nat → Prop) (hS : ∀ m c, S m → cs[m]? = some c → ∀ x ∈ c, S x) :
    ∀ (i : Nat) (c : List Nat), cs[i]? = some c → (∀ x ∈ c, S x) → ∀ b, need cs i b = true → S b := by
  intro i
  induction i using Nat.strongRecOn with
  | ind i ih =>
    intro c h hc b hb
    rcases (need_iff hV h b).mp hb with hm | ⟨f, hf, hn⟩
    · exact hc b hm
    · have h1 := (hV i c h).2 f hf
      cases hf2 : cs[f]? with
      | none => rw [need_out hf2] at hn; cases hn
      | some d => exact ih f h1 d hf2 (hS f d (hc f hf) hf2) b hn
theorem need_step {cs : List (List Nat)} (hV : Valid cs) : ∀ (i m x : Nat) (d : List Nat), need cs i m = true → cs[m]? = some d → x ∈ d → need cs i x = true := by
  intro i
  induction i using Nat.strongRecOn with
  | ind i ih =>
    intro m x d hn hd hx
    cases h : cs[i]? with
    | none => rw [need_out h] at hn; cases hn
    | some c =>
      rw [need_iff hV h]
      rcases (need_iff hV h m).mp hn with hm | ⟨f, hf, hn2⟩
      · exact .inr ⟨m, hm, (need_iff hV hd x).mpr (.inl hx)⟩
      · exact .inr ⟨f, hf, ih f ((hV i c h).2 f hf) m x d hn2 hd hx⟩
theorem lev_fold (acc : List Nat) (c : List Nat) : ∀ m : Nat, (c.foldl (fun m f => max m (acc.getD f 0 + 1)) m = m ∧ (∀ f ∈ c, acc.getD f 0 + 1 ≤ m)) ∨
    ((∃ f ∈ c, acc.getD f 0 + 1 = c.foldl (fun m f => max m (acc.getD f 0 + 1)) m) ∧ m ≤ c.foldl (fun m f => max m (acc.getD f 0 + 1)) m ∧ ∀ f ∈ c, acc.getD f 0 + 1 ≤ c.foldl (fun m f => max m (acc.getD f 0 + 1)) m) := by
  induction c with
  | nil => intro m; exact .inl ⟨rfl, fun f h => nomatch h⟩
  | cons a c ih =>
    intro m
    rw [List.foldl_cons]
    rcases ih (max m (acc.getD a 0 + 1)) with ⟨e, h⟩ | ⟨⟨f0, hf0, e⟩, h1, h2⟩
    · by_cases z : acc.getD a 0 + 1 ≤ m
      · rw [Nat.max_eq_left z] at e h ⊢
        refine .inl ⟨e, fun f hf => ?_⟩
        rcases List.mem_cons.mp hf with rfl | hf
        · exact z
        · exact h f hf
      · have z' : max m (acc.getD a 0 + 1) = acc.getD a 0 + 1 := Nat.max_eq_right (by omega)
        rw [z'] at e h ⊢
        refine .inr ⟨⟨a, List.mem_cons_self, e.symm⟩, by rw [e]; omega, fun f hf => ?_⟩
        rw [e]
        rcases List.mem_cons.mp hf with rfl | hf
        · exact Nat.le_refl _
        · exact h f hf
    · refine .inr ⟨⟨f0, List.mem_cons_of_mem _ hf0, e⟩, by have := Nat.le_max_left m (acc.getD a 0 + 1); omega, fun f hf => ?_⟩
      rcases List.mem_cons.mp hf with rfl | hf
      · have := Nat.le_max_right m (acc.getD f 0 + 1)
        omega
      · exact h2 f hf
theorem foldl_congr {l : List Nat} {p q : Nat → Nat → Nat} : ∀ (m : Nat), (∀ m, ∀ x ∈ l, p m x = q m x) → l.foldl p m = l.foldl q m := by
  induction l with
  | nil => intro m _; rfl
  | cons a l ih =>
    intro m h
    rw [List.foldl_cons, List.foldl_cons, h m a List.mem_cons_self]
    exact ih _ fun m x hx => h m x (List.mem_cons_of_mem _ hx)
theorem lev_rec {cs : List (List Nat)} (hV : Valid cs) {i : Nat} {c : List Nat} (h : cs[i]? = some c) :
    (∀ f ∈ c, lev cs f + 1 ≤ lev cs i) ∧ (lev cs i = 0 ∨ ∃ f ∈ c, lev cs f + 1 = lev cs i) := by
  have e : lev cs i = c.foldl (fun m f => max m ((levN cs).getD f 0 + 1)) 0 := by
    unfold lev
    rw [levN_g, gFold_at _ h]
    refine foldl_congr 0 fun m x hx => ?_
    rw [take_getD _ ((hV i c h).2 x hx)]
  rcases lev_fold (levN cs) c 0 with ⟨e2, h2⟩ | ⟨⟨f0, hf0, e2⟩, _, h2⟩
  · rw [e, e2]
    exact ⟨fun f hf => absurd (h2 f hf) (by omega), .inl rfl⟩
  · rw [e]
    exact ⟨h2, .inr ⟨f0, hf0, e2⟩⟩
/-- the greatest level of some blocks -/
def Mx (cs : List (List Nat)) (l : List Nat) (m : Nat) : Prop := (∀ x ∈ l, lev cs x ≤ m) ∧ (m = 0 ∨ ∃ x ∈ l, lev cs x = m)
theorem mx_step {cs : List (List Nat)} (hV : Valid cs) {layer later : List Nat} {m : Nat} (h : Mx cs layer m) (hin : ∀ x ∈ layer, ∃ c, cs[x]? = some c)
    (hl : ∀ y, y ∈ later ↔ ∃ x ∈ layer, ∃ c, cs[x]? = some c ∧ y ∈ c) : (later ≠ [] → ∃ m', m = m' + 1 ∧ Mx cs later m') ∧ (later = [] → m = 0) := by
  have pre : m ≠ 0 → ∃ f ∈ later, lev cs f + 1 = m := fun hm => by
    rcases h.2 with z | ⟨x, hx, e⟩
    · exact absurd z hm
    · obtain ⟨c, hc⟩ := hin x hx
      rcases (lev_rec hV hc).2 with z | ⟨f, hf, e2⟩
      · omega
      · exact ⟨f, (hl f).mpr ⟨x, hx, c, hc, hf⟩, by omega⟩
  refine ⟨fun hne => ?_, fun he => ?_⟩
  · obtain ⟨y, hy⟩ := List.exists_mem_of_ne_nil later hne
    obtain ⟨x, hx, c, hc, hyc⟩ := (hl y).mp hy
    have h1 := (lev_rec hV hc).1 y hyc
    have h2 := h.1 x hx
    obtain ⟨f, hf, e⟩ := pre (by omega)
    refine ⟨lev cs f, by omega, fun z hz => ?_, .inr ⟨f, hf, rfl⟩⟩
    obtain ⟨x2, hx2, c2, hc2, hz2⟩ := (hl z).mp hz
    have h3 := (lev_rec hV hc2).1 z hz2
    have h4 := h.1 x2 hx2
    omega
  · by_cases z : m = 0
    · exact z
    · obtain ⟨f, hf, _⟩ := pre z
      rw [he] at hf
      cases hf
theorem nodup_len : ∀ (n : Nat) {l : List Nat}, l.Nodup → (∀ x ∈ l, x < n) → l.length ≤ n
  | 0, [], _, _ => Nat.le_refl _
  | 0, a :: l, _, h => absurd (h a List.mem_cons_self) (by omega)
  | n + 1, l, hd, h => by
    by_cases hn : n ∈ l
    · have h1 := nodup_len n (hd.erase n) fun x hx => by
        have := (hd.mem_erase_iff.mp hx)
        have h2 := h x this.2
        have h3 : x ≠ n := this.1
        omega
      rw [List.length_erase_of_mem hn] at h1
      omega
    · have h1 := nodup_len n hd fun x hx => by
        have h2 := h x hx
        have h3 : x ≠ n := fun e => hn (e ▸ hx)
        omega
      omega
theorem inV_nis (h : Nat) (l : List Nat) : inV (ni h) (nis l) = decide (h ∈ l) := by
  induction l with
  | nil => rfl
  | cons a l ih =>
    have e : inV (ni h) (nis (a :: l)) = (eqV (ni a) (ni h) || inV (ni h) (nis l)) := rfl
    rw [e, ih]
    have e2 : eqV (ni a) (ni h) = decide (a = h) := by
      show ((a : Int) == (h : Int)) = decide (a = h)
      by_cases z : a = h
      · subst z; simp
      · have : ¬ ((a : Int) = (h : Int)) := by omega
        simp [z, this]
    rw [e2]
    by_cases z : a = h
    · subst z; simp
    · have z' : ¬ h = a := fun q => z q.symm
      simp [z, z']
theorem flat_nis (l : List Nat) : (nis l).all flatV = true := by
  rw [List.all_eq_true]
  intro x hx
  obtain ⟨n, _, rfl⟩ := List.mem_map.mp hx
  rfl
theorem shaped_nis : ∀ l : List Nat, SeqAt.shaped (.list (l.map fun n : Nat => PyData.int (n : Int))) = true := by
  have h1 : ∀ l : List Nat, PyData.canLayAll0 (l.map fun n : Nat => PyData.int (n : Int)) = true ∧ PyData.depthAll (l.map fun n : Nat => PyData.int (n : Int)) = 0 := by
    intro l
    induction l with
    | nil => exact ⟨by rw [List.map_nil, PyData.canLayAll0], by rw [List.map_nil, PyData.depthAll]⟩
    | cons n l ih =>
      rw [List.map_cons, PyData.canLayAll0, PyData.depthAll, ih.1, ih.2, PyData.canLay0, PyData.depth]
      exact ⟨rfl, rfl⟩
  intro l
  unfold SeqAt.shaped
  rw [PyData.canLay0, PyData.depth, (h1 l).1, (h1 l).2]
  rfl
theorem dpAll_nis {K : PySem.W.Frag} {H : Hp} : ∀ l : List Nat, DpAll K H (nis l) (l.map fun n : Nat => PyData.int (n : Int))
  | [] => .nil
  | n :: l => .cons (.int _) (dpAll_nis l)
/-- xs != [], a list of naturals, the empty one just laid -/
theorem ne_nil {K : PySem.W.Frag} {H : Hp} {a p : Addr} {l : List Nat} {Q : VK} (ha : H a = some (.lst (nis l))) (hp : H p = none) (q : Q (.bl (!decide (l = []))) (upd H p (.lst []))) :
    rNeD K (.ref a) (.ref p) (upd H p (.lst [])) Q := by
  have ha' : (upd H p (.lst [])) a = some (.lst (nis l)) := by rw [upd_ne (ne_of_none ha hp)]; exact ha
  refine ⟨_, .list [], .lst (sqL ha') (dpAll_nis l), .lst (sqL upd_same) .nil, shaped_nis l, by decide +kernel, ?_⟩
  cases l with
  | nil => exact q
  | cons n l => exact q
end Pit
namespace Pit
open PySem PySem.Spec PyProof.Rows L2
theorem alk_nis {K : PySem.W.Frag} {H : Hp} {a b : Addr} {l : List Nat} {n : Nat} (ha : H a = some (.tup (nis l))) (hb : H b = some (.tup (nis l))) (hl : l.length ≤ 100000) : Alk K H (n + 1) (.ref a) (.ref b) := by
  refine .inr ⟨a, b, nis l, nis l, rfl, rfl, .inr ⟨ha, hb⟩, by rw [nis_len]; exact hl, rfl, fun i u v h1 h2 => ?_⟩
  rw [h1] at h2
  cases h2
  obtain ⟨m, _, rfl⟩ := map_get h1
  cases n with
  | zero => exact ⟨rfl, .inr (.inr (.inl ⟨_, rfl⟩))⟩
  | succ n => exact .inl ⟨rfl, .inr (.inr (.inl ⟨_, rfl⟩))⟩
theorem map_getD (l : List Nat) : (List.range l.length).map (fun i => l.getD i 0) = l := by
  apply List.ext_getElem?
  intro i
  rw [List.getElem?_map]
  by_cases h : i < l.length
  · rw [List.getElem?_range h, Option.map_some, List.getD_eq_getElem?_getD, List.getElem?_eq_getElem h]
    rfl
  · rw [List.getElem?_eq_none (by rw [List.length_range]; omega), List.getElem?_eq_none (by omega)]
    rfl
theorem cover_eq {cs : List (List Nat)} (hV : Valid cs) {b : Nat} (hb : b < cs.length) : bitsN ((needN cs).getD b 0) = (List.range cs.length).filter fun o => need cs b o :=
  bitsN_range (Nat.lt_of_lt_of_le (need_small hV b) (Nat.pow_le_pow_right (by decide) (by omega)))
end Pit

set_option Elab.async false
set_option linter.all false
set_option maxRecDepth 100000
set_option maxHeartbeats 4000000
/-! lots and pits: the mathematics -/
namespace Pit
open PySem PySem.Spec PyProof.Rows L2
/-- a lot of blocks below n -/
def Lot (n : Nat) (l : List Nat) : Prop := l.Pairwise (· < ·) ∧ ∀ x ∈ l, x < n
/-- a lot that lacks nothing -/
def PitL (cs : List (List Nat)) (l : List Nat) : Prop := ∀ b ∈ l, ∀ f ∈ cs.getD b [], f ∈ l
def pitB (cs : List (List Nat)) (l : List Nat) : Bool := l.all fun b => (cs.getD b []).all fun f => decide (f ∈ l)
theorem pitB_iff {cs : List (List Nat)} {l : List Nat} : pitB cs l = true ↔ PitL cs l := by
  unfold pitB PitL
  rw [List.all_eq_true]
  constructor
  · intro h b hb f hf
    exact of_decide_eq_true (List.all_eq_true.mp (h b hb) f hf)
  · intro h b hb
    exact List.all_eq_true.mpr fun f hf => decide_eq_true (h b hb f hf)
theorem getD_at {cs : List (List Nat)} {b : Nat} {c : List Nat} (h : cs[b]? = some c) : cs.getD b [] = c := by
  rw [List.getD_eq_getElem?_getD, h]
  rfl
theorem at_getD {cs : List (List Nat)} {b : Nat} (h : b < cs.length) : cs[b]? = some (cs.getD b []) := by
  rw [List.getD_eq_getElem?_getD, List.getElem?_eq_getElem h]
  rfl
theorem Lot.len {n : Nat} {l : List Nat} (h : Lot n l) : l.length ≤ n := asc_len0 h.1 h.2
theorem lot_filter (p : Nat → Bool) (n : Nat) : Lot n ((List.range n).filter p) :=
  ⟨List.Pairwise.filter _ List.pairwise_lt_range, fun x hx => List.mem_range.mp (List.mem_filter.mp hx).1⟩
theorem mem_rgf {p : Nat → Bool} {n x : Nat} : x ∈ (List.range n).filter p ↔ x < n ∧ p x = true := by
  rw [List.mem_filter, List.mem_range]
theorem asc_sublist : ∀ {m l : List Nat}, l.Pairwise (· < ·) → m.Pairwise (· < ·) → (∀ x ∈ l, x ∈ m) → l.Sublist m
  | [], l, _, _, h => by
    cases l with
    | nil => exact List.Sublist.refl _
    | cons b l => exact absurd (h b List.mem_cons_self) List.not_mem_nil
  | a :: m, [], _, _, _ => List.nil_sublist _
  | a :: m, b :: l, hl, hm, h => by
    rw [List.pairwise_cons] at hl hm
    rcases List.mem_cons.mp (h b List.mem_cons_self) with e | hb
    · subst e
      refine (asc_sublist hl.2 hm.2 fun x hx => ?_).cons₂ b
      rcases List.mem_cons.mp (h x (List.mem_cons_of_mem _ hx)) with e | q
      · subst e
        exact absurd (hl.1 x hx) (Nat.lt_irrefl x)
      · exact q
    · have ab := hm.1 b hb
      refine (asc_sublist (List.pairwise_cons.mpr hl) hm.2 fun x hx => ?_).cons a
      rcases List.mem_cons.mp hx with e | hx'
      · subst e
        exact hb
      · rcases List.mem_cons.mp (h x hx) with e | q
        · subst e
          have := hl.1 x hx'
          omega
        · exact q
theorem asc_eq {l m : List Nat} (hl : l.Pairwise (· < ·)) (hm : m.Pairwise (· < ·)) (h : ∀ x ∈ l, x ∈ m) (hn : m.length ≤ l.length) : l = m :=
  (asc_sublist hl hm h).eq_of_length_le hn
theorem asc_ext {l m : List Nat} (hl : l.Pairwise (· < ·)) (hm : m.Pairwise (· < ·)) (h : ∀ x, x ∈ l ↔ x ∈ m) : l = m :=
  asc_eq hl hm (fun x => (h x).mp) (asc_sublist hm hl fun x => (h x).mpr).length_le
/-- the blocks of a lot's mask -/
theorem bits_mask {n : Nat} {l : List Nat} (h : Lot n l) : bitsN (maskN l) = l := by
  rw [bitsN_range (maskN_lt h.2)]
  refine asc_ext (lot_filter _ n).1 h.1 fun x => ?_
  rw [mem_rgf, maskN_bit, decide_eq_true_iff]
  exact ⟨fun z => z.2, fun z => ⟨h.2 x z, z⟩⟩
theorem joint_bit : ∀ (ms : List Nat) (m b : Nat), (ms.foldl (fun a x => a ||| x) m).testBit b = (m.testBit b || ms.any fun x => x.testBit b)
  | [], m, b => by simp
  | x :: ms, m, b => by rw [List.foldl_cons, joint_bit ms, Nat.testBit_or, List.any_cons, Bool.or_assoc]
/-- the smallest pit with all of l -/
def leastM (cs : List (List Nat)) (l : List Nat) : Nat := maskN l ||| (l.map fun b => (needN cs).getD b 0).foldl (fun a x => a ||| x) 0
def leastN (cs : List (List Nat)) (l : List Nat) : List Nat := bitsN (leastM cs l)
theorem leastM_bit {cs : List (List Nat)} {l : List Nat} (x : Nat) : (leastM cs l).testBit x = true ↔ x ∈ l ∨ ∃ b ∈ l, need cs b x = true := by
  unfold leastM
  rw [Nat.testBit_or, joint_bit, maskN_bit, Nat.zero_testBit, Bool.false_or, Bool.or_eq_true, decide_eq_true_iff, List.any_map, List.any_eq_true]
  rfl
theorem leastM_lt {cs : List (List Nat)} {l : List Nat} (hV : Valid cs) (h : Lot cs.length l) : leastM cs l < 2 ^ cs.length := bits_lt fun x hx => by
  rcases (leastM_bit x).mp hx with q | ⟨b, hb, q⟩
  · exact h.2 x q
  · have := need_lt hV b x q
    have := h.2 b hb
    omega
theorem least_eq {cs : List (List Nat)} {l : List Nat} (hV : Valid cs) (h : Lot cs.length l) : leastN cs l = (List.range cs.length).filter fun x => (leastM cs l).testBit x := bitsN_range (leastM_lt hV h)
theorem least_lot {cs : List (List Nat)} {l : List Nat} (hV : Valid cs) (h : Lot cs.length l) : Lot cs.length (leastN cs l) := by
  rw [least_eq hV h]
  exact lot_filter _ _
theorem least_mem {cs : List (List Nat)} {l : List Nat} (hV : Valid cs) (h : Lot cs.length l) (x : Nat) : x ∈ leastN cs l ↔ x ∈ l ∨ ∃ b ∈ l, need cs b x = true := by
  rw [least_eq hV h, mem_rgf, leastM_bit]
  refine ⟨fun z => z.2, fun z => ⟨?_, z⟩⟩
  rcases z with q | ⟨b, hb, q⟩
  · exact h.2 x q
  · have := need_lt hV b x q
    have := h.2 b hb
    omega
theorem least_has {cs : List (List Nat)} {l : List Nat} (hV : Valid cs) (h : Lot cs.length l) : ∀ x ∈ l, x ∈ leastN cs l := fun x hx => (least_mem hV h x).mpr (.inl hx)
theorem least_pit {cs : List (List Nat)} {l : List Nat} (hV : Valid cs) (h : Lot cs.length l) : PitL cs (leastN cs l) := by
  intro b hb f hf
  have hbn := (least_lot hV h).2 b hb
  rw [least_mem hV h] at hb ⊢
  rcases hb with q | ⟨c, hc, q⟩
  · exact .inr ⟨b, q, (need_iff hV (at_getD hbn) f).mpr (.inl hf)⟩
  · exact .inr ⟨c, hc, need_step hV c b f _ q (at_getD hbn) hf⟩
/-- a pit has all that its blocks need -/
theorem pit_need {cs : List (List Nat)} {p : List Nat} (hV : Valid cs) (hp : PitL cs p) {b x : Nat} (hb : b ∈ p) (hn : need cs b x = true) : x ∈ p := by
  cases hc : cs[b]? with
  | none => rw [need_out hc] at hn; cases hn
  | some c =>
    refine need_closed hV (fun y => y ∈ p) (fun m d hm hd y hy => hp m hm y (by rw [getD_at hd]; exact hy)) b c hc (fun y hy => hp b hb y (by rw [getD_at hc]; exact hy)) x hn
theorem least_min {cs : List (List Nat)} {l p : List Nat} (hV : Valid cs) (h : Lot cs.length l) (hp : PitL cs p) (hs : ∀ x ∈ l, x ∈ p) : ∀ x ∈ leastN cs l, x ∈ p := by
  intro x hx
  rcases (least_mem hV h x).mp hx with q | ⟨b, hb, q⟩
  · exact hs x q
  · exact pit_need hV hp (hs b hb) q
/-- the greatest pit with none of l -/
def greatP (cs : List (List Nat)) (l : List Nat) (b : Nat) : Bool := decide (((needN cs).getD b 0 ||| 2 ^ b) &&& maskN l = 0)
def greatN (cs : List (List Nat)) (l : List Nat) : List Nat := (List.range cs.length).filter (greatP cs l)
theorem and_zero {a b : Nat} : a &&& b = 0 ↔ ∀ i, a.testBit i = true → b.testBit i = false := by
  constructor
  · intro h i ha
    have z : (a &&& b).testBit i = false := by rw [h]; exact Nat.zero_testBit i
    rw [Nat.testBit_and, ha, Bool.true_and] at z
    exact z
  · intro h
    refine Nat.eq_of_testBit_eq fun i => ?_
    rw [Nat.testBit_and, Nat.zero_testBit]
    cases q : a.testBit i with
    | false => rfl
    | true => rw [h i q]; rfl
theorem greatP_iff {cs : List (List Nat)} {l : List Nat} {b : Nat} : greatP cs l b = true ↔ b ∉ l ∧ ∀ x, need cs b x = true → x ∉ l := by
  unfold greatP
  rw [decide_eq_true_iff, and_zero]
  have e : ∀ i, ((needN cs).getD b 0 ||| 2 ^ b).testBit i = (need cs b i || decide (b = i)) := fun i => by
    rw [Nat.testBit_or, Nat.testBit_two_pow]
    rfl
  constructor
  · intro h
    refine ⟨fun hb => ?_, fun x hx hl => ?_⟩
    · have := h b (by rw [e, decide_eq_true rfl, Bool.or_true])
      rw [maskN_bit, decide_eq_true hb] at this
      cases this
    · have := h x (by rw [e, hx, Bool.true_or])
      rw [maskN_bit, decide_eq_true hl] at this
      cases this
  · intro h i hi
    rw [e, Bool.or_eq_true, decide_eq_true_iff] at hi
    rw [maskN_bit]
    rcases hi with q | rfl
    · exact decide_eq_false (h.2 i q)
    · exact decide_eq_false h.1
theorem great_mem {cs : List (List Nat)} {l : List Nat} (x : Nat) : x ∈ greatN cs l ↔ x < cs.length ∧ x ∉ l ∧ ∀ y, need cs x y = true → y ∉ l := by
  unfold greatN
  rw [mem_rgf, greatP_iff]
theorem great_lot (cs : List (List Nat)) (l : List Nat) : Lot cs.length (greatN cs l) := lot_filter _ _
theorem great_out {cs : List (List Nat)} {l : List Nat} : ∀ x ∈ greatN cs l, x ∉ l := fun x hx => ((great_mem x).mp hx).2.1
theorem great_pit {cs : List (List Nat)} {l : List Nat} (hV : Valid cs) : PitL cs (greatN cs l) := by
  intro b hb f hf
  obtain ⟨h1, h2, h3⟩ := (great_mem b).mp hb
  have hc := at_getD h1
  have hf1 := (hV b _ hc).2 f hf
  have hn : need cs b f = true := (need_iff hV hc f).mpr (.inl hf)
  refine (great_mem f).mpr ⟨by omega, h3 f hn, fun y hy => h3 y ?_⟩
  exact (need_iff hV hc y).mpr (.inr ⟨f, hf, hy⟩)
theorem great_max {cs : List (List Nat)} {l p : List Nat} (hV : Valid cs) (hl : Lot cs.length p) (hp : PitL cs p) (hd : ∀ x ∈ l, x ∉ p) : ∀ x ∈ p, x ∈ greatN cs l := fun x hx =>
  (great_mem x).mpr ⟨hl.2 x hx, fun q => hd x q hx, fun y hy q => hd y q (pit_need hV hp hx hy)⟩
/-- a lot below n + 1: one below n, or such a one with n behind -/
theorem lot_split {n : Nat} {l : List Nat} (h : Lot (n + 1) l) : Lot n l ∨ ∃ m, l = m ++ [n] ∧ Lot n m := by
  rcases List.eq_nil_or_concat l with rfl | ⟨m, b, rfl⟩
  · exact .inl ⟨List.Pairwise.nil, fun x hx => nomatch hx⟩
  · rw [List.concat_eq_append] at h ⊢
    obtain ⟨h1, h2⟩ := h
    rw [List.pairwise_append] at h1
    have hb : b < n + 1 := h2 b (List.mem_append.mpr (.inr (List.mem_singleton.mpr rfl)))
    have hm : ∀ x ∈ m, x < b := fun x hx => h1.2.2 x hx b (List.mem_singleton.mpr rfl)
    by_cases e : b = n
    · subst e
      exact .inr ⟨m, rfl, h1.1, hm⟩
    · refine .inl ⟨List.pairwise_append.mpr h1, fun x hx => ?_⟩
      rcases List.mem_append.mp hx with q | q
      · have := hm x q
        omega
      · rw [List.mem_singleton.mp q]
        omega
theorem lot_more {n : Nat} {l : List Nat} (h : Lot n l) : Lot (n + 1) l := ⟨h.1, fun x hx => by have := h.2 x hx; omega⟩
theorem lot_snoc {n : Nat} {l : List Nat} (h : Lot n l) : Lot (n + 1) (l ++ [n]) := ⟨asc_snoc h.1 h.2, fun x hx => by
  rcases List.mem_append.mp hx with q | q
  · have := h.2 x q
    omega
  · rw [List.mem_singleton.mp q]
    omega⟩
theorem nis_inj : ∀ {l m : List Nat}, nis l = nis m → l = m
  | [], [], _ => rfl
  | [], _ :: _, h => by cases h
  | _ :: _, [], h => by cases h
  | x :: l, y :: m, h => by
    rw [nis, nis, List.map_cons, List.map_cons] at h
    have h1 := (List.cons.inj h).1
    have h2 := nis_inj (List.cons.inj h).2
    have h3 : ((x : Nat) : Int) = (y : Int) := V.int.inj h1
    rw [h2, show x = y by omega]
/-! ### lots on the heap -/
def natOf : V → Nat
  | .int i => i.toNat
  | _ => 0
/-- the lot at a -/
def lotAt (H : Hp) (a : Addr) : List Nat := match H a with
  | some (.tup xs) => xs.map natOf
  | _ => []
theorem lotAt_eq {H : Hp} {a : Addr} {l : List Nat} (h : H a = some (.tup (nis l))) : lotAt H a = l := by
  unfold lotAt
  rw [h]
  show (nis l).map natOf = l
  rw [List.map_map]
  exact (List.map_congr_left fun x _ => Int.toNat_natCast x).trans (List.map_id l)
/-- the tuple in the second place at t -/
def sndAt (H : Hp) (t : Addr) : Addr := match H t with
  | some (.tup [_, .ref u]) => u
  | _ => 0
theorem sndAt_eq {H : Hp} {t u : Addr} {x : V} (h : H t = some (.tup [x, .ref u])) : sndAt H t = u := by
  unfold sndAt
  rw [h]
/-- all lots below n -/
def AllLots (H : Hp) (n : Nat) (as : List Addr) : Prop := (∀ a ∈ as, ∃ l, H a = some (.tup (nis l)) ∧ Lot n l) ∧ ∀ l, Lot n l → ∃ a ∈ as, H a = some (.tup (nis l))
theorem AllLots.same {H H' : Hp} {n : Nat} {as : List Addr} (h : AllLots H n as) (s : Same H H') : AllLots H' n as :=
  ⟨fun a ha => let ⟨l, e, q⟩ := h.1 a ha; ⟨l, s _ _ e, q⟩, fun l q => let ⟨a, ha, e⟩ := h.2 l q; ⟨a, ha, s _ _ e⟩⟩
theorem allLots_step {H : Hp} {n : Nat} {as bs : List Addr} (h : AllLots H n as) (h1 : ∀ b ∈ bs, ∃ l, H b = some (.tup (nis (l ++ [n]))) ∧ Lot n l) (h2 : ∀ l, Lot n l → ∃ b ∈ bs, H b = some (.tup (nis (l ++ [n])))) :
    AllLots H (n + 1) (as ++ bs) := by
  refine ⟨fun a ha => ?_, fun l hl => ?_⟩
  · rcases List.mem_append.mp ha with q | q
    · obtain ⟨l, e, z⟩ := h.1 a q
      exact ⟨l, e, lot_more z⟩
    · obtain ⟨l, e, z⟩ := h1 a q
      exact ⟨_, e, lot_snoc z⟩
  · rcases lot_split hl with q | ⟨m, rfl, q⟩
    · obtain ⟨a, ha, e⟩ := h.2 l q
      exact ⟨a, List.mem_append.mpr (.inl ha), e⟩
    · obtain ⟨b, hb, e⟩ := h2 m q
      exact ⟨b, List.mem_append.mpr (.inr hb), e⟩
end Pit

set_option Elab.async false
set_option linter.all false
set_option maxRecDepth 100000
set_option maxHeartbeats 4000000
/-! masks of pits, worths: the mathematics -/
namespace Pit
open PySem PySem.Spec PyProof.Rows L2
def sumL (w : List Int) (l : List Nat) : Int := (l.map fun b => w.getD b 0).sum
theorem bitsN_mem {m n : Nat} (h : m < 2 ^ n) (x : Nat) : x ∈ bitsN m ↔ m.testBit x = true := by
  rw [bitsN_range h, mem_rgf]
  refine ⟨fun z => z.2, fun z => ⟨?_, z⟩⟩
  have h1 := Nat.ge_two_pow_of_testBit z
  exact (Nat.pow_lt_pow_iff_right (by decide : 1 < 2)).mp (Nat.lt_of_le_of_lt h1 h)
theorem lot_bits {m n : Nat} (h : m < 2 ^ n) : Lot n (bitsN m) := by
  rw [bitsN_range h]
  exact lot_filter _ _
theorem mask_bits {m n : Nat} (h : m < 2 ^ n) : maskN (bitsN m) = m := by
  refine Nat.eq_of_testBit_eq fun i => ?_
  rw [maskN_bit]
  cases q : m.testBit i with
  | true => exact decide_eq_true ((bitsN_mem h i).mpr q)
  | false => exact decide_eq_false fun z => by rw [(bitsN_mem h i).mp z] at q; cases q
/-- the masks of all pits of the first i blocks, each once -/
structure PitMs (cs : List (List Nat)) (i : Nat) (ms : List Nat) : Prop where
  nd : ms.Nodup
  lt : ∀ m ∈ ms, m < 2 ^ i
  pit : ∀ m ∈ ms, PitL cs (bitsN m)
  all : ∀ l, Lot i l → PitL cs l → maskN l ∈ ms
theorem PitMs.len {cs : List (List Nat)} {i : Nat} {ms : List Nat} (h : PitMs cs i ms) : ms.length ≤ 2 ^ i := nodup_len _ h.nd h.lt
theorem pitMs_zero (cs : List (List Nat)) : PitMs cs 0 [0] := by
  refine ⟨List.nodup_cons.mpr ⟨List.not_mem_nil, List.nodup_nil⟩, fun m hm => ?_, fun m hm => ?_, fun l hl _ => ?_⟩
  · rw [List.mem_singleton.mp hm]
    decide
  · rw [List.mem_singleton.mp hm]
    intro b hb
    exact absurd hb List.not_mem_nil
  · cases l with
    | nil => exact List.mem_singleton.mpr rfl
    | cons x l => exact absurd (hl.2 x List.mem_cons_self) (by omega)
theorem lt_pow_bit {m i : Nat} (h : m < 2 ^ i) : m.testBit i = false := Nat.testBit_lt_two_pow h
theorem or_pow_bit (m i x : Nat) : (m ||| 2 ^ i).testBit x = (m.testBit x || decide (i = x)) := by
  rw [Nat.testBit_or, Nat.testBit_two_pow]
theorem or_pow_lt {m i : Nat} (h : m < 2 ^ i) : m ||| 2 ^ i < 2 ^ (i + 1) := bits_lt fun x hx => by
  rw [or_pow_bit, Bool.or_eq_true, decide_eq_true_iff] at hx
  rcases hx with q | q
  · have := (lot_bits h).2 x ((bitsN_mem h x).mpr q)
    omega
  · omega
theorem or_pow_inj {m m' i : Nat} (h : m < 2 ^ i) (h' : m' < 2 ^ i) (e : m ||| 2 ^ i = m' ||| 2 ^ i) : m = m' := by
  refine Nat.eq_of_testBit_eq fun x => ?_
  have q : (m ||| 2 ^ i).testBit x = (m' ||| 2 ^ i).testBit x := by rw [e]
  rw [or_pow_bit, or_pow_bit] at q
  by_cases z : i = x
  · subst z
    rw [lt_pow_bit h, lt_pow_bit h']
  · rw [decide_eq_false z, Bool.or_false, Bool.or_false] at q
    exact q
/-- the pits with block i, of those without it -/
def withBlk (c : List Nat) (i : Nat) (ms : List Nat) : List Nat := (ms.filter fun m => c.all fun f => m.testBit f).map fun m => m ||| 2 ^ i
theorem pitMs_step {cs : List (List Nat)} {i : Nat} {ms : List Nat} (hV : Valid cs) (hi : i < cs.length) (h : PitMs cs i ms) : PitMs cs (i + 1) (ms ++ withBlk (cs.getD i []) i ms) := by
  have hc := at_getD hi
  have hlt := (hV i _ hc).2
  have inw : ∀ x, x ∈ withBlk (cs.getD i []) i ms ↔ ∃ m ∈ ms, (∀ f ∈ cs.getD i [], m.testBit f = true) ∧ m ||| 2 ^ i = x := fun x => by
    unfold withBlk
    rw [List.mem_map]
    constructor
    · rintro ⟨m, hm, e⟩
      obtain ⟨h1, h2⟩ := List.mem_filter.mp hm
      exact ⟨m, h1, List.all_eq_true.mp h2, e⟩
    · rintro ⟨m, h1, h2, e⟩
      exact ⟨m, List.mem_filter.mpr ⟨h1, List.all_eq_true.mpr h2⟩, e⟩
  refine ⟨?_, fun x hx => ?_, fun x hx => ?_, fun l hl hp => ?_⟩
  · refine List.nodup_append.mpr ⟨h.nd, ?_, fun a ha b hb e => ?_⟩
    · unfold withBlk
      have h2 : (ms.filter fun m => (cs.getD i []).all fun f => m.testBit f).Pairwise (fun a b => a ≠ b) := h.nd.filter _
      refine List.pairwise_map.mpr (List.Pairwise.imp_of_mem (fun {a b} ha hb ne e => ne ?_) h2)
      exact or_pow_inj (h.lt a (List.mem_filter.mp ha).1) (h.lt b (List.mem_filter.mp hb).1) e
    · obtain ⟨m, hm, _, e2⟩ := (inw b).mp hb
      have z1 := lt_pow_bit (h.lt a ha)
      have z2 : b.testBit i = true := by rw [← e2, or_pow_bit, decide_eq_true rfl, Bool.or_true]
      rw [e, z2] at z1
      cases z1
  · rcases List.mem_append.mp hx with q | q
    · exact Nat.lt_of_lt_of_le (h.lt x q) (Nat.pow_le_pow_right (by decide) (Nat.le_succ i))
    · obtain ⟨m, hm, _, rfl⟩ := (inw x).mp q
      exact or_pow_lt (h.lt m hm)
  · rcases List.mem_append.mp hx with q | q
    · exact h.pit x q
    · obtain ⟨m, hm, hall, rfl⟩ := (inw x).mp q
      have hm2 := h.lt m hm
      intro b hb f hf
      rw [bitsN_mem (or_pow_lt hm2)] at hb ⊢
      rw [or_pow_bit, Bool.or_eq_true, decide_eq_true_iff] at hb ⊢
      rcases hb with z | z
      · exact .inl ((bitsN_mem hm2 f).mp (h.pit m hm b ((bitsN_mem hm2 b).mpr z) f hf))
      · rw [← z] at hf
        exact .inl (hall f hf)
  · rcases lot_split hl with q | ⟨m, rfl, q⟩
    · exact List.mem_append.mpr (.inl (h.all l q hp))
    · refine List.mem_append.mpr (.inr ((inw _).mpr ⟨maskN m, h.all m q fun b hb f hf => ?_, fun f hf => ?_, (maskN_snoc m i).symm⟩))
      · have z := hp b (List.mem_append.mpr (.inl hb)) f hf
        have hbi := q.2 b hb
        have hfb := (hV b _ (at_getD (Nat.lt_trans hbi hi))).2 f hf
        rcases List.mem_append.mp z with y | y
        · exact y
        · rw [List.mem_singleton.mp y] at hfb
          omega
      · have z := hp i (List.mem_append.mpr (.inr (List.mem_singleton.mpr rfl))) f hf
        have hfi := hlt f hf
        rw [maskN_bit]
        rcases List.mem_append.mp z with y | y
        · exact decide_eq_true y
        · rw [List.mem_singleton.mp y] at hfi
          omega
/-! the dict of worths -/
def kvsOf (w : List Int) (ms : List Nat) : List (Key × V) := ms.map fun m : Nat => ((Sum.inl (m : Int) : Key), V.int (sumL w (bitsN m)))
theorem valV_kvs {w : List Int} {m : Nat} : ∀ {ms : List Nat}, m ∈ ms → valV (kvsOf w ms) (Sum.inl (m : Int)) = some (.int (sumL w (bitsN m)))
  | [], h => absurd h List.not_mem_nil
  | x :: ms, h => by
    by_cases e : x = m
    · subst e
      exact valV_pos rfl
    · rcases List.mem_cons.mp h with z | z
      · exact absurd z.symm e
      · refine (valV_neg fun q => e ?_).trans (valV_kvs z)
        have := Sum.inl.inj q
        omega
theorem putK_kvs {w : List Int} {m : Nat} {ms : List Nat} (h : m ∉ ms) : putK (kvsOf w ms) (Sum.inl (m : Int)) (.int (sumL w (bitsN m))) = kvsOf w (ms ++ [m]) := by
  unfold putK
  rw [if_neg]
  · unfold kvsOf
    rw [List.map_append]
    rfl
  · intro q
    obtain ⟨kv, h1, h2⟩ := List.any_eq_true.mp q
    obtain ⟨x, hx, rfl⟩ := List.mem_map.mp h1
    have e := Sum.inl.inj (of_decide_eq_true h2)
    have : x = m := by omega
    rw [this] at hx
    exact h hx
theorem kvs_len (w : List Int) (ms : List Nat) : (kvsOf w ms).length = ms.length := List.length_map _
theorem kvs_at {w : List Int} {ms : List Nat} {i : Nat} {k : Key} {v : V} (h : (kvsOf w ms)[i]? = some (k, v)) : ∃ m, ms[i]? = some m ∧ k = Sum.inl (m : Int) ∧ v = .int (sumL w (bitsN m)) := by
  unfold kvsOf at h
  rw [List.getElem?_map] at h
  cases e : ms[i]? with
  | none => rw [e] at h; cases h
  | some m => rw [e] at h; cases h; exact ⟨m, rfl, rfl, rfl⟩
/-! the best pits -/
def BestL (cs : List (List Nat)) (w : List Int) (l : List Nat) : Prop := Lot cs.length l ∧ PitL cs l ∧ ∀ p, Lot cs.length p → PitL cs p → sumL w p ≤ sumL w l
def MostL (cs : List (List Nat)) (w : List Int) (b : Nat) (want : Bool) (M : Int) : Prop :=
  (∃ l, Lot cs.length l ∧ PitL cs l ∧ decide (b ∈ l) = want ∧ sumL w l = M) ∧ ∀ l, Lot cs.length l → PitL cs l → decide (b ∈ l) = want → sumL w l ≤ M
theorem mostL_uniq {cs : List (List Nat)} {w : List Int} {b : Nat} {want : Bool} {M N : Int} (h : MostL cs w b want M) (h' : MostL cs w b want N) : M = N := by
  obtain ⟨⟨l, a1, a2, a3, a4⟩, a5⟩ := h
  obtain ⟨⟨m, b1, b2, b3, b4⟩, b5⟩ := h'
  have h1 := b5 l a1 a2 a3
  have h2 := a5 m b1 b2 b3
  omega
/-- what all, some, none of the best pits have -/
def FateIs (cs : List (List Nat)) (w : List Int) (b : Nat) (s : Str) : Prop :=
  (s = "must" ∧ ∀ l, BestL cs w l → b ∈ l) ∨ (s = "may" ∧ (∃ l, BestL cs w l ∧ b ∈ l) ∧ ∃ l, BestL cs w l ∧ b ∉ l) ∨ (s = "never" ∧ ∀ l, BestL cs w l → b ∉ l)
theorem fate_uniq {cs : List (List Nat)} {w : List Int} {b : Nat} {s t : Str} (hb : ∃ l, BestL cs w l) (h : FateIs cs w b s) (h' : FateIs cs w b t) : s = t := by
  obtain ⟨l0, h0⟩ := hb
  rcases h with ⟨rfl, a⟩ | ⟨rfl, ⟨l1, a1, a2⟩, l2, a3, a4⟩ | ⟨rfl, a⟩ <;> rcases h' with ⟨rfl, c⟩ | ⟨rfl, ⟨l3, c1, c2⟩, l4, c3, c4⟩ | ⟨rfl, c⟩
  · rfl
  · exact absurd (a l4 c3) c4
  · exact absurd (a l0 h0) (c l0 h0)
  · exact absurd (c l2 a3) a4
  · rfl
  · exact absurd a2 (c l1 a1)
  · exact absurd (c l0 h0) (a l0 h0)
  · exact absurd c2 (a l3 c1)
  · rfl
/-- more with than without: all best pits have it -/
theorem must_iff {cs : List (List Nat)} {w : List Int} {b : Nat} {M N : Int} (h : MostL cs w b true M) (h' : MostL cs w b false N) : N < M ↔ ∀ l, BestL cs w l → b ∈ l := by
  obtain ⟨⟨p, a1, a2, a3, a4⟩, a5⟩ := h
  obtain ⟨⟨q, b1, b2, b3, b4⟩, b5⟩ := h'
  constructor
  · intro z l hl
    by_cases e : b ∈ l
    · exact e
    · have h1 := b5 l hl.1 hl.2.1 (decide_eq_false e)
      have h2 := hl.2.2 p a1 a2
      omega
  · intro z
    by_cases e : N < M
    · exact e
    · have hq : BestL cs w q := ⟨b1, b2, fun r r1 r2 => by
        by_cases e2 : b ∈ r
        · have := a5 r r1 r2 (decide_eq_true e2)
          omega
        · have := b5 r r1 r2 (decide_eq_false e2)
          omega⟩
      exact absurd (z q hq) (of_decide_eq_false b3)
theorem never_iff {cs : List (List Nat)} {w : List Int} {b : Nat} {M N : Int} (h : MostL cs w b true M) (h' : MostL cs w b false N) : M < N ↔ ∀ l, BestL cs w l → b ∉ l := by
  obtain ⟨⟨p, a1, a2, a3, a4⟩, a5⟩ := h
  obtain ⟨⟨q, b1, b2, b3, b4⟩, b5⟩ := h'
  constructor
  · intro z l hl e
    have h1 := a5 l hl.1 hl.2.1 (decide_eq_true e)
    have h2 := hl.2.2 q b1 b2
    omega
  · intro z
    by_cases e : M < N
    · exact e
    · have hp : BestL cs w p := ⟨a1, a2, fun r r1 r2 => by
        by_cases e2 : b ∈ r
        · have := a5 r r1 r2 (decide_eq_true e2)
          omega
        · have := b5 r r1 r2 (decide_eq_false e2)
          omega⟩
      exact absurd (of_decide_eq_true a3) (z p hp)
theorem lot_nil (n : Nat) : Lot n [] := ⟨List.Pairwise.nil, fun x hx => absurd hx List.not_mem_nil⟩
theorem pit_nil (cs : List (List Nat)) : PitL cs [] := fun b hb => absurd hb List.not_mem_nil
theorem lot_one {n b : Nat} (h : b < n) : Lot n [b] := ⟨List.pairwise_singleton _ _, fun x hx => by rw [List.mem_singleton.mp hx]; exact h⟩
end Pit

set_option Elab.async false
set_option linter.all false
set_option maxRecDepth 100000
set_option maxHeartbeats 4000000
/-! promises of the defs of lots and pits -/
namespace Pit
open PySem PySem.Spec PyProof.Rows L2
theorem k_rep {X : Cx} {K : PySem.W.Frag} (hK : X.K = K) : OpR X (binaryOp .Mult) (rRepT K) := hK ▸ op_repT
/-- a lot of the ground g: its tuple at a -/
def LotAt (H : Hp) (n : Nat) (a : Addr) (l : List Nat) : Prop := H a = some (.tup (nis l)) ∧ Lot n l
theorem LotAt.same {H H' : Hp} {n : Nat} {a : Addr} {l : List Nat} (h : LotAt H n a l) (s : Same H H') : LotAt H' n a l := ⟨s _ _ h.1, h.2⟩
/-- whether a mask's lot is a pit, as the program asks it -/
def pitM (cs : List (List Nat)) (m : Nat) : Bool := (bitsN m).all fun b => (cs.getD b []).all fun f => m.testBit f
theorem pitM_mask {cs : List (List Nat)} {n : Nat} {l : List Nat} (h : Lot n l) : pitM cs (maskN l) = pitB cs l := by
  unfold pitM pitB
  rw [bits_mask h]
  congr 1
  funext b
  congr 1
  funext f
  exact maskN_bit l f
theorem and_not {x m : Nat} : (Builtin.bitAnd ((x : Nat) : Int) (Builtin.bitNot ((m : Nat) : Int)) = 0) ↔ ∀ i, x.testBit i = true → m.testBit i = true := by
  rw [bitAnd_not, bitAnd_pp (Int.natCast_nonneg _) (Int.natCast_nonneg _), Int.toNat_natCast, Int.toNat_natCast]
  constructor
  · intro h i hi
    have e : x &&& m = x := by omega
    have z : (x &&& m).testBit i = true := by rw [e]; exact hi
    rw [Nat.testBit_and, hi, Bool.true_and] at z
    exact z
  · intro h
    have e : x &&& m = x := by
      refine Nat.eq_of_testBit_eq fun i => ?_
      rw [Nat.testBit_and]
      cases q : x.testBit i with
      | false => rfl
      | true => rw [h i q]; rfl
    omega
theorem and_notB (c : List Nat) (m : Nat) : decide (V.int (Builtin.bitAnd ((maskN c : Nat) : Int) (Builtin.bitNot ((m : Nat) : Int))) = V.int 0) = c.all fun f => m.testBit f := by
  have e : (V.int (Builtin.bitAnd ((maskN c : Nat) : Int) (Builtin.bitNot ((m : Nat) : Int))) = V.int 0) ↔ (c.all fun f => m.testBit f) = true := by
    rw [List.all_eq_true]
    constructor
    · intro h f hf
      exact and_not.mp (V.int.inj h) f (by rw [maskN_bit]; exact decide_eq_true hf)
    · intro h
      rw [and_not.mpr fun i hi => h i (by rw [maskN_bit] at hi; exact of_decide_eq_true hi)]
  cases q : c.all fun f => m.testBit f with
  | true => exact decide_eq_true (e.mpr q)
  | false => exact decide_eq_false fun z => by rw [e.mp z] at q; cases q
theorem greatP_eq (cs : List (List Nat)) (l : List Nat) (b : Nat) : decide (V.int (Builtin.bitAnd (Builtin.bitOr (((needN cs).getD b 0 : Nat) : Int) ((1 : Int) * 2 ^ ((b : Int)).toNat)) ((maskN l : Nat) : Int)) = V.int 0) = greatP cs l b := by
  have e : Builtin.bitAnd (Builtin.bitOr (((needN cs).getD b 0 : Nat) : Int) ((1 : Int) * 2 ^ ((b : Int)).toNat)) ((maskN l : Nat) : Int) = (((((needN cs).getD b 0 ||| 2 ^ b) &&& maskN l) : Nat) : Int) := by
    rw [Int.one_mul, Int.toNat_natCast, ← PySem.W.kbt_cast, or_nat, bitAnd_pp (Int.natCast_nonneg _) (Int.natCast_nonneg _), Int.toNat_natCast, Int.toNat_natCast]
  rw [e]
  unfold greatP
  exact ni_dec (((needN cs).getD b 0 ||| 2 ^ b) &&& maskN l) 0
def spJoint (K : PySem.W.Frag) : Sp := fun vs H Q _ => ∃ (a : Addr) (ms : List Nat), vs = [.ref a] ∧ SqL K H a (nis ms) ∧ Q (ni (ms.foldl (fun a x => a ||| x) 0)) H
def spPitMask : Sp := fun vs H Q _ => ∃ (p : Addr) (cs : List (List Nat)) (m : Nat), vs = [.ref p, ni m] ∧ CovAt H p cs ∧ Valid cs ∧ cs.length ≤ 10 ∧ m < 2 ^ cs.length ∧ ∀ H', Same H H' → Q (.bl (pitM cs m)) H'
def spIsLot (C : Addr) : Sp := fun vs H Q _ => ∃ (g p a : Addr) (cs : List (List Nat)) (l : List Nat), vs = [.ref g, .ref a] ∧ GrAt C H g p cs ∧ LotAt H cs.length a l ∧ ∀ H', Same H H' → Q (.bl true) H'
def spIsPit (C : Addr) : Sp := fun vs H Q _ => ∃ (g p a : Addr) (cs : List (List Nat)) (l : List Nat), vs = [.ref g, .ref a] ∧ GrAt C H g p cs ∧ LotAt H cs.length a l ∧ ∀ H', Same H H' → Q (.bl (pitB cs l)) H'
def spCkLot (C : Addr) : Sp := fun vs H Q _ => ∃ (g p a : Addr) (cs : List (List Nat)) (l : List Nat), vs = [.ref g, .ref a] ∧ GrAt C H g p cs ∧ LotAt H cs.length a l ∧ ∀ H', Same H H' → Q .non H'
def spLeast (C : Addr) : Sp := fun vs H Q _ => ∃ (g p a : Addr) (cs : List (List Nat)) (l : List Nat), vs = [.ref g, .ref a] ∧ GrAt C H g p cs ∧ LotAt H cs.length a l ∧
  ∀ (q : Addr) (H' : Hp), Same H H' → H q = none → H' q = some (.tup (nis (leastN cs l))) → Q (.ref q) H'
def spGreat (C : Addr) : Sp := fun vs H Q _ => ∃ (g p a : Addr) (cs : List (List Nat)) (l : List Nat), vs = [.ref g, .ref a] ∧ GrAt C H g p cs ∧ LotAt H cs.length a l ∧
  ∀ (q : Addr) (H' : Hp), Same H H' → H q = none → H' q = some (.tup (nis (greatN cs l))) → Q (.ref q) H'
/-! the law's helpers -/
/-- as: the lots below n, in the order of their sizes -/
def SortedLots (H : Hp) (as : List Addr) : Prop := as.Pairwise fun a b => (lotAt H a).length ≤ (lotAt H b).length
def spLots : Sp := fun vs H Q _ => ∃ n : Nat, vs = [ni n] ∧ n ≤ 8 ∧
  ∀ (q : Addr) (as : List Addr) (H' : Hp), Same H H' → H q = none → H' q = some (.lst (as.map V.ref)) → AllLots H' n as → SortedLots H' as → as.length ≤ 1000 → Q (.ref q) H'
def spLawPit : Sp := fun vs H Q _ => ∃ (p a : Addr) (cs : List (List Nat)) (l : List Nat), vs = [.ref p, .ref a] ∧ CovAt H p cs ∧ Valid cs ∧ cs.length ≤ 10 ∧ LotAt H cs.length a l ∧ ∀ H', Same H H' → Q (.bl (pitB cs l)) H'
/-- as: the pits, in the order of their sizes -/
def AllPits (H : Hp) (cs : List (List Nat)) (as : List Addr) : Prop := (∀ a ∈ as, ∃ l, LotAt H cs.length a l ∧ PitL cs l) ∧ (∀ l, Lot cs.length l → PitL cs l → ∃ a ∈ as, H a = some (.tup (nis l))) ∧ SortedLots H as
def spLawPits : Sp := fun vs H Q _ => ∃ (p : Addr) (cs : List (List Nat)), vs = [.ref p] ∧ CovAt H p cs ∧ Valid cs ∧ cs.length ≤ 8 ∧
  ∀ (q : Addr) (as : List Addr) (H' : Hp), Same H H' → H q = none → H' q = some (.lst (as.map V.ref)) → AllPits H' cs as → as.length ≤ 1000 → Q (.ref q) H'
def spMixedLot (K : PySem.W.Frag) : Sp := fun vs H Q _ => ∃ (r a : Addr) (ns : List Int) (m : Nat), vs = [.ref r, ni m] ∧ RowAt K H r a ns ∧ m ≤ 100 ∧
  ∀ (q : Addr) (l : List Nat) (H' : Hp), RowAt K H' r a ns → Fx r H H' → H q = none → LotAt H' m q l → Q (.ref q) H'
theorem sorted_same {H H' : Hp} {as : List Addr} (h : SortedLots H as) (hl : ∀ a ∈ as, ∃ l, H a = some (.tup (nis l))) (s : ∀ a ∈ as, ∀ o, H a = some o → H' a = some o) : SortedLots H' as := by
  refine List.Pairwise.imp_of_mem (fun {a b} ha hb z => ?_) h
  obtain ⟨l, e⟩ := hl a ha
  obtain ⟨m, e'⟩ := hl b hb
  rw [lotAt_eq e, lotAt_eq e'] at z
  rw [lotAt_eq (s a ha _ e), lotAt_eq (s b hb _ e')]
  exact z
end Pit

set_option Elab.async false
set_option linter.all false
set_option maxRecDepth 100000
set_option maxHeartbeats 4000000
namespace Pit
open PySem PySem.Spec PyProof.Rows L2
/-- what a comprehension within one goes over, the written part said by name -/
theorem k_seq {X : Cx} {K : PySem.W.Frag} (hK : X.K = K) {tg l : Expr} {tl : TE} (hl : PE X l tl) : PI X tg l (fun σ H R => iList K tl σ H R ∨ iTup K tl σ H R) := hK ▸ pi_seq hl
/-- xs == [], a list of naturals, the empty one just laid -/
theorem eq_nil {K : PySem.W.Frag} {H : Hp} {a p : Addr} {l : List Nat} {Q : VK} (ha : H a = some (.lst (nis l))) (hp : H p = none) (q : Q (.bl (decide (l = []))) (upd H p (.lst []))) :
    rEqD K (.ref a) (.ref p) (upd H p (.lst [])) Q := by
  have ha' : (upd H p (.lst [])) a = some (.lst (nis l)) := by rw [upd_ne (ne_of_none ha hp)]; exact ha
  refine ⟨_, .list [], .lst (sqL ha') (dpAll_nis l), .lst (sqL upd_same) .nil, shaped_nis l, by decide +kernel, ?_⟩
  cases l with
  | nil => exact q
  | cons n l => exact q
theorem AllPits.fx {H H' : Hp} {cs : List (List Nat)} {as : List Addr} {r : Addr} {xs : List V} (h : AllPits H cs as) (hr : H r = some (.lst xs)) (s : Fx r H H') : AllPits H' cs as := by
  have ne : ∀ {q ys}, H q = some (.tup ys) → q ≠ r := fun e => ne_of e hr (by intro z; cases z)
  refine ⟨fun a ha => ?_, fun l h1 h2 => ?_, ?_⟩
  · obtain ⟨l, e, p⟩ := h.1 a ha
    exact ⟨l, ⟨s _ _ (ne e.1) e.1, e.2⟩, p⟩
  · obtain ⟨a, ha, e⟩ := h.2.1 l h1 h2
    exact ⟨a, ha, s _ _ (ne e) e⟩
  · refine sorted_same h.2.2 (fun a ha => let ⟨l, e, _⟩ := h.1 a ha; ⟨l, e.1⟩) fun a ha o e => ?_
    obtain ⟨l, e2, _⟩ := h.1 a ha
    exact s _ _ (ne e2.1) e
theorem AllPits.same {H H' : Hp} {cs : List (List Nat)} {as : List Addr} (h : AllPits H cs as) (s : Same H H') : AllPits H' cs as := by
  refine ⟨fun a ha => ?_, fun l h1 h2 => ?_, ?_⟩
  · obtain ⟨l, e, p⟩ := h.1 a ha
    exact ⟨l, e.same s, p⟩
  · obtain ⟨a, ha, e⟩ := h.2.1 l h1 h2
    exact ⟨a, ha, s _ _ e⟩
  · exact sorted_same h.2.2 (fun a ha => let ⟨l, e, _⟩ := h.1 a ha; ⟨l, e.1⟩) fun a ha o e => s _ _ e
/-- the first of the pits with all of l is the smallest one -/
theorem first_least {H : Hp} {cs : List (List Nat)} {as : List Addr} {l : List Nat} (hV : Valid cs) (h : AllPits H cs as) (hl : Lot cs.length l) :
    ∃ b rest, as.filter (fun a => l.all fun x => decide (x ∈ lotAt H a)) = b :: rest ∧ H b = some (.tup (nis (leastN cs l))) := by
  obtain ⟨a0, ha0, e0⟩ := h.2.1 (leastN cs l) (least_lot hV hl) (least_pit hV hl)
  have hin : a0 ∈ as.filter (fun a => l.all fun x => decide (x ∈ lotAt H a)) := by
    refine List.mem_filter.mpr ⟨ha0, ?_⟩
    rw [lotAt_eq e0, List.all_eq_true]
    exact fun x hx => decide_eq_true (least_has hV hl x hx)
  have hsrt : (as.filter (fun a => l.all fun x => decide (x ∈ lotAt H a))).Pairwise fun a b => (lotAt H a).length ≤ (lotAt H b).length := List.Pairwise.filter _ h.2.2
  cases q : as.filter (fun a => l.all fun x => decide (x ∈ lotAt H a)) with
  | nil => rw [q] at hin; exact absurd hin List.not_mem_nil
  | cons b rest =>
    refine ⟨b, rest, rfl, ?_⟩
    have hb : b ∈ as.filter (fun a => l.all fun x => decide (x ∈ lotAt H a)) := by rw [q]; exact List.mem_cons_self
    obtain ⟨hb1, hb2⟩ := List.mem_filter.mp hb
    obtain ⟨lb, eb, pb⟩ := h.1 b hb1
    rw [lotAt_eq eb.1, List.all_eq_true] at hb2
    have hle : (lotAt H b).length ≤ (lotAt H a0).length := by
      rw [q] at hin hsrt
      rcases List.mem_cons.mp hin with e | z
      · rw [e]
        exact Nat.le_refl _
      · exact (List.pairwise_cons.mp hsrt).1 a0 z
    rw [lotAt_eq eb.1, lotAt_eq e0] at hle
    have := asc_eq (least_lot hV hl).1 eb.2.1 (least_min hV hl pb fun x hx => of_decide_eq_true (hb2 x hx)) hle
    rw [this]
    exact eb.1
/-- the last of the pits with none of l is the greatest one -/
theorem last_great {H : Hp} {cs : List (List Nat)} {as : List Addr} {l : List Nat} (hV : Valid cs) (h : AllPits H cs as) :
    ∃ rest b, as.filter (fun a => l.all fun x => !decide (x ∈ lotAt H a)) = rest ++ [b] ∧ H b = some (.tup (nis (greatN cs l))) := by
  obtain ⟨a0, ha0, e0⟩ := h.2.1 (greatN cs l) (great_lot cs l) (great_pit hV)
  have hin : a0 ∈ as.filter (fun a => l.all fun x => !decide (x ∈ lotAt H a)) := by
    refine List.mem_filter.mpr ⟨ha0, ?_⟩
    rw [lotAt_eq e0, List.all_eq_true]
    intro x hx
    have z : x ∉ greatN cs l := fun z => great_out x z hx
    rw [decide_eq_false z]
    rfl
  have hsrt : (as.filter (fun a => l.all fun x => !decide (x ∈ lotAt H a))).Pairwise fun a b => (lotAt H a).length ≤ (lotAt H b).length := List.Pairwise.filter _ h.2.2
  rcases List.eq_nil_or_concat (as.filter (fun a => l.all fun x => !decide (x ∈ lotAt H a))) with q | ⟨rest, b, q⟩
  · rw [q] at hin
    exact absurd hin List.not_mem_nil
  · rw [List.concat_eq_append] at q
    refine ⟨rest, b, q, ?_⟩
    have hb : b ∈ as.filter (fun a => l.all fun x => !decide (x ∈ lotAt H a)) := by rw [q]; exact List.mem_append.mpr (.inr (List.mem_singleton.mpr rfl))
    obtain ⟨hb1, hb2⟩ := List.mem_filter.mp hb
    obtain ⟨lb, eb, pb⟩ := h.1 b hb1
    rw [lotAt_eq eb.1, List.all_eq_true] at hb2
    have hle : (lotAt H a0).length ≤ (lotAt H b).length := by
      rw [q] at hin hsrt
      rcases List.mem_append.mp hin with z | z
      · exact (List.pairwise_append.mp hsrt).2.2 a0 z b (List.mem_singleton.mpr rfl)
      · rw [List.mem_singleton.mp z]
        exact Nat.le_refl _
    rw [lotAt_eq eb.1, lotAt_eq e0] at hle
    have := asc_eq eb.2.1 (great_lot cs l).1 (great_max hV eb.2 pb fun x hx z => by
      have := hb2 x hx
      rw [decide_eq_true z] at this
      cases this) hle
    rw [← this]
    exact eb.1
/-! the fan -/
def fan (n : Nat) : List (List Nat) := [] :: List.replicate n [0]
theorem fan_len (n : Nat) : (fan n).length = n + 1 := by
  unfold fan
  rw [List.length_cons, List.length_replicate]
theorem fan_at {n i : Nat} {c : List Nat} (h : (fan n)[i]? = some c) : (i = 0 ∧ c = []) ∨ (1 ≤ i ∧ c = [0]) := by
  cases i with
  | zero =>
    cases h
    exact .inl ⟨rfl, rfl⟩
  | succ i =>
    have h' : (List.replicate n [0])[i]? = some c := h
    rw [List.getElem?_replicate] at h'
    split at h'
    · cases h'
      exact .inr ⟨Nat.succ_le_succ (Nat.zero_le _), rfl⟩
    · cases h'
theorem fan_valid (n : Nat) : Valid (fan n) := by
  intro i c h
  rcases fan_at h with ⟨rfl, rfl⟩ | ⟨h1, rfl⟩
  · exact ⟨List.Pairwise.nil, fun (x : Nat) (hx : x ∈ ([] : List Nat)) => absurd hx List.not_mem_nil⟩
  · refine ⟨List.pairwise_singleton _ _, fun x hx => ?_⟩
    rw [List.mem_singleton.mp hx]
    exact h1
theorem fan_great (n : Nat) : greatN (fan n) [0] = [] := by
  refine List.eq_nil_iff_forall_not_mem.mpr fun b hb => ?_
  have h1 := great_out b hb
  have h2 := (great_lot (fan n) [0]).2 b hb
  have hc := at_getD h2
  rcases fan_at hc with ⟨rfl, _⟩ | ⟨h3, e⟩
  · exact h1 (List.mem_singleton.mpr rfl)
  · have := great_pit (fan_valid n) b hb 0 (by rw [e]; exact List.mem_singleton.mpr rfl)
    exact great_out 0 this (List.mem_singleton.mpr rfl)
theorem flat_rep (k : Nat) (v : V) : (List.replicate k [v]).flatten = List.replicate k v := by
  induction k with
  | zero => rfl
  | succ k ih =>
    rw [List.replicate_succ, List.flatten_cons, ih, List.replicate_succ]
    rfl
/-- a fan's covers on the heap -/
theorem fan_cov {H : Hp} {p e z : Addr} {n : Nat} (hp : H p = some (.tup (.ref e :: List.replicate n (.ref z)))) (he : H e = some (.tup [])) (hz : H z = some (.tup [ni 0])) : CovAt H p (fan n) := by
  refine ⟨e :: List.replicate n z, ?_, ?_, fun i a c h1 h2 => ?_⟩
  · rw [hp, List.map_cons, List.map_replicate]
  · rw [fan_len, List.length_cons, List.length_replicate]
  · rcases fan_at h2 with ⟨rfl, rfl⟩ | ⟨h3, rfl⟩
    · cases h1
      exact he
    · cases i with
      | zero => omega
      | succ i =>
        have h1' : (List.replicate n z)[i]? = some a := h1
        rw [List.getElem?_replicate] at h1'
        split at h1'
        · cases h1'
          exact hz
        · cases h1'
end Pit

set_option Elab.async false
set_option linter.all false
set_option maxRecDepth 100000
set_option maxHeartbeats 4000000
/-! max(d.values()) of a plain dict of integers -/
namespace Pit
open PySem PySem.Spec PyProof.Rows L2
/-- max(o.values()), a dict with int values, one at least -/
def tMaxVals (td : TE) : TE := fun σ H Q => td σ H fun x H1 => ∃ (a : Addr) (kvs : List (Key × V)) (is : List Int), x = V.ref a ∧ H1 a = some (.dK kvs) ∧ kvs.map Prod.snd = is.map V.int ∧ is ≠ [] ∧ ∀ m, m ∈ is → (∀ j ∈ is, j ≤ m) → Q (.int m) H1
theorem vals_int {kvs : List (Key × V)} {vs : List (Key × Value)} {is : List Int} (rel : KV kvs vs) (hv : kvs.map Prod.snd = is.map V.int) {i : Nat} {v : Value} (h : ∃ k, vs[i]? = some (k, v)) : ∃ t, v = Value.int (is.getD i 0) t := by
  obtain ⟨k, hk⟩ := h
  obtain ⟨x, g1, ⟨⟩⟩ | ⟨x, g1, g2⟩ : (∃ x, kvs[i]? = some (k, x) ∧ False) ∨ ∃ x, kvs[i]? = some (k, x) ∧ RelV x v := .inr (KV.at' rel hk)
  have g3 : (is.map V.int)[i]? = some x := by rw [← hv, List.getElem?_map, g1]; rfl
  obtain ⟨j, g4, rfl⟩ := map_get g3
  obtain ⟨t, rfl⟩ := g2
  exact ⟨t, by rw [List.getD_eq_getElem?_getD, g4]; rfl⟩
section
variable {X : Cx} {o : Expr} {p pos apos mpos : Pos} {td : TE}
theorem pe_maxVals (hc : X.calm = true) (hg : Gl X "max") (hm : X.mg "max" = none) (hd : PE X o td) (hb : attributeBase o "values" X.env (eval o X.env) = eval o X.env := by rfl) (hl : (apos.endLine == mpos.line) = true := by rfl)
    (hs : starEach [Expr.Call (.Attribute o "values" apos) [] [] mpos] X.env = [(false, eval (Expr.Call (.Attribute o "values" apos) [] [] mpos) X.env)] := by rfl) :
    PE X (.Call (.Name "max" p) [.Call (.Attribute o "values" apos) [] [] mpos] [] pos) (tMaxVals td) := ⟨fun pins s σ H Q I h => by
  refine wpAny_Call_Name_kw (ld_blt (u := .builtin "max") I hg hm (by decide +kernel) ?_ (by decide) (by decide))
  rw [hs]
  refine PySem.callWith_builtin1 (wpAny_Call_method0_late hb hl (thn (hd.run pins s σ H _ I h) ?_))
  rintro v s1 ⟨x, H1, I1, r1, a, kvs, is, rfl, ha, hv, hne, q⟩
  obtain rfl : v = Value.ref a := r1
  obtain ⟨-, hsys, vs, rel, dof⟩ := dk_of I1.hok ha
  obtain ⟨ep, dat⟩ := dof.dictAt
  obtain ⟨ob, es, ho, ex, -⟩ := id dat
  refine ⟨"dict", "dict.values", F.plainAttrs_dict, F.slot_dict_values, F.type_dict_values, ⟨ob, ho, ex.1⟩, fun b e => (by cases e; exact ⟨ob, ho, ex.2.1⟩), Calls.callWith_builtin rfl (PySem.evalArgs_none ?_)⟩
  refine call_meetsIn F.slot_dict_values ⟨ob, ho, ex.1⟩ F.entry_dict_values (F.args_dict_values_1 _) (meets_dict_values (mixKind X.prog X.w) a hsys) ⟨⟨vs, dof⟩, ?_⟩
  generalize hh1 : s1.heap.push { cls := .type "dict_values", data := .fields #[.ref a] } = h1
  have up : ∀ b u, s1.heap.get? b = some u → h1.get? b = some u := fun b u e => hh1 ▸ Heap.get?_push_of_some _ e
  have new1 : h1.get? s1.heap.objs.size = some { cls := .type "dict_values", data := .fields #[.ref a] } := hh1 ▸ Heap.get?_push_size _ rfl
  have sz1 : h1.objs.size = s1.heap.objs.size + 1 := hh1 ▸ Heap.size_push _ _
  have dat1 := dat.keep up
  have lens : vs.length = is.length := (KV.length rel).symm.trans (by have e := congrArg List.length hv; simpa using e)
  have pos1 : 0 < is.length := List.length_pos_iff.mpr hne
  have old : a < s1.heap.objs.size := Heap.lt_size ho
  refine call_max_walk (wpAny_pyIter_values (v := s1.heap.objs.size) (d := a) ⟨_, new1, rfl, rfl⟩ dat1 ⟨_, [_, a], _, _, _, _, _, rfl,
    Walks.dictValues (knd := mixKind X.prog X.w) (A := X.A.in1) (I.ok.hd hc) h1.objs.size a (by rw [sz1]; exact Nat.ne_of_lt (Nat.lt_succ_of_lt old)) vs ep, ?_, ?_, by omega, CmpOf.ints_gt (fun i => is.getD i 0) fun i v => vals_int rel hv, ?_⟩)
  · exact ⟨⟨_, Heap.get?_push_size _ rfl, rfl, rfl⟩, dat1.keep fun b u e => Heap.get?_push_of_some _ e⟩
  · intro b hm
    show b < (h1.push _).objs.size
    rw [Heap.size_push]
    simp only [List.mem_cons, List.not_mem_nil, or_false] at hm
    rcases hm with z | z
    · rw [z]
      exact Nat.lt_succ_self _
    · rw [z, sz1]
      exact Nat.lt_succ_of_lt (Nat.lt_succ_of_lt old)
  · intro v g tk hP keep
    obtain ⟨t, rfl⟩ := vals_int rel hv hP
    obtain ⟨c1, c2⟩ := argBest_gt (fun i => is.getD i 0) (vs.length - 1)
    refine ⟨.int _, H1, I1.kept (t' := tk) fun b u e => keep b u (fun z => ?_) (Heap.get?_push_of_some _ (up b u e)), ⟨t, rfl⟩, q _ ?_ fun j hj => ?_⟩
    · have z1 := Heap.lt_size e
      rw [List.mem_singleton.mp z, sz1] at z1
      exact absurd z1 (Nat.not_lt.mpr (Nat.le_succ _))
    · rw [List.getD_eq_getElem?_getD, List.getElem?_eq_getElem (show _ < is.length by omega)]
      exact List.getElem_mem _
    · obtain ⟨i, hi, rfl⟩ := List.getElem_of_mem hj
      have z := c2 i (by omega)
      rw [List.getD_eq_getElem?_getD, List.getElem?_eq_getElem hi] at z
      exact z⟩
end
end Pit

set_option Elab.async false
set_option linter.all false
set_option maxRecDepth 100000
set_option maxHeartbeats 4000000
/-! promises of the defs of worths -/
namespace Pit
open PySem PySem.Spec PyProof.Rows L2
theorem k_max {X : Cx} {K : PySem.W.Frag} (hK : X.K = K) (hc : X.calm = true) : CallR X (.builtin "max") (rMax K) := hK ▸ cr_max hc
theorem k_sum {X : Cx} {K : PySem.W.Frag} (hK : X.K = K) (hc : X.calm = true) : CallR X (.builtin "sum") (rSum K) := hK ▸ cr_sum hc
theorem hu1 {A : Around} {k : Nat} (hr : Room k A) : A.units + 1 < cLine := by have := hr.un; omega
/-- behind a lock -/
theorem same_unlock {H H' : Hp} {d : Addr} {u f : HO} (s : Same (upd H d f) H') (hd : H d = some u) : Same H (upd H' d u) := fun b o e => by
  by_cases z : b = d
  · subst z
    rw [hd] at e
    cases e
    exact upd_same
  · rw [upd_ne z]
    exact s b o (by rw [upd_ne z]; exact e)
theorem free_lock {H : Hp} {d D : Addr} {f : HO} (h : (upd H d f) D = none) : D ≠ d ∧ H D = none := by
  have z : D ≠ d := fun z => by
    rw [z, upd_same] at h
    cases h
  rw [upd_ne z] at h
  exact ⟨z, h⟩
/-- a dict comprehension over a walk: Pv by the turn and the heap (the new dict at D within) -/
theorem dc_walk {J : It} {n : Nat} {G : Hp → Prop} {Y : Nat → Hp → V → Hp → Prop} (wk : Walk J n G Y) {g : TG} {tt : TT} {tk tv : TE} {vs : List Nat} {σ : L2.St} {H1 : Hp} {D : Addr} {Qd : Hp → Prop}
    (Pv : Nat → Hp → Prop) (start : Pv 0 (upd H1 D (.dK []))) (stay : ∀ i H, i ≤ n → Pv i H → G H)
    (turn : ∀ i x H H', i < n → Pv i H → Y i H x H' → g x (wipe σ vs) H' fun σ2 H2 => wipe σ2 vs = wipe σ vs ∧ tt σ2 H2 fun b H3 =>
      if b = true then tk σ2 H3 fun y H4 => tv σ2 H4 fun z H5 => ∃ kvs k, y = kV k ∧ H5 D = some (.dK kvs) ∧ kvs.length < sizeLine ∧ Pv (i + 1) (upd H5 D (.dK (putK kvs k z))) else Pv (i + 1) H3)
    (behind : ∀ H, Pv n H → Qd H) :
    ∃ W : Nat → Nat → Hp → Prop, (∃ m, W 0 m (upd H1 D (.dK []))) ∧ ∀ i m H, W i m H →
      (J.stop i H ∧ Qd H) ∨ (J.go i H ∧ ∃ Nx : Hp → Prop, (∀ H', Nx H' → ∃ m', m' < m ∧ W (i + 1) m' H') ∧ ∀ x H', J.yld i H x H' → g x (wipe σ vs) H' fun σ2 H2 => wipe σ2 vs = wipe σ vs ∧ tt σ2 H2 fun b H3 =>
        if b = true then tk σ2 H3 fun y H4 => tv σ2 H4 fun z H5 => ∃ kvs k, y = kV k ∧ H5 D = some (.dK kvs) ∧ kvs.length < sizeLine ∧ Nx (upd H5 D (.dK (putK kvs k z))) else Nx H3) := by
  refine ⟨fun i m H => i + m = n ∧ Pv i H, ⟨n, Nat.zero_add n, start⟩, ?_⟩
  rintro i m H ⟨e, pv⟩
  have inG : G H := stay i H (by omega) pv
  cases m with
  | zero =>
    have ei : i = n := e
    subst ei
    exact .inl ⟨wk.stops H inG, behind H pv⟩
  | succ m =>
    have lt : i < n := by omega
    exact .inr ⟨wk.goes i H lt inG, Pv (i + 1), fun H' q => ⟨m, Nat.lt_succ_self m, by omega, q⟩, fun x H' y => turn i x H H' lt pv (wk.yields i H x H' lt inG y)⟩
def WAt (H : Hp) (a : Addr) (w : List Int) : Prop := H a = some (.tup (w.map V.int))
theorem w_at {w : List Int} {b : Nat} (h : b < w.length) : (w.map V.int)[b]? = some (V.int (w.getD b 0)) := by
  rw [List.getElem?_map, List.getElem?_eq_getElem h, List.getD_eq_getElem?_getD, List.getElem?_eq_getElem h]
  rfl
def spFirstMs : Sp := fun vs H Q _ => ∃ (p : Addr) (cs : List (List Nat)), vs = [.ref p] ∧ CovAt H p cs ∧ Valid cs ∧ cs.length ≤ 10 ∧
  ∀ (q : Addr) (H' : Hp), Same H H' → H q = none → H' q = some (.lst (nis (cs.map maskN))) → Q (.ref q) H'
def spPitMs : Sp := fun vs H Q _ => ∃ (p : Addr) (cs : List (List Nat)), vs = [.ref p] ∧ CovAt H p cs ∧ Valid cs ∧ cs.length ≤ 10 ∧
  ∀ (q : Addr) (ms : List Nat) (H' : Hp), Same H H' → H q = none → H' q = some (.lst (nis ms)) → PitMs cs cs.length ms → Q (.ref q) H'
def spSumOf : Sp := fun vs H Q _ => ∃ (a : Addr) (w : List Int) (m : Nat), vs = [.ref a, ni m] ∧ WAt H a w ∧ w.length ≤ 10 ∧ m < 2 ^ w.length ∧ ∀ H', Same H H' → Q (.int (sumL w (bitsN m))) H'
def spPitSums : Sp := fun vs H Q _ => ∃ (p a : Addr) (cs : List (List Nat)) (w : List Int), vs = [.ref p, .ref a] ∧ CovAt H p cs ∧ Valid cs ∧ cs.length ≤ 10 ∧ WAt H a w ∧ w.length = cs.length ∧
  ∀ (q : Addr) (ms : List Nat) (H' : Hp), Same H H' → H q = none → H' q = some (.dK (kvsOf w ms)) → PitMs cs cs.length ms → Q (.ref q) H'
def spMostB (want : Bool) : Sp := fun vs H Q _ => ∃ (d : Addr) (w : List Int) (ms : List Nat) (b : Nat), vs = [.ref d, ni b] ∧ H d = some (.dK (kvsOf w ms)) ∧ ms.length ≤ 2000 ∧ (∃ m ∈ ms, m.testBit b = want) ∧
  ∀ (M : Int) (H' : Hp), Same H H' → (∃ m ∈ ms, m.testBit b = want ∧ sumL w (bitsN m) = M) → (∀ m ∈ ms, m.testBit b = want → sumL w (bitsN m) ≤ M) → Q (.int M) H'
def spBestMs : Sp := fun vs H Q _ => ∃ (p a : Addr) (cs : List (List Nat)) (w : List Int), vs = [.ref p, .ref a] ∧ CovAt H p cs ∧ Valid cs ∧ cs.length ≤ 10 ∧ WAt H a w ∧ w.length = cs.length ∧
  ∀ (q : Addr) (bs : List Nat) (H' : Hp), Same H H' → H q = none → H' q = some (.lst (nis bs)) → bs ≠ [] → (∀ m ∈ bs, m < 2 ^ cs.length ∧ BestL cs w (bitsN m)) → (∀ l, BestL cs w l → maskN l ∈ bs) → Q (.ref q) H'
def commonN (bs : List Nat) : Nat := bs.foldl (fun a x => a &&& x) (bs.getD 0 0)
def spCommon (K : PySem.W.Frag) : Sp := fun vs H Q _ => ∃ (a : Addr) (bs : List Nat), vs = [.ref a] ∧ SqL K H a (nis bs) ∧ bs ≠ [] ∧ Q (ni (commonN bs)) H
def fateS (x y : Bool) : Str := if x = true then ("must" : Str) else if y = true then ("may" : Str) else ("never" : Str)
def spFate : Sp := fun vs H Q _ => ∃ b x y : Nat, vs = [ni b, ni x, ni y] ∧ Q (.str (fateS (x.testBit b) (y.testBit b))) H
def WOk (w : List Int) : Prop := ∀ x ∈ w, -50 ≤ x ∧ x ≤ 50
def spTupOf : Sp := fun vs H Q _ => ∃ (a : Addr) (w : List Int), vs = [.ref a, ni w.length] ∧ WAt H a w ∧ Q (.bl true) H
def spAreBetw : Sp := fun vs H Q _ => ∃ (a : Addr) (w : List Int), vs = [.ref a, ni w.length, .int (-50), .int 50] ∧ WAt H a w ∧ WOk w ∧ w.length ≤ 1000 ∧ ∀ H', Same H H' → Q (.bl true) H'
def spCkWorths (C : Addr) : Sp := fun vs H Q _ => ∃ (g p a : Addr) (cs : List (List Nat)) (w : List Int), vs = [.ref g, .ref a] ∧ GrAt C H g p cs ∧ WAt H a w ∧ WOk w ∧ w.length = cs.length ∧ ∀ H', Same H H' → Q .non H'
def spFates (C : Addr) : Sp := fun vs H Q _ => ∃ (g p a : Addr) (cs : List (List Nat)) (w : List Int), vs = [.ref g, .ref a] ∧ GrAt C H g p cs ∧ WAt H a w ∧ WOk w ∧ w.length = cs.length ∧
  ∀ (q : Addr) (ss : List Str) (H' : Hp), Same H H' → H q = none → H' q = some (.tup (ss.map V.str)) → ss.length = cs.length → (∀ (i : Nat) (s : Str), ss[i]? = some s → FateIs cs w i s) → Q (.ref q) H'
def spWithB (C : Addr) (want : Bool) : Sp := fun vs H Q _ => ∃ (g p a : Addr) (cs : List (List Nat)) (w : List Int) (b : Nat), vs = [.ref g, .ref a, ni b] ∧ GrAt C H g p cs ∧ WAt H a w ∧ WOk w ∧ w.length = cs.length ∧ b < cs.length ∧
  ∀ (M : Int) (H' : Hp), Same H H' → MostL cs w b want M → Q (.int M) H'
def spWorths (K : PySem.W.Frag) : Sp := fun vs H Q _ => ∃ (r a : Addr) (ns : List Int) (m : Nat), vs = [.ref r, ni m] ∧ RowAt K H r a ns ∧ m ≤ 100 ∧
  ∀ (q : Addr) (w : List Int) (H' : Hp), RowAt K H' r a ns → Fx r H H' → H q = none → WAt H' q w → WOk w → w.length = m → Q (.ref q) H'
def spLawSum : Sp := fun vs H Q _ => ∃ (a b : Addr) (w : List Int) (l : List Nat), vs = [.ref a, .ref b] ∧ WAt H a w ∧ w.length ≤ 10 ∧ LotAt H w.length b l ∧ ∀ H', Same H H' → Q (.int (sumL w l)) H'
def spLawBest : Sp := fun vs H Q _ => ∃ (p a : Addr) (cs : List (List Nat)) (w : List Int), vs = [.ref p, .ref a] ∧ CovAt H p cs ∧ Valid cs ∧ cs.length ≤ 8 ∧ WAt H a w ∧ w.length = cs.length ∧
  ∀ (q : Addr) (as : List Addr) (H' : Hp), Same H H' → H q = none → H' q = some (.lst (as.map V.ref)) → as ≠ [] → as.length ≤ 1000 → (∀ b ∈ as, ∃ l, LotAt H' cs.length b l ∧ BestL cs w l) → (∀ l, BestL cs w l → ∃ b ∈ as, H' b = some (.tup (nis l))) → Q (.ref q) H'
/-- a greatest one -/
theorem max_of : ∀ {l : List Int}, l ≠ [] → ∃ m, m ∈ l ∧ ∀ y ∈ l, y ≤ m
  | [], h => absurd rfl h
  | [x], _ => ⟨x, List.mem_singleton.mpr rfl, fun y hy => by rw [List.mem_singleton.mp hy]; exact Int.le_refl _⟩
  | x :: y :: l, _ => by
    obtain ⟨m, h1, h2⟩ := max_of (l := y :: l) (List.cons_ne_nil _ _)
    by_cases e : x ≤ m
    · exact ⟨m, List.mem_cons_of_mem _ h1, fun z hz => by
        rcases List.mem_cons.mp hz with q | q
        · rw [q]; exact e
        · exact h2 z q⟩
    · exact ⟨x, List.mem_cons_self, fun z hz => by
        rcases List.mem_cons.mp hz with q | q
        · rw [q]; exact Int.le_refl _
        · have := h2 z q
          omega⟩
theorem sh_nat (m b : Nat) : (Builtin.bitAnd ((m : Int) / 2 ^ ((b : Int)).toNat) 1 != 0) = m.testBit b := bit_test m b
theorem common_bit : ∀ (bs : List Nat) (m b : Nat), (bs.foldl (fun a x => a &&& x) m).testBit b = (m.testBit b && bs.all fun x => x.testBit b)
  | [], m, b => by simp
  | x :: bs, m, b => by rw [List.foldl_cons, common_bit bs, Nat.testBit_and, List.all_cons, Bool.and_assoc]
theorem common_all {bs : List Nat} (h : bs ≠ []) (b : Nat) : (commonN bs).testBit b = bs.all fun x => x.testBit b := by
  cases bs with
  | nil => exact absurd rfl h
  | cons x bs =>
    unfold commonN
    rw [common_bit]
    show (x.testBit b && (x.testBit b && _)) = (x.testBit b && _)
    cases x.testBit b <;> rfl
theorem joint_any (bs : List Nat) (b : Nat) : (bs.foldl (fun a x => a ||| x) 0).testBit b = bs.any fun x => x.testBit b := by
  rw [joint_bit, Nat.zero_testBit, Bool.false_or]
theorem and_nat (a b : Nat) : Builtin.bitAnd (a : Int) (b : Int) = ((a &&& b : Nat) : Int) := by
  rw [bitAnd_pp (Int.natCast_nonneg _) (Int.natCast_nonneg _), Int.toNat_natCast, Int.toNat_natCast]
end Pit

set_option Elab.async false
set_option linter.all false
set_option maxRecDepth 100000
set_option maxHeartbeats 4000000
namespace Pit
open PySem PySem.Spec PyProof.Rows L2
theorem rowAt_fx {K : PySem.W.Frag} {H H' : Hp} {r a d : Addr} {ns : List Int} (h : RowAt K H r a ns) (s : Fx d H H') (n1 : r ≠ d) (n2 : a ≠ d ∨ ∀ H' : Hp, SqL K H' a (ns.map V.int)) : RowAt K H' r a ns := by
  obtain ⟨⟨i, z, g, h0, h1⟩, h2, h3⟩ := h
  exact ⟨⟨i, z, g, h0, s _ _ n1 h1⟩, sqL_fx h2 s n2, h3⟩
theorem tup_fx {H H' : Hp} {d a : Addr} {xs ys : List V} (h : H a = some (.tup xs)) (hd : H d = some (.lst ys)) (s : Fx d H H') : H' a = some (.tup xs) := s _ _ (ne_of h hd (by intro z; cases z)) h
theorem alk_strs {K : PySem.W.Frag} {H : Hp} {a b : Addr} {l : List Str} {n : Nat} (ha : H a = some (.tup (l.map V.str))) (hb : H b = some (.tup (l.map V.str))) (hl : l.length ≤ 100000) : Alk K H (n + 1) (.ref a) (.ref b) := by
  refine .inr ⟨a, b, l.map V.str, l.map V.str, rfl, rfl, .inr ⟨ha, hb⟩, by rw [List.length_map]; exact hl, rfl, fun i u v h1 h2 => ?_⟩
  rw [h1] at h2
  cases h2
  obtain ⟨m, _, rfl⟩ := map_get h1
  cases n with
  | zero => exact ⟨rfl, .inr (.inr (.inr ⟨_, rfl⟩))⟩
  | succ n => exact .inl ⟨rfl, .inr (.inr (.inr ⟨_, rfl⟩))⟩
theorem alk_two {K : PySem.W.Frag} {H : Hp} {a b : Addr} {M N : Int} {n : Nat} (ha : H a = some (.lst [.int M, .int N])) (hb : H b = some (.lst [.int M, .int N])) : Alk K H (n + 2) (.ref a) (.ref b) := by
  refine .inr ⟨a, b, _, _, rfl, rfl, .inl ⟨ha, hb⟩, (show 2 ≤ 100000 by decide), rfl, fun i u v h1 h2 => ?_⟩
  rw [h1] at h2
  cases h2
  match i, h1 with
  | 0, h1 => cases h1; exact .inl ⟨rfl, .inr (.inr (.inl ⟨_, rfl⟩))⟩
  | 1, h1 => cases h1; exact .inl ⟨rfl, .inr (.inr (.inl ⟨_, rfl⟩))⟩
  | i + 2, h1 => cases h1
def dueS (cnt tot : Nat) : Str := if cnt = 0 then ("never" : Str) else if cnt = tot then ("must" : Str) else ("may" : Str)
def BestsAt (H : Hp) (cs : List (List Nat)) (w : List Int) (as : List Addr) : Prop := (∀ b ∈ as, ∃ l, LotAt H cs.length b l ∧ BestL cs w l) ∧ ∀ l, BestL cs w l → ∃ b ∈ as, H b = some (.tup (nis l))
theorem due_fate {H : Hp} {cs : List (List Nat)} {w : List Int} {as : List Addr} {i : Nat} (h : BestsAt H cs w as) : FateIs cs w i (dueS (as.filter fun b => decide (i ∈ lotAt H b)).length as.length) := by
  unfold dueS
  by_cases e : (as.filter fun b => decide (i ∈ lotAt H b)).length = 0
  · rw [if_pos e]
    refine .inr (.inr ⟨rfl, fun l hl hil => ?_⟩)
    obtain ⟨b, hb, eb⟩ := h.2 l hl
    have := List.filter_eq_nil_iff.mp (List.length_eq_zero_iff.mp e) b hb
    rw [lotAt_eq eb] at this
    exact this (decide_eq_true hil)
  · rw [if_neg e]
    by_cases e2 : (as.filter fun b => decide (i ∈ lotAt H b)).length = as.length
    · rw [if_pos e2]
      refine .inl ⟨rfl, fun l hl => ?_⟩
      obtain ⟨b, hb, eb⟩ := h.2 l hl
      have := List.length_filter_eq_length_iff.mp e2 b hb
      rw [lotAt_eq eb] at this
      exact of_decide_eq_true this
    · rw [if_neg e2]
      refine .inr (.inl ⟨rfl, ?_, ?_⟩)
      · obtain ⟨b, hb⟩ := List.exists_mem_of_length_pos (Nat.pos_of_ne_zero e)
        obtain ⟨hb1, hb2⟩ := List.mem_filter.mp hb
        obtain ⟨l, hL, hB⟩ := h.1 b hb1
        rw [lotAt_eq hL.1] at hb2
        exact ⟨l, hB, of_decide_eq_true hb2⟩
      · have : ¬ ∀ b ∈ as, decide (i ∈ lotAt H b) = true := fun z => e2 (List.length_filter_eq_length_iff.mpr z)
        obtain ⟨b, hb⟩ := Classical.not_forall.mp this
        obtain ⟨hb1, hb2⟩ := Classical.not_imp.mp hb
        obtain ⟨l, hL, hB⟩ := h.1 b hb1
        rw [lotAt_eq hL.1] at hb2
        exact ⟨l, hB, fun z => hb2 (decide_eq_true z)⟩
/-- the greatest sum over the pits that (do not) have block i -/
theorem law_most {H : Hp} {cs : List (List Nat)} {w : List Int} {as : List Addr} {i : Nat} {want : Bool} {M : Int} {q : Addr → Bool} (hq : ∀ b, q b = true ↔ decide (i ∈ lotAt H b) = want) (h : AllPits H cs as)
    (h1 : M ∈ (as.filter q).map fun b => sumL w (lotAt H b)) (h2 : ∀ y ∈ (as.filter q).map fun b => sumL w (lotAt H b), y ≤ M) : MostL cs w i want M := by
  obtain ⟨b, hb, rfl⟩ := List.mem_map.mp h1
  obtain ⟨hb1, hb2⟩ := List.mem_filter.mp hb
  obtain ⟨l, hL, hp⟩ := h.1 b hb1
  have z := (hq b).mp hb2
  rw [lotAt_eq hL.1] at z h2 ⊢
  refine ⟨⟨l, hL.2, hp, z, rfl⟩, fun m hm hpm hi => ?_⟩
  obtain ⟨c, hc, ec⟩ := h.2.1 m hm hpm
  have := h2 _ (List.mem_map.mpr ⟨c, List.mem_filter.mpr ⟨hc, (hq c).mpr (by rw [lotAt_eq ec]; exact hi)⟩, rfl⟩)
  rw [lotAt_eq ec] at this
  exact this
theorem must_dec {cs : List (List Nat)} {w : List Int} {b : Nat} {M N : Int} {s : Str} (hb : ∃ l, BestL cs w l) (h : MostL cs w b true M) (h' : MostL cs w b false N) (f : FateIs cs w b s) : decide (N < M) = decide (V.str s = V.str ("must" : Str)) := by
  obtain ⟨l0, h0⟩ := hb
  rcases f with ⟨rfl, a⟩ | ⟨rfl, _, l2, a3, a4⟩ | ⟨rfl, a⟩
  · rw [decide_eq_true ((must_iff h h').mpr a), decide_eq_true rfl]
  · rw [decide_eq_false fun z => a4 ((must_iff h h').mp z l2 a3)]
    decide +kernel
  · rw [decide_eq_false fun z => a l0 h0 ((must_iff h h').mp z l0 h0)]
    decide +kernel
theorem never_dec {cs : List (List Nat)} {w : List Int} {b : Nat} {M N : Int} {s : Str} (hb : ∃ l, BestL cs w l) (h : MostL cs w b true M) (h' : MostL cs w b false N) (f : FateIs cs w b s) : decide (M < N) = decide (V.str s = V.str ("never" : Str)) := by
  obtain ⟨l0, h0⟩ := hb
  rcases f with ⟨rfl, a⟩ | ⟨rfl, ⟨l1, a1, a2⟩, _⟩ | ⟨rfl, a⟩
  · rw [decide_eq_false fun z => (never_iff h h').mp z l0 h0 (a l0 h0)]
    decide +kernel
  · rw [decide_eq_false fun z => (never_iff h h').mp z l1 a1 a2]
    decide +kernel
  · rw [decide_eq_true ((never_iff h h').mpr a), decide_eq_true rfl]
end Pit

set_option Elab.async false
set_option linter.all false
set_option maxRecDepth 100000
set_option maxHeartbeats 4000000
/-! sorted(lots, key=f), f a def of the program that makes a pair of the lot's length and the lot, any number of lots -/
namespace Pit
open PySem PySem.Spec PyProof.Rows L2 PySem.Calls
/-- how a state behind is known, from the state s in which the walk stands -/
structure Bh (X : Cx) (H : Hp) (s : Shared) (Hi : Hp) (s' : Shared) : Prop where
  os : s'.os = s.os
  bare : AllBare s'.gens
  un : Un (frs X.stack) [] H Hi s.heap s'.heap
  hok : HOk X.prog X.w Hi s'.heap
section
variable {X : Cx} {pins : List (Addr × Obj)} {σ : L2.St} {H Hi : Hp} {s s' : Shared}
theorem Bh.inv (I : Inv X pins σ H s) (b : Bh X H s Hi s') : Inv X pins σ Hi s' := I.call' b.os b.un b.hok b.bare fun _ z => absurd z List.not_mem_nil
/-- records of ours beside have turned -/
theorem Bh.turn (b : Bh X H s Hi s') {h' : Heap} {tk : Nat} (c : Addr → Prop) (k : ∀ x o, ¬ c x → s'.heap.get? x = some o → h'.get? x = some o) (hc : ∀ x, c x → s.heap.get? x = none ∧ Hi x = none) : Bh X H s Hi { s' with heap := h', toks := tk } := by
  have nc : ∀ {x o}, s.heap.get? x = some o → ¬ c x := fun e z => by
    rw [(hc _ z).1] at e
    cases e
  have nt : ∀ {x o}, Hi x = some o → ¬ c x := fun e z => by
    rw [(hc _ z).2] at e
    cases e
  refine ⟨b.os, b.bare, ⟨fun x o e n hf hx => k x o (nc e) (b.un.keep x o e n hf hx), fun x o e n hf hx => ?_, b.un.free, fun x o e hx => ?_, b.un.tups, b.un.frzs, b.un.tbls⟩, fun x o e => ?_⟩
  · obtain ⟨sl, z⟩ := b.un.slot x o e n hf hx
    exact ⟨sl, k x _ (nc e) z⟩
  · obtain ⟨o', z⟩ := b.un.there x o e hx
    exact ⟨o', k x _ (nc e) z⟩
  · refine (b.hok x o e).stay (fun y v hy q => k y v ?_ q) (fun _ q => q) fun _ _ q => q
    rcases hy with z | z
    · rw [z]
      exact nt e
    · exact nt z
/-- a record of ours is tracked from here on -/
theorem Bh.track (b : Bh X H s Hi s') {a : Addr} {o : HO} (ha : s.heap.get? a = none) (hn : Hi a = none) (new : ObjOk X.prog X.w (upd Hi a o) s'.heap a o) : Bh X H s (upd Hi a o) s' := by
  have na : ∀ {x u}, Hi x = some u → x ≠ a := fun e z => by
    rw [z, hn] at e
    cases e
  refine ⟨b.os, b.bare, ⟨b.un.keep, b.un.slot, fun x u e n hx => ?_, b.un.there, fun x xs e => ?_, fun x u v e => ?_, fun x ps e => ?_⟩, b.hok.laidN (fun _ _ e => e) hn new⟩
  · rw [upd_ne fun z => by rw [z, ha] at e; cases e]
    exact b.un.free x u e n hx
  · have z := b.un.tups x xs e
    rw [upd_ne (na z)]
    exact z
  · have z := b.un.frzs x u v e
    rw [upd_ne (na z)]
    exact z
  · obtain ⟨more, z⟩ := b.un.tbls x ps e
    refine ⟨more, ?_⟩
    rw [upd_ne (na z)]
    exact z
end
/-- a heap without the object at c -/
def without (h : Heap) (c : Addr) : Heap := { h with objs := h.objs.setIfInBounds c { cls := .none, data := .freed } }
theorem without_at (h : Heap) {c : Addr} (hc : c < h.objs.size) : (without h c).get? c = none := by
  unfold without Heap.get?
  simp [Array.getElem?_setIfInBounds, hc]
theorem without_ne {h : Heap} {c x : Addr} {o : Obj} (e : (without h c).get? x = some o) : h.get? x = some o := by
  by_cases z : x = c
  · subst z
    by_cases hc : x < h.objs.size
    · rw [without_at h hc] at e
      cases e
    · unfold without Heap.get? at e
      rw [Array.getElem?_setIfInBounds] at e
      simp [hc] at e
  · unfold without Heap.get? at e
    rw [Array.getElem?_setIfInBounds, if_neg (Ne.symm z)] at e
    exact e
theorem of_without {h : Heap} {c x : Addr} {o : Obj} (n : x ≠ c) (e : h.get? x = some o) : (without h c).get? x = some o := by
  unfold without Heap.get?
  rw [Array.getElem?_setIfInBounds, if_neg (Ne.symm n)]
  exact e
section
variable {prog : Program} {w : World} {A : Around} {E : Value → Shared → Prop} {s : Shared} {a : Addr} {b : Bool} {vs : List Value} {P : PySem.Fin → Shared → Prop}
/-- the sort's beginning: the list is empty, the items and the keys have objects of their own -/
theorem sort_begin {f : Value} {n : Nat} (ho : s.heap.get? a = some (seqObj "list" vs.toArray n)) (hZ : vs.length ≤ sizeLine)
    (rest : ∀ (kS : Addr) (e1 : Nat) (h' : Heap), PySem.W.KeepsBut a s.heap h' → s.heap.objs.size ≤ kS → h'.get? kS = some (seqObj "list" #[] 0) → h'.get? a = some (seqObj "list" #[] e1) →
      wpAny (model prog w) A (ksk_rest a f b vs.toArray e1 (.ref kS)) P E { s with heap := h' }) :
    wpAny (model prog w) A (ksk_tree a f b) P E s := by
  obtain ⟨e1, ho1⟩ : ∃ e1, (s.heap.update a (Obj.mapSeq fun _ => (#[] : Array Value))).get? a = some (seqObj "list" #[] e1) := ⟨_, get?_update_seq ho fun _ => #[]⟩
  have z2 : ((s.heap.update a (Obj.mapSeq fun _ => (#[] : Array Value))).push (seqObj "tuple" vs.toArray 0)).objs.size = s.heap.objs.size + 1 := by rw [size_push', Heap.size_update]
  unfold ksk_tree
  exact wpAny_bind (listItems_at ho rfl (wpAny_bind (listUpdate_at ho rfl (wpAny_bind (seqEpoch_at ho1 rfl (wpAny_bind (wpAny_newTuple (wpAny_bind (wpAny_newList (wpAny_holding
    (rest _ e1 _ (fun x o n q => PySem.W.sortingHeap_old n q) (by rw [z2]; exact Nat.le_succ _) (Heap.get?_push_size _ rfl) (Heap.get?_push_of_some _ (Heap.get?_push_of_some _ ho1))))
    (Nat.zero_le _))) (show vs.length ≤ _ from hZ))))) (by rw [List.size_toArray]; exact hZ) (Nat.zero_le _))))
end
end Pit

set_option Elab.async false
set_option linter.all false
set_option maxRecDepth 100000
set_option maxHeartbeats 4000000
namespace Pit
open PySem PySem.Spec PyProof.Rows L2 PySem.Calls
/-- what the key def promises: the pair of a lot's length and the lot -/
def spOrderKey : Sp := fun vs H Q _ => ∃ (a : Addr) (l : List Nat), vs = [.ref a] ∧ H a = some (.tup (nis l)) ∧ ∀ q, H q = none → Q (.ref q) (upd H q (.tup [ni l.length, .ref a]))
def encL (l : Addr → List Nat) (t : Addr) : PyData := .tuple [.int (l t).length, .tuple ((l t).map fun x : Nat => .int x)]
theorem encL_eq (l : Addr → List Nat) : encL l = encSL (fun t => (l t).length) l := rfl
/-- sorted(lots, key=f) -/
def rSortedK (K : PySem.W.Frag) (f : Addr) : List V → List V → Hp → VK → Prop := fun vs zs H Q => ∃ (a : Addr) (ts : List Addr) (l : Addr → List Nat), vs = [V.ref a] ∧ zs = [V.ref f] ∧ SqL K H a (ts.map V.ref) ∧
  (∀ t ∈ ts, H t = some (.tup (nis (l t)))) ∧
  ∀ (ts' : List Addr) (p : Addr) (H' : Hp), ts'.Perm ts → ts'.Pairwise (fun x y => PySem.W.dataLe false (encL l) x y = true) → Same H H' → H p = none → H' p = some (.lst (ts'.map V.ref)) → Q (.ref p) H'
section
variable {X : Cx} {k : Nat} {f : Addr} {fd : FuncData} {ps : List Str}
theorem cr_sortedK (F : FnOk X.prog X.w X.K X.mg X.base CX0 k f fd ps spOrderKey) (hr : Room (k + 2) X.A) (hb : Binds X.K fd ps []) : CallRK X (.builtin "sorted") [("key" : Str)] (rSortedK X.K f) := by
  intro pins s σ H vs zs us ws Q I rv0 rz h
  obtain ⟨l0, ts, l, rfl, rfl, hs, hx, q⟩ := h
  obtain ⟨its, rv, hl, hz⟩ := I.list hs
  obtain rfl := Vals.ref1 rv0
  obtain rfl := Vals.ref1 rz
  have ei := refs_of rv
  subst ei
  rw [List.length_map] at hz
  have hr2 : Room k X.A.in1.in1 := (Room.in1 (Room.in1 hr))
  have hlen : (ts.map Value.ref).length = ts.length := List.length_map _
  have hun : X.A.units + 200 < cLine := by have := hr.un; omega
  have hal : PySem.W.AllAlike (ts.map (encL l)) := PySem.W.AllAlike.of (enc_alike (fun t => (l t).length) l)
  have hsk : PySem.W.Sortable (ts.map (encL l)) := PySem.W.Sortable.tuples fun _ => ⟨_, _, rfl⟩
  refine PySem.W.sorted_of_sort (kw := [(Str.ofString "key", .ref f)]) hl.isList (by rw [hlen]; exact hz) (ksk_s1 _ _) (fun _ => ksk_l1 _ _) fun E' => ?_
  rw [ksk_t1]
  have ha0 : s.heap.get? (s.heap.objs.size + 1) = none := Heap.get?_none_of_le (Nat.le_succ _)
  refine sort_begin (s := { s with heap := PySem.W.copyHeap s.heap (ts.map Value.ref) }) (PySem.W.copyHeap_at s.heap (ts.map Value.ref)) (by rw [hlen]; exact hz) fun kS e1 h1 kp hkS nk na => ?_
  have up : ∀ x o, s.heap.get? x = some o → h1.get? x = some o := fun x o e => kp x o (fun z => by rw [z, ha0] at e; cases e) (PySem.W.copyHeap_old e)
  have szc : s.heap.objs.size + 1 < (PySem.W.copyHeap s.heap (ts.map Value.ref)).objs.size := Heap.lt_size (PySem.W.copyHeap_at s.heap (ts.map Value.ref))
  have hkS2 : s.heap.objs.size + 1 < kS := Nat.lt_of_lt_of_le szc hkS
  have hkS1 : s.heap.objs.size ≤ kS := Nat.le_trans (Nat.le_succ _) (Nat.le_of_lt hkS2)
  have hkS0 : s.heap.get? kS = none := Heap.get?_none_of_le hkS1
  have hka : kS ≠ s.heap.objs.size + 1 := Nat.ne_of_gt hkS2
  generalize hA : s.heap.objs.size + 1 = a at *
  have hal1 : s.heap.objs.size ≤ a := by rw [← hA]; exact Nat.le_succ _
  have hHa : H a = none := I.hok.fresh hal1
  have hHk : H kS = none := I.hok.fresh hkS1
  have fa : a ∉ frs X.stack := (FbM.rec_new I hal1).fr
  have fk : kS ∉ frs X.stack := (FbM.rec_new I hkS1).fr
  have B0 : Bh X H s H { s with heap := h1 } := ⟨rfl, I.bare, Un.kept up, I.hok.kept up⟩
  unfold ksk_rest
  refine wpAny_bind (wpAny_rule ?_)
  rw [← Array.forIn_toList]
  simp only [List.toList_toArray]
  refine wpAny_bind (ksk_fold (fun i s' => ∃ (Hi : Hp) (ks : List Addr) (c : Nat), Bh X H s Hi s' ∧ Same H Hi ∧ Hi a = none ∧ Hi kS = none ∧ ks.length = i ∧
      (∀ (j : Nat) (q t : Addr), ks[j]? = some q → ts[j]? = some t → Hi q = some (.tup [ni (l t).length, .ref t])) ∧
      s'.heap.get? kS = some (seqObj "list" (ks.map Value.ref).toArray c) ∧ s'.heap.get? a = some (seqObj "list" #[] e1)) (ts.map Value.ref) 0 { s with heap := h1 }
    ⟨H, [], 0, B0, Same.refl H, hHa, hHk, rfl, fun j q t e _ => by simp at e, nk, na⟩ ?step ?done)
  case step =>
    rintro j x s' hxj ⟨Hi, ks, c, Bi, si, hia, hik, lks, hks, nk', na'⟩
    obtain ⟨t, ht, rfl⟩ := map_get hxj
    have hit := si _ _ (hx t (List.mem_of_getElem? ht))
    have jlt : j < ts.length := (List.getElem?_eq_some_iff.mp ht).1
    have lj : ks.length = j := by omega
    have Ii := Bi.inv I
    have run := F.run X.A.in1.in1 X.stack s' Hi ⟨[.ref t], []⟩ [.ref t] [.ref t] (fun v H' => ∃ q, v = .ref q ∧ Hi q = none ∧ H' = upd Hi q (.tup [ni (l t).length, .ref t])) E0 hr2 Ii.env0.in1.in1
      (by have := hb s' [.ref t] Ii.kIn (by have := F.len _ H (fun _ _ => True) E0 ⟨t, l t, rfl, hx t (List.mem_of_getElem? ht), fun _ _ => trivial⟩; rw [List.append_nil]; exact this); rw [List.append_nil] at this; exact this)
      (.cons rfl .nil) ⟨t, l t, rfl, hit, fun q hq => ⟨q, rfl, hq, rfl⟩⟩
    refine wpAny_bind (wpAny_attempt (wpAny_call (codeAny_mono run fun r s2 hq => ?_)))
    cases r with
    | error e => exact False.elim hq
    | ok fl =>
      cases fl with
      | next => exact False.elim hq
      | brk => exact False.elim hq
      | cont => exact False.elim hq
      | ret u =>
        obtain ⟨v, H2, os2, bare2, un2, hok2, rel, p, rfl, hp, rfl⟩ := hq
        obtain rfl : u = Value.ref p := rel
        have nk2 := un2.keep kS _ nk' hik fk List.not_mem_nil
        have na2 := un2.keep a _ na' hia fa List.not_mem_nil
        have hk2 : (upd Hi p (.tup [ni (l t).length, .ref t])) kS = none := un2.free kS _ nk' hik List.not_mem_nil
        have ha2 : (upd Hi p (.tup [ni (l t).length, .ref t])) a = none := un2.free a _ na' hia List.not_mem_nil
        have B2 : Bh X H s (upd Hi p (.tup [ni (l t).length, .ref t])) s2 := ⟨os2.trans Bi.os, bare2, Bi.un.trans un2, hok2⟩
        have only := Heap.SameBut.update s2.heap kS (Obj.mapSeq (·.push (Value.ref p)))
        obtain ⟨c2, hc2⟩ : ∃ c2, (s2.heap.update kS (Obj.mapSeq (·.push (Value.ref p)))).get? kS = some (seqObj "list" ((ks.map Value.ref).toArray.push (.ref p)) c2) := ⟨_, get?_update_seq nk2 (·.push (Value.ref p))⟩
        have small : (ks.map Value.ref).toArray.size ≤ sizeLine := by
          rw [List.size_toArray, List.length_map]
          omega
        try dsimp only
        refine wpAny_bind (listUpdate_at nk2 rfl (wpAny_pure ⟨rfl, ?_⟩) small (by rw [Array.size_push]; exact Nat.succ_le_succ small))
        refine ⟨upd Hi p (.tup [ni (l t).length, .ref t]), ks ++ [p], c2, B2.turn (tk := s2.toks) (fun x => x = kS) (fun x o n e => (only.2 x n).trans e) (fun x e => by rw [e]; exact ⟨hkS0, hk2⟩), si.trans (same_new hp), ha2, hk2, ?_, ?_, ?_, (only.2 a hka.symm).trans na2⟩
        · rw [List.length_append]
          show _ + 1 = _
          omega
        · intro m q2 t2 e1 e2
          by_cases z : m < ks.length
          · rw [List.getElem?_append_left z] at e1
            exact same_new hp _ _ (hks m q2 t2 e1 e2)
          · have zz := (List.getElem?_eq_some_iff.mp e1).1
            rw [List.length_append] at zz
            have zz2 : m < ks.length + 1 := zz
            have em : m = j := by omega
            rw [List.getElem?_append_right (by omega), show m - ks.length = 0 by omega] at e1
            cases e1
            rw [em, ht] at e2
            cases e2
            exact upd_same
        · rw [hc2, List.map_append]
          simp
  case done =>
    rintro s' ⟨Hi, ks, c, Bi, si, hia, hik, lks, hks, nk', na'⟩
    rw [Nat.zero_add, hlen] at lks
    have kz : PySem.W.EachIs (fun v d => ∃ as, Reads s'.heap v d as) (ks.map Value.ref) (ts.map (encL l)) := by
      refine PySem.W.EachIs.of_zip (by rw [List.length_map, List.length_map, lks]) fun pr hpr => ?_
      obtain ⟨i, hi⟩ := List.getElem?_of_mem hpr
      rw [List.getElem?_zip_eq_some] at hi
      obtain ⟨e1, e2⟩ := hi
      obtain ⟨qa, hq1, e3⟩ := map_get e1
      obtain ⟨t, ht, e4⟩ := map_get e2
      rw [e3, e4]
      have g1 := hks i qa t hq1 ht
      obtain ⟨_, its2, r2, o, ho, hc, m, hd⟩ := Bi.hok _ _ g1
      obtain ⟨u1, u2, rfl, ri, rj⟩ := vals2 r2
      obtain ⟨t1, rfl⟩ := ri
      obtain rfl : u2 = Value.ref t := rj
      obtain ⟨_, its3, r3, o3, ho3, hc3, m3, hd3⟩ := Bi.hok _ _ (si _ _ (hx t (List.mem_of_getElem? ht)))
      obtain ⟨as, z⟩ := reads_nis (h := s'.heap) r3
      exact ⟨_, .tuple ho hc hd (.cons (.int _ t1) (.cons (.tuple ho3 hc3 hd3 z) .nil))⟩
    have lt : kS < s'.heap.objs.size := Heap.lt_size nk'
    refine wpAny_bind (listItems_at nk' rfl ?_)
    refine PySem.W.keyH_end (κ := PySem.W.dataKind s'.heap (ts.map (encL l))) (h₁ := without s'.heap kS) (fun x o _ e => without_ne e) (without_at _ lt) nk' na' hka (by
        have S := PySem.W.SortsAt.data (prog := X.prog) (w := X.w) (A := X.A.in1.in1) (s := s') kz hal hsk (fun d hd => by
          obtain ⟨t, _, rfl⟩ := List.mem_map.mp hd
          have e1 := enc_depth (fun t => (l t).length) l t
          have e2 : (encL l t).depth ≤ 2 := e1
          show X.A.units + 1 + 1 + _ < cLine
          omega)
        simpa using S) (by simp [lks]) (by rw [hlen]; exact hz) fun h' tk c' kp' na'' => ⟨rfl, ?_⟩
    have ko : PySem.W.KeyedOut false (ts.map (encL l)) (ts.map Value.ref) (PySem.W.sortVals (PySem.W.dataKind s'.heap (ts.map (encL l))) false (ks.map Value.ref) (ts.map Value.ref)) := ⟨s'.heap, ks.map Value.ref, hal, rfl, kz⟩
    have eo := each_back (PySem.W.keyedOut_each (encL l) ko (each_ref (R := fun v t => v = Value.ref t) fun _ _ => rfl))
    have hp : (ts.mergeSort (PySem.W.dataLe false (encL l))).Perm ts := List.mergeSort_perm _ _
    have na3 : h'.get? a = some (seqObj "list" ((ts.mergeSort (PySem.W.dataLe false (encL l))).map Value.ref).toArray c') := by
      rw [← eo]
      simpa using na''
    have B3 : Bh X H s Hi { s' with heap := h', toks := tk } := Bi.turn (fun x => x = a ∨ x = kS) (fun x o n e => kp' x o (fun z => n (.inl z)) (of_without (fun z => n (.inr z)) e)) fun x e => by
      rcases e with e | e
      · rw [e]; exact ⟨ha0, hia⟩
      · rw [e]; exact ⟨hkS0, hik⟩
    have B4 := B3.track (o := .lst ((ts.mergeSort (PySem.W.dataLe false (encL l))).map V.ref)) ha0 hia ⟨by rw [List.length_map, hp.length_eq]; exact hz, _, c', of_refs _, na3⟩
    exact ⟨.ref a, _, B4.inv I, rfl, q _ a _ hp (PySem.W.sort_pairwise (PySem.W.sortLe_total _ _ _) ts) (fun b o e => by rw [upd_ne fun z => by rw [z, hHa] at e; cases e]; exact si b o e) hHa upd_same⟩
end
end Pit

set_option Elab.async false
set_option linter.all false
set_option maxRecDepth 100000
set_option maxHeartbeats 4000000
/-! lots in the order of their sizes, then of their blocks: there is one such list -/
namespace Pit
open PySem PySem.Spec PyProof.Rows L2
def encN (l : List Nat) : PyData := .tuple [.int l.length, .tuple (l.map fun x : Nat => .int x)]
def leD (x y : List Nat) : Prop := PySem.W.dataLe false encN x y = true
theorem leD_of {l : Addr → List Nat} {x y : Addr} (h : PySem.W.dataLe false (encL l) x y = true) : leD (l x) (l y) := h
theorem leD_of2 {l : Addr → List Nat} {x y : Addr} (h : PySem.W.dataLe false (encSL (fun t => (l t).length) l) x y = true) : leD (l x) (l y) := h
theorem lt_row (x y : List Nat) : PySem.W.dataLt (.tuple (x.map fun i : Nat => PyData.int i)) (.tuple (y.map fun i : Nat => PyData.int i)) = decide ((x.map fun i : Nat => (i : Int)) < (y.map fun i : Nat => (i : Int))) := by
  rw [PySem.W.dataLt_tuple]
  have e := PySem.W.dataLt_ints (x.map fun i : Nat => (i : Int)) (y.map fun i : Nat => (i : Int))
  rw [List.map_map, List.map_map] at e
  exact e
theorem encN_lt (x y : List Nat) : PySem.W.dataLt (encN x) (encN y) = if x.length = y.length then decide ((x.map fun i : Nat => (i : Int)) < (y.map fun i : Nat => (i : Int))) else decide (x.length < y.length) := by
  unfold encN
  rw [PySem.W.dataLt_pair (by simp [PySem.W.alike]) (by simp [PySem.W.alike, alike_nats]), PySem.W.dataLt_int, lt_row]
  by_cases e : x.length = y.length
  · rw [if_pos (by simp [PyData.eqv, e]), if_pos e]
    split
    · rename_i h
      -- equal rows: none is less
      have := lt_row x y
      have irr : ¬ ((x.map fun i : Nat => (i : Int)) < (y.map fun i : Nat => (i : Int))) := fun z => by
        have t := (PySem.W.toks_eqv (.tuple (x.map fun i : Nat => PyData.int i)) (.tuple (y.map fun i : Nat => PyData.int i)) (by simp [PySem.W.alike, alike_nats])).1 h
        unfold PySem.W.dataLt at this
        rw [t, lex_irrefl, decide_eq_true z] at this
        cases this
      rw [decide_eq_false irr]
    · rfl
  · rw [if_neg (by simp [PyData.eqv]; omega), if_neg e]
    by_cases z : x.length < y.length
    · rw [decide_eq_true z, decide_eq_true (by omega)]
    · rw [decide_eq_false z, decide_eq_false (by omega)]
theorem leD_size {x y : List Nat} (h : leD x y) : x.length ≤ y.length := by
  have h' : (!PySem.W.dataLt (encN y) (encN x)) = true := h
  rw [Bool.not_eq_true', encN_lt] at h'
  by_cases e : y.length = x.length
  · omega
  · rw [if_neg e] at h'
    have := of_decide_eq_false h'
    omega
theorem leD_anti {x y : List Nat} (h : leD x y) (g : leD y x) : x = y := by
  have s1 := leD_size h
  have s2 := leD_size g
  have e : x.length = y.length := by omega
  have h' : (!PySem.W.dataLt (encN y) (encN x)) = true := h
  have g' : (!PySem.W.dataLt (encN x) (encN y)) = true := g
  rw [Bool.not_eq_true', encN_lt, if_pos e.symm] at h'
  rw [Bool.not_eq_true', encN_lt, if_pos e] at g'
  have a1 := of_decide_eq_false h'
  have a2 := of_decide_eq_false g'
  have inj : (x.map fun i : Nat => (i : Int)) = (y.map fun i : Nat => (i : Int)) := List.le_antisymm (List.not_lt.mp a1) (List.not_lt.mp a2)
  exact (List.map_inj_right (fun _ _ z => Int.ofNat.inj z)).mp inj
theorem sorted_one {l m : List (List Nat)} (hl : l.Pairwise leD) (hm : m.Pairwise leD) (p : l.Perm m) : l = m :=
  p.eq_of_pairwise (fun a b _ _ h g => leD_anti h g) hl hm
/-- all lots below n -/
def allL : Nat → List (List Nat)
  | 0 => [[]]
  | n + 1 => allL n ++ (allL n).map fun l => l ++ [n]
theorem allL_mem : ∀ (n : Nat) (l : List Nat), l ∈ allL n ↔ Lot n l
  | 0, l => by
    constructor
    · intro h
      rw [List.mem_singleton.mp h]
      exact lot_nil 0
    · intro h
      cases l with
      | nil => exact List.mem_singleton.mpr rfl
      | cons x l => exact absurd (h.2 x List.mem_cons_self) (by omega)
  | n + 1, l => by
    show l ∈ allL n ++ (allL n).map (fun l => l ++ [n]) ↔ _
    rw [List.mem_append, List.mem_map]
    constructor
    · rintro (h | ⟨m, h, rfl⟩)
      · exact lot_more ((allL_mem n l).mp h)
      · exact lot_snoc ((allL_mem n m).mp h)
    · intro h
      rcases lot_split h with q | ⟨m, rfl, q⟩
      · exact .inl ((allL_mem n l).mpr q)
      · exact .inr ⟨m, (allL_mem n m).mpr q, rfl⟩
theorem allL_nodup : ∀ n : Nat, (allL n).Nodup
  | 0 => List.nodup_cons.mpr ⟨List.not_mem_nil, List.nodup_nil⟩
  | n + 1 => by
    show (allL n ++ (allL n).map (fun l => l ++ [n])).Nodup
    refine List.nodup_append.mpr ⟨allL_nodup n, ?_, fun a ha b hb e => ?_⟩
    · have h : (allL n).Pairwise (· ≠ ·) := allL_nodup n
      exact List.pairwise_map.mpr (h.imp fun ne e => ne (List.append_cancel_right e))
    · obtain ⟨m, _, rfl⟩ := List.mem_map.mp hb
      have := ((allL_mem n a).mp ha).2 n (by rw [e]; exact List.mem_append.mpr (.inr (List.mem_singleton.mpr rfl)))
      omega
theorem allL_len : ∀ n : Nat, (allL n).length = 2 ^ n
  | 0 => rfl
  | n + 1 => by
    show (allL n ++ (allL n).map (fun l => l ++ [n])).length = _
    rw [List.length_append, List.length_map, allL_len n, Nat.pow_succ]
    omega
/-- the pits, in their order -/
def PitsInOrder (cs : List (List Nat)) (ls : List (List Nat)) : Prop := ls.Pairwise leD ∧ ls.Perm ((allL cs.length).filter (pitB cs))
theorem pits_one {cs ls ms : List (List Nat)} (h : PitsInOrder cs ls) (g : PitsInOrder cs ms) : ls = ms := sorted_one h.1 g.1 (h.2.trans g.2.symm)
theorem pits_masks {cs : List (List Nat)} {ms : List Nat} (h : PitMs cs cs.length ms) : (ms.map bitsN).Perm ((allL cs.length).filter (pitB cs)) := by
  refine (List.perm_ext_iff_of_nodup ?_ ((allL_nodup _).filter _)).mpr fun l => ?_
  · have nd : ms.Pairwise (· ≠ ·) := h.nd
    refine List.pairwise_map.mpr (List.Pairwise.imp_of_mem (fun {a b} ha hb ne e => ne ?_) nd)
    rw [← mask_bits (h.lt a ha), ← mask_bits (h.lt b hb), e]
  · rw [List.mem_map, List.mem_filter, allL_mem, pitB_iff]
    constructor
    · rintro ⟨m, hm, rfl⟩
      exact ⟨lot_bits (h.lt m hm), h.pit m hm⟩
    · rintro ⟨h1, h2⟩
      exact ⟨maskN l, h.all l h1 h2, bits_mask h1⟩
/-- a list of lots on the heap -/
def LotsAt (H : Hp) (as : List Addr) (ls : List (List Nat)) : Prop := as.length = ls.length ∧ ∀ (i : Nat) (a : Addr) (l : List Nat), as[i]? = some a → ls[i]? = some l → H a = some (.tup (nis l))
theorem LotsAt.same {H H' : Hp} {as : List Addr} {ls : List (List Nat)} (h : LotsAt H as ls) (s : Same H H') : LotsAt H' as ls := ⟨h.1, fun i a l e1 e2 => s _ _ (h.2 i a l e1 e2)⟩
theorem LotsAt.get {H : Hp} {as : List Addr} {ls : List (List Nat)} (h : LotsAt H as ls) {i : Nat} {a : Addr} (e : as[i]? = some a) : ∃ l, ls[i]? = some l ∧ H a = some (.tup (nis l)) := by
  have hi : i < ls.length := by rw [← h.1]; exact (List.getElem?_eq_some_iff.mp e).1
  exact ⟨ls[i], List.getElem?_eq_getElem hi, h.2 i a _ e (List.getElem?_eq_getElem hi)⟩
theorem lotsAt_map {H : Hp} {as : List Addr} {f : Addr → List Nat} (h : ∀ a ∈ as, H a = some (.tup (nis (f a)))) : LotsAt H as (as.map f) := by
  refine ⟨(List.length_map _).symm, fun i a l e1 e2 => ?_⟩
  rw [List.getElem?_map, e1] at e2
  cases e2
  exact h a (List.mem_of_getElem? e1)
theorem LotsAt.eq_map {H : Hp} {as : List Addr} {ls : List (List Nat)} (h : LotsAt H as ls) : ls = as.map (lotAt H) := by
  refine List.ext_getElem? fun i => ?_
  rw [List.getElem?_map]
  cases e : as[i]? with
  | none =>
    have : ls.length ≤ i := by rw [← h.1]; exact List.getElem?_eq_none_iff.mp e
    rw [List.getElem?_eq_none this]
    rfl
  | some a =>
    obtain ⟨l, e2, z⟩ := h.get e
    rw [e2, Option.map_some, lotAt_eq z]
theorem alk_lots {K : PySem.W.Frag} {H : Hp} {a b : Addr} {as bs : List Addr} {ls : List (List Nat)} {n : Nat} (ha : H a = some (.lst (as.map V.ref))) (hb : H b = some (.lst (bs.map V.ref))) (h : LotsAt H as ls) (g : LotsAt H bs ls)
    (hl : ls.length ≤ 100000) (hs : ∀ l ∈ ls, l.length ≤ 100000) : Alk K H (n + 2) (.ref a) (.ref b) := by
  refine .inr ⟨a, b, _, _, rfl, rfl, .inl ⟨ha, hb⟩, by rw [List.length_map, h.1]; exact hl, by rw [List.length_map, List.length_map, h.1, g.1], fun i u v e1 e2 => ?_⟩
  obtain ⟨x, hx, rfl⟩ := map_get e1
  obtain ⟨y, hy, rfl⟩ := map_get e2
  obtain ⟨l, hl1, z⟩ := h.get hx
  exact alk_nis z (g.2 i y l hy hl1) (hs l (List.mem_of_getElem? hl1))
end Pit

set_option Elab.async false
set_option linter.all false
set_option maxRecDepth 100000
set_option maxHeartbeats 4000000
namespace Pit
open PySem PySem.Spec PyProof.Rows L2
def spLots2 : Sp := fun vs H Q _ => ∃ n : Nat, vs = [ni n] ∧ n ≤ 8 ∧
  ∀ (q : Addr) (as : List Addr) (ls : List (List Nat)) (H' : Hp), Same H H' → H q = none → H' q = some (.lst (as.map V.ref)) → LotsAt H' as ls → ls.Pairwise leD → ls.Perm (allL n) → Q (.ref q) H'
def spLawPits2 : Sp := fun vs H Q _ => ∃ (p : Addr) (cs : List (List Nat)), vs = [.ref p] ∧ CovAt H p cs ∧ Valid cs ∧ cs.length ≤ 8 ∧
  ∀ (q : Addr) (as : List Addr) (ls : List (List Nat)) (H' : Hp), Same H H' → H q = none → H' q = some (.lst (as.map V.ref)) → LotsAt H' as ls → PitsInOrder cs ls → Q (.ref q) H'
def spInOrder : Sp := fun vs H Q _ => ∃ (a : Addr) (as : List Addr) (ls : List (List Nat)), vs = [.ref a] ∧ H a = some (.lst (as.map V.ref)) ∧ LotsAt H as ls ∧
  ∀ (q : Addr) (as' : List Addr) (ls' : List (List Nat)) (H' : Hp), Same H H' → H q = none → H' q = some (.lst (as'.map V.ref)) → LotsAt H' as' ls' → ls'.Perm ls → ls'.Pairwise leD → Q (.ref q) H'
def spAllPits (C : Addr) : Sp := fun vs H Q _ => ∃ (g p : Addr) (cs : List (List Nat)), vs = [.ref g] ∧ GrAt C H g p cs ∧
  ∀ (q : Addr) (as : List Addr) (ls : List (List Nat)) (H' : Hp), Same H H' → H q = none → H' q = some (.lst (as.map V.ref)) → LotsAt H' as ls → PitsInOrder cs ls → Q (.ref q) H'
def spPick (K : PySem.W.Frag) : Sp := fun vs H Q _ => ∃ (r a q : Addr) (ns : List Int) (as : List Addr), vs = [.ref r, .ref q] ∧ RowAt K H r a ns ∧ H q = some (.lst (as.map V.ref)) ∧ q ≠ r ∧ 1 ≤ as.length ∧ as.length ≤ 1000 ∧
  ∀ (b : Addr) (H' : Hp), b ∈ as → RowAt K H' r a ns → Fx r H H' → Q (.ref b) H'
theorem LotsAt.fx {H H' : Hp} {as : List Addr} {ls : List (List Nat)} {r : Addr} {xs : List V} (h : LotsAt H as ls) (hr : H r = some (.lst xs)) (s : Fx r H H') : LotsAt H' as ls :=
  ⟨h.1, fun i a l e1 e2 => s _ _ (ne_of (h.2 i a l e1 e2) hr (by intro z; cases z)) (h.2 i a l e1 e2)⟩
theorem pitsIn_mem {cs ls : List (List Nat)} (h : PitsInOrder cs ls) (l : List Nat) : l ∈ ls ↔ Lot cs.length l ∧ PitL cs l := by
  rw [h.2.mem_iff, List.mem_filter, allL_mem, pitB_iff]
theorem pitsIn_len {cs ls : List (List Nat)} (h : PitsInOrder cs ls) : 1 ≤ ls.length ∧ ls.length ≤ 2 ^ cs.length := by
  refine ⟨List.length_pos_iff.mpr fun e => ?_, ?_⟩
  · have := (pitsIn_mem h []).mpr ⟨lot_nil _, pit_nil cs⟩
    rw [e] at this
    exact absurd this List.not_mem_nil
  · rw [h.2.length_eq, ← allL_len]
    exact List.length_filter_le _ _
end Pit

set_option Elab.async false
set_option linter.all false
set_option maxRecDepth 100000
set_option maxHeartbeats 4000000
namespace Pit
open PySem PySem.Spec PyProof.Rows L2
/-- the sum over a mask's blocks below n -/
def sumS (w : List Int) (m : Nat) : Nat → Int
  | 0 => 0
  | n + 1 => sumS w m n + if m.testBit n = true then w.getD n 0 else 0
theorem sum_range (w : List Int) (m : Nat) : ∀ n, sumL w ((List.range n).filter fun b => m.testBit b) = sumS w m n
  | 0 => rfl
  | n + 1 => by
    have ih := sum_range w m n
    unfold sumL at ih ⊢
    rw [List.range_succ, List.filter_append, List.map_append, List.sum_append, ih]
    show _ = sumS w m n + _
    congr 1
    rw [List.filter_cons]
    cases m.testBit n <;> simp
theorem sum_mask {w : List Int} {m n : Nat} (h : m < 2 ^ n) : sumL w (bitsN m) = sumS w m n := by
  rw [bitsN_range h, sum_range]
theorem sum_and_or (w : List Int) (a b : Nat) : ∀ n, sumS w (a &&& b) n + sumS w (a ||| b) n = sumS w a n + sumS w b n
  | 0 => rfl
  | n + 1 => by
    have ih := sum_and_or w a b n
    show (sumS w (a &&& b) n + (if (a &&& b).testBit n = true then w.getD n 0 else 0)) + (sumS w (a ||| b) n + (if (a ||| b).testBit n = true then w.getD n 0 else 0)) = (sumS w a n + (if a.testBit n = true then w.getD n 0 else 0)) + (sumS w b n + (if b.testBit n = true then w.getD n 0 else 0))
    rw [Nat.testBit_and, Nat.testBit_or]
    cases a.testBit n <;> cases b.testBit n <;> simp <;> omega
/-- a mask of a best pit -/
def BestM (cs : List (List Nat)) (w : List Int) (m : Nat) : Prop := m < 2 ^ cs.length ∧ BestL cs w (bitsN m)
theorem pit_bits {cs : List (List Nat)} {m n : Nat} (h : m < 2 ^ n) : PitL cs (bitsN m) ↔ ∀ b, m.testBit b = true → ∀ f ∈ cs.getD b [], m.testBit f = true := by
  constructor
  · intro p b hb f hf
    exact (bitsN_mem h f).mp (p b ((bitsN_mem h b).mpr hb) f hf)
  · intro p b hb f hf
    exact (bitsN_mem h f).mpr (p b ((bitsN_mem h b).mp hb) f hf)
theorem best_and_or {cs : List (List Nat)} {w : List Int} {a b : Nat} (ha : BestM cs w a) (hb : BestM cs w b) : BestM cs w (a &&& b) ∧ BestM cs w (a ||| b) := by
  obtain ⟨a1, a2, a3, a4⟩ := ha
  obtain ⟨b1, b2, b3, b4⟩ := hb
  have l1 : a &&& b < 2 ^ cs.length := Nat.lt_of_le_of_lt Nat.and_le_left a1
  have l2 : a ||| b < 2 ^ cs.length := Nat.or_lt_two_pow a1 b1
  have pa := (pit_bits a1).mp a3
  have pb := (pit_bits b1).mp b3
  have p1 : PitL cs (bitsN (a &&& b)) := (pit_bits l1).mpr fun x hx f hf => by
    rw [Nat.testBit_and, Bool.and_eq_true] at hx ⊢
    exact ⟨pa x hx.1 f hf, pb x hx.2 f hf⟩
  have p2 : PitL cs (bitsN (a ||| b)) := (pit_bits l2).mpr fun x hx f hf => by
    rw [Nat.testBit_or, Bool.or_eq_true] at hx ⊢
    rcases hx with z | z
    · exact .inl (pa x z f hf)
    · exact .inr (pb x z f hf)
  have e := sum_and_or w a b cs.length
  rw [← sum_mask l1, ← sum_mask l2, ← sum_mask a1, ← sum_mask b1] at e
  have h1 := a4 _ (lot_bits l1) p1
  have h2 := a4 _ (lot_bits l2) p2
  have h3 := a4 _ b2 b3
  have h4 := b4 _ a2 a3
  exact ⟨⟨l1, lot_bits l1, p1, fun p hp hpp => by have := a4 p hp hpp; omega⟩, ⟨l2, lot_bits l2, p2, fun p hp hpp => by have := a4 p hp hpp; omega⟩⟩
theorem best_common {cs : List (List Nat)} {w : List Int} : ∀ (bs : List Nat) (m : Nat), BestM cs w m → (∀ x ∈ bs, BestM cs w x) → BestM cs w (bs.foldl (fun a x => a &&& x) m)
  | [], _, h, _ => h
  | x :: bs, m, h, g => best_common bs _ (best_and_or h (g x List.mem_cons_self)).1 fun y hy => g y (List.mem_cons_of_mem _ hy)
theorem best_joint {cs : List (List Nat)} {w : List Int} : ∀ (bs : List Nat) (m : Nat), BestM cs w m → (∀ x ∈ bs, BestM cs w x) → BestM cs w (bs.foldl (fun a x => a ||| x) m)
  | [], _, h, _ => h
  | x :: bs, m, h, g => best_joint bs _ (best_and_or h (g x List.mem_cons_self)).2 fun y hy => g y (List.mem_cons_of_mem _ hy)
/-- the best pits, in their order, each once -/
def BestsIn (cs : List (List Nat)) (w : List Int) (ls : List (List Nat)) : Prop := ls.Pairwise leD ∧ ls.Nodup ∧ ∀ l, l ∈ ls ↔ BestL cs w l
theorem bests_one {cs ls ms : List (List Nat)} {w : List Int} (h : BestsIn cs w ls) (g : BestsIn cs w ms) : ls = ms :=
  sorted_one h.1 g.1 ((List.perm_ext_iff_of_nodup h.2.1 g.2.1).mpr fun l => (h.2.2 l).trans (g.2.2 l).symm)
/-- the masks of all best pits, each once -/
def BestMs (cs : List (List Nat)) (w : List Int) (bs : List Nat) : Prop := bs ≠ [] ∧ bs.Nodup ∧ (∀ m ∈ bs, BestM cs w m) ∧ ∀ l, BestL cs w l → maskN l ∈ bs
theorem first_best {cs ls : List (List Nat)} {w : List Int} {bs : List Nat} (h : BestsIn cs w ls) (g : BestMs cs w bs) : ∃ r, ls = bitsN (commonN bs) :: r := by
  have hc : BestM cs w (commonN bs) := by
    cases bs with
    | nil => exact absurd rfl g.1
    | cons x bs => exact best_common (x :: bs) x (g.2.2.1 x List.mem_cons_self) g.2.2.1
  have hin := (h.2.2 _).mpr hc.2
  cases ls with
  | nil => exact absurd hin List.not_mem_nil
  | cons l r =>
    refine ⟨r, ?_⟩
    have hl := (h.2.2 l).mp List.mem_cons_self
    have hs : l.length ≤ (bitsN (commonN bs)).length := by
      rcases List.mem_cons.mp hin with e | e
      · rw [e]
        exact Nat.le_refl _
      · exact leD_size ((List.pairwise_cons.mp h.1).1 _ e)
    have sub : ∀ x ∈ bitsN (commonN bs), x ∈ l := fun x hx => by
      have z := (bitsN_mem hc.1 x).mp hx
      rw [common_all g.1] at z
      have := List.all_eq_true.mp z _ (g.2.2.2 l hl)
      rw [maskN_bit] at this
      exact of_decide_eq_true this
    rw [asc_eq (lot_bits hc.1).1 hl.1.1 sub hs]
theorem last_best {cs ls : List (List Nat)} {w : List Int} {bs : List Nat} (h : BestsIn cs w ls) (g : BestMs cs w bs) : ∃ r, ls = r ++ [bitsN (bs.foldl (fun a x => a ||| x) 0)] := by
  have hc : BestM cs w (bs.foldl (fun a x => a ||| x) 0) := by
    cases bs with
    | nil => exact absurd rfl g.1
    | cons x bs =>
      rw [List.foldl_cons, Nat.zero_or]
      exact best_joint bs x (g.2.2.1 x List.mem_cons_self) fun y hy => g.2.2.1 y (List.mem_cons_of_mem _ hy)
  have hin := (h.2.2 _).mpr hc.2
  rcases List.eq_nil_or_concat ls with e | ⟨r, l, e⟩
  · rw [e] at hin
    exact absurd hin List.not_mem_nil
  · rw [List.concat_eq_append] at e
    refine ⟨r, ?_⟩
    have hl := (h.2.2 l).mp (by rw [e]; exact List.mem_append.mpr (.inr (List.mem_singleton.mpr rfl)))
    have hp := h.1
    rw [e] at hin hp
    have hs : (bitsN (bs.foldl (fun a x => a ||| x) 0)).length ≤ l.length := by
      rcases List.mem_append.mp hin with z | z
      · exact leD_size ((List.pairwise_append.mp hp).2.2 _ z l (List.mem_singleton.mpr rfl))
      · rw [List.mem_singleton.mp z]
        exact Nat.le_refl _
    have sub : ∀ x ∈ l, x ∈ bitsN (bs.foldl (fun a x => a ||| x) 0) := fun x hx => by
      rw [bitsN_mem hc.1, joint_any]
      exact List.any_eq_true.mpr ⟨_, g.2.2.2 l hl, by rw [maskN_bit]; exact decide_eq_true hx⟩
    rw [e, asc_eq hl.1.1 (lot_bits hc.1).1 sub hs]
def spBestMs2 : Sp := fun vs H Q _ => ∃ (p a : Addr) (cs : List (List Nat)) (w : List Int), vs = [.ref p, .ref a] ∧ CovAt H p cs ∧ Valid cs ∧ cs.length ≤ 10 ∧ WAt H a w ∧ w.length = cs.length ∧
  ∀ (q : Addr) (bs : List Nat) (H' : Hp), Same H H' → H q = none → H' q = some (.lst (nis bs)) → BestMs cs w bs → bs.length ≤ 1024 → Q (.ref q) H'
/-- what a question about best pits is handed, and what it tells -/
def spAsk (C : Addr) (R : List (List Nat) → List Int → V → Hp → Hp → Prop) : Sp := fun vs H Q _ => ∃ (g p a : Addr) (cs : List (List Nat)) (w : List Int), vs = [.ref g, .ref a] ∧ GrAt C H g p cs ∧ WAt H a w ∧ WOk w ∧ w.length = cs.length ∧
  ∀ (v : V) (H' : Hp), Same H H' → R cs w v H H' → Q v H'
def rWorth (cs : List (List Nat)) (w : List Int) (v : V) (_ _ : Hp) : Prop := ∃ M, v = .int M ∧ ∀ l, BestL cs w l → sumL w l = M
def rAllBest (cs : List (List Nat)) (w : List Int) (v : V) (H H' : Hp) : Prop := ∃ (q : Addr) (as : List Addr) (ls : List (List Nat)), v = .ref q ∧ H q = none ∧ H' q = some (.lst (as.map V.ref)) ∧ LotsAt H' as ls ∧ BestsIn cs w ls
def rLeastB (cs : List (List Nat)) (w : List Int) (v : V) (H H' : Hp) : Prop := ∃ (q : Addr) (bs : List Nat), v = .ref q ∧ H q = none ∧ H' q = some (.tup (nis (bitsN (commonN bs)))) ∧ BestMs cs w bs
def rGreatB (cs : List (List Nat)) (w : List Int) (v : V) (H H' : Hp) : Prop := ∃ (q : Addr) (bs : List Nat), v = .ref q ∧ H q = none ∧ H' q = some (.tup (nis (bitsN (bs.foldl (fun a x => a ||| x) 0)))) ∧ BestMs cs w bs
def spWorthOf (C : Addr) : Sp := fun vs H Q _ => ∃ (g p a b : Addr) (cs : List (List Nat)) (w : List Int) (l : List Nat), vs = [.ref g, .ref a, .ref b] ∧ GrAt C H g p cs ∧ WAt H a w ∧ WOk w ∧ w.length = cs.length ∧ LotAt H cs.length b l ∧
  ∀ H', Same H H' → Q (.int (sumL w l)) H'
def spLawBest2 : Sp := fun vs H Q _ => ∃ (p a : Addr) (cs : List (List Nat)) (w : List Int), vs = [.ref p, .ref a] ∧ CovAt H p cs ∧ Valid cs ∧ cs.length ≤ 8 ∧ WAt H a w ∧ w.length = cs.length ∧
  ∀ (q : Addr) (as : List Addr) (ls : List (List Nat)) (H' : Hp), Same H H' → H q = none → H' q = some (.lst (as.map V.ref)) → LotsAt H' as ls → BestsIn cs w ls → Q (.ref q) H'
theorem best_any {cs : List (List Nat)} {w : List Int} {bs : List Nat} (g : BestMs cs w bs) : ∃ l, BestL cs w l := by
  cases bs with
  | nil => exact absurd rfl g.1
  | cons x bs => exact ⟨_, (g.2.2.1 x List.mem_cons_self).2⟩
theorem best_lots {cs : List (List Nat)} {w : List Int} {bs : List Nat} (g : BestMs cs w bs) : (bs.map bitsN).Nodup ∧ ∀ l, l ∈ bs.map bitsN ↔ BestL cs w l := by
  refine ⟨?_, fun l => ?_⟩
  · have nd : bs.Pairwise (· ≠ ·) := g.2.1
    refine List.pairwise_map.mpr (List.Pairwise.imp_of_mem (fun {a b} ha hb ne e => ne ?_) nd)
    rw [← mask_bits (g.2.2.1 a ha).1, ← mask_bits (g.2.2.1 b hb).1, e]
  · rw [List.mem_map]
    constructor
    · rintro ⟨m, hm, rfl⟩
      exact (g.2.2.1 m hm).2
    · intro h
      exact ⟨maskN l, g.2.2.2 l h, bits_mask h.1⟩
theorem bests_len {cs ls : List (List Nat)} {w : List Int} (h : BestsIn cs w ls) : ls.length ≤ 2 ^ cs.length := by
  have nd : ls.Pairwise (· ≠ ·) := h.2.1
  have lt : ∀ l ∈ ls, Lot cs.length l := fun l hl => ((h.2.2 l).mp hl).1
  have n2 : (ls.map maskN).Nodup := List.pairwise_map.mpr (List.Pairwise.imp_of_mem (fun {a b} ha hb ne e => ne (by rw [← bits_mask (lt a ha), ← bits_mask (lt b hb), e])) nd)
  have := nodup_len (2 ^ cs.length) n2 fun x hx => by
    obtain ⟨l, hl, rfl⟩ := List.mem_map.mp hx
    exact maskN_lt (lt l hl).2
  rw [List.length_map] at this
  exact this
end Pit

set_option Elab.async false
set_option linter.all false
set_option maxRecDepth 100000
set_option maxHeartbeats 4000000
namespace K08
open PySem PySem.Spec PyProof.Rows L2 Pit
def topS (i : Nat) : Stmt := PySem.Challenge.pw_pitlots_k08_whole_best_pits.main.body.getD i (.Pass ⟨0, 0, 0, 0⟩)
section
variable {P : Program} {w : World} {K : PySem.W.Frag} {mg : Str → Option Value} {base : Heap}
abbrev s_is_whole : Stmt := topS 19
theorem sc_is_whole : FnScope ["value"] ["value"] (defScope s_is_whole) :=
  ⟨rfl, rfl, rfl, by decide +kernel, rfl, by decide +kernel, by decide +kernel⟩
theorem ok_is_whole {f : Addr} {fd : FuncData} (F : Fun K "is_whole" "is_whole" s_is_whole f fd) (B : Bl mg) :
    FnOk P w K mg base CX0 1 f fd ["value"] (spWhole K) := by
  refine F.ok sc_is_whole (fun vs H Q E h => ?_) (fun cdv A outer s H vs Q E hr h => ?_)
  · obtain ⟨v, b, rfl, _⟩ := h
    rfl
  · obtain ⟨v, b, rfl, hw, k⟩ := h
    refine ⟨_, (pss_one (ps_ret (pe_and (pe_callB (k_isi (K := K) rfl) (by rfl) B.b_isinstance (by decide +kernel) (pa_cons (pv 0) (pa_cons (pTy (n := "int") B.b_int) pa_nil))) (pe_one (pe_not (pe_callB (k_isi (K := K) rfl) (by rfl) B.b_isinstance (by decide +kernel) (pa_cons (pv 0) (pa_cons (pTy (n := "bool") B.b_bool) pa_nil)))))))), ?_⟩
    rcases hw with ⟨i, rfl, rfl⟩ | ⟨t, ty, ht, rfl⟩
    · refine ⟨_, rfl, _, .ty "int", .type "int", .type "int", true, rfl, .ty _, .base (.int i), kit_ty (by decide +kernel), _, rfl, iteT ?_⟩
      exact ⟨_, rfl, _, .ty "bool", .type "int", .type "bool", false, rfl, .ty _, .base (.int i), kit_ty (by decide +kernel), _, rfl, k⟩
    · by_cases hb : t = "bool"
      · subst hb
        refine ⟨_, rfl, _, .ty "int", .type "bool", .type "int", true, rfl, .ty _, ty, kit_ty (by decide +kernel), _, rfl, iteT ?_⟩
        exact ⟨_, rfl, _, .ty "bool", .type "bool", .type "bool", true, rfl, .ty _, ty, kit_ty (by decide +kernel), _, rfl, k⟩
      · refine ⟨_, rfl, _, .ty "int", .type t, .type "int", false, rfl, .ty _, ty, kit_ty ?_, _, rfl, iteF k⟩
        simp only [List.mem_cons, List.not_mem_nil, or_false, hb, false_or] at ht
        rcases ht with rfl | rfl | rfl | rfl | rfl <;> decide +kernel
abbrev s_is_between : Stmt := topS 20
theorem sc_is_between : FnScope ["value", "low", "high"] ["value", "low", "high"] (defScope s_is_between) :=
  ⟨rfl, rfl, rfl, by decide +kernel, rfl, by decide +kernel, by decide +kernel⟩
theorem ok_is_between {f f1 : Addr} {fd fd1 : FuncData} (F : Fun K "is_between" "is_between" s_is_between f fd)
    (D_is_whole : Df P w K mg base 1 "is_whole" ["value"] (spWhole K) f1 fd1) :
    FnOk P w K mg base CX0 2 f fd ["value", "low", "high"] (spBetween K) := by
  refine F.ok sc_is_between (fun vs H Q E h => ?_) (fun cdv A outer s H vs Q E hr h => ?_)
  · obtain ⟨v, b, lo, hi, rfl, _⟩ := h
    rfl
  · obtain ⟨v, b, lo, hi, rfl, hw, k⟩ := h
    refine ⟨_, (pss_one (ps_ret (pe_and (pe_callD D_is_whole (hr.mono (by omega)) (pa_cons (pv 0) pa_nil)) (pe_one (pe_chain op_le op_le (pv 1) (pv 0) (pv 2)))))), ?_⟩
    refine ⟨_, rfl, _, b, rfl, hw, _, rfl, ?_⟩
    rcases hw with ⟨i, rfl, rfl⟩ | ⟨t, ty, ht, rfl⟩
    · refine iteT ⟨_, rfl, _, rfl, lo, i, rfl, rfl, _, rfl, ?_⟩
      by_cases h1 : lo ≤ i
      · rw [decide_eq_true h1]
        refine iteT ⟨_, rfl, i, hi, rfl, rfl, ?_⟩
        have e : betw (.int i) lo hi = decide (i ≤ hi) := by simp [betw, h1]
        rw [e] at k
        exact k
      · rw [decide_eq_false h1]
        refine iteF ?_
        have e : betw (.int i) lo hi = false := by simp [betw, h1]
        rw [e] at k
        exact k
    · refine iteF ?_
      have e : betw v lo hi = false := by
        cases v with
        | int i =>
          cases ty with
          | base h => cases h; simp at ht
        | _ => rfl
      rw [e] at k
      exact k
end
end K08

set_option Elab.async false
set_option linter.all false
set_option maxRecDepth 100000
set_option maxHeartbeats 4000000
namespace K08
open PySem PySem.Spec PyProof.Rows L2 Pit
section
variable {P : Program} {w : World} {K : PySem.W.Frag} {mg : Str → Option Value} {base : Heap}
abbrev s_is_rising : Stmt := topS 23
theorem sc_is_rising : FnScope ["row", "one", "other"] ["row"] (defScope s_is_rising) :=
  ⟨rfl, rfl, rfl, by decide +kernel, rfl, by decide +kernel, by decide +kernel⟩
def lessB (l : List Int) : List Bool := List.zipWith (fun a b => decide (a < b)) l (l.drop 1)
theorem lessB_rising : ∀ l : List Int, (lessB l).all id = rising l
  | [] => rfl
  | [_] => rfl
  | a :: b :: r => by
    have ih := lessB_rising (b :: r)
    show (decide (a < b) :: lessB (b :: r)).all id = (decide (a < b) && rising (b :: r))
    rw [List.all_cons, ih]
    rfl
theorem ok_is_rising {f : Addr} {fd : FuncData} (F : Fun K "is_rising" "is_rising" s_is_rising f fd) (B : Bl mg) :
    FnOk P w K mg base CX0 1 f fd ["row"] (spRising K) := by
  refine F.ok sc_is_rising (fun vs H Q E h => ?_) (fun cdv A outer s H vs Q E hr h => ?_)
  · obtain ⟨a, l, rfl, _⟩ := h
    rfl
  · obtain ⟨a, l, rfl, hH, hl, k⟩ := h
    refine ⟨_, (pss_one (ps_ret (pe_callB (k_all (K := K) rfl rfl) (by rfl) B.b_all (by decide +kernel) (pa_cons (pe_lc (own := [("one", 1), ("other", 2)]) (g := gTup _ 2 (gCons (gName 1) (gCons (gName 2) gNil))) (tt := tYes) rfl sc_is_rising.nd (RZ.pi_zipA (by rfl) B.b_zip (pa_cons (pv 0) (pa_cons (pe_slice (k_sl (K := K) rfl) (pv 0) (po_some pe_int) po_none) pa_nil))) (blkOk_by (N := ["row", "one", "other"]) (sc := defScope s_is_rising) (by decide +kernel)) (fun _ _ _ _ _ => (pg_tup rfl (pgs_cons (pg_name (i := 1) sc_is_rising.nd rfl (Or.inl rfl)) (pgs_cons (pg_name (i := 2) sc_is_rising.nd rfl (Or.inl rfl)) pgs_nil)))) (fun _ _ _ _ _ => pts_nil) (fun _ _ _ _ _ => (pe_cmpR op_lt (pv 1) (pv 2) (nomark _)))) pa_nil)))), ?_⟩
    cases l with
    | nil =>
      refine ⟨_, rfl, _, rfl, _, rfl, .inr ⟨a, _, rfl, sqT hH, fun _ => ?_, fun hw => absurd ⟨rfl, rfl⟩ hw⟩⟩
      refine ⟨a, a, [], [], rfl, .inr ⟨sqT hH, sqT hH, fun D hD => ?_⟩⟩
      refine lc_it (walk_zT (n := 0) rfl) (fun _ H' => Same H H' ∧ H' D = some (.lst [])) (same_start hD) (fun _ H' _ p => ⟨sqT (p.1 _ _ hH), sqT (p.1 _ _ hH)⟩) (fun i x H1 H2 hi => absurd hi (by omega)) (fun H1 p => ?_)
      exact ⟨D, [], rfl, sqL p.2, k H1 p.1⟩
    | cons z r =>
      refine ⟨_, rfl, _, rfl, _, rfl, .inr ⟨a, _, rfl, sqT hH, fun hw => ?_, fun _ p hp => ?_⟩⟩
      · have h0 : min (1 : Int).toNat ((z :: r).map V.int).length = 0 := hw.1
        simp at h0
      · have ec : cutV ((z :: r).map V.int) (some 1) none = r.map V.int := by
          have e1 : HT.sIx ((z :: r).map V.int).length 0 (some 1) = 1 := by
            show min (1 : Int).toNat ((z :: r).map V.int).length = 1
            simp
          unfold cutV
          rw [e1, HT.sIx_none, List.map_cons, List.drop_succ_cons, List.drop_zero, List.take_of_length_le]
          simp
        rw [ec]
        have nap : a ≠ p := ne_of_none hH hp
        have ha : (upd H p (.tup (r.map V.int))) a = some (.tup ((z :: r).map V.int)) := by rw [upd_ne nap]; exact hH
        have s1 : Same H (upd H p (.tup (r.map V.int))) := same_new hp
        refine ⟨a, p, (z :: r).map V.int, r.map V.int, rfl, .inr ⟨sqT ha, sqT upd_same, fun D hD => ?_⟩⟩
        refine lc_it (walk_zT (n := r.length) (by simp)) (fun i H' => Same (upd H p (.tup (r.map V.int))) H' ∧ H' D = some (.lst (((lessB (z :: r)).take i).map V.bl)))
          (same_start hD) (fun _ H' _ q => ⟨sqT (q.1 _ _ ha), sqT (q.1 _ _ upd_same)⟩) (fun i x H1 H2 hi pv y => ?_) (fun H1 q => ?_)
        · obtain ⟨T, u, v, rfl, hT, rfl, hu, hv⟩ := y
          obtain ⟨n1, h1, rfl⟩ := map_get hu
          obtain ⟨n2, h2, rfl⟩ := map_get hv
          refine ⟨T, _, rfl, sqT upd_same, rfl, _, _, rfl, _, _, rfl, rfl, rfl, yesT ?_⟩
          refine ⟨_, rfl, _, rfl, n1, n2, rfl, rfl, ?_⟩
          refine lc_push (acc := ((lessB (z :: r)).take i).map V.bl) (same_upd pv.1 (Same.free pv.1 hT)) hD ?_ (szl ?_) ?_
          · rw [upd_ne (ne_of_none pv.2 hT)]
            exact pv.2
          · rw [List.length_map, List.length_take]
            have : r.length + 1 ≤ 1000 := hl
            omega
          · have e : (lessB (z :: r))[i]? = some (decide (n1 < n2)) := by
              unfold lessB
              have h3 : ((z :: r).drop 1)[i]? = some n2 := h2
              rw [List.getElem?_zipWith, h1, h3]
            rw [take_snoc e, List.map_append]
            rfl
        · refine ⟨D, lessB (z :: r), rfl, sqL ?_, ?_⟩
          · rw [q.2, List.take_of_length_le]
            unfold lessB
            rw [List.length_zipWith]
            simp
          · rw [lessB_rising]
            exact k H1 (s1.trans q.1)
abbrev s_is_lot_below : Stmt := topS 24
theorem sc_is_lot_below : FnScope ["value", "many", "item"] ["value", "many"] (defScope s_is_lot_below) :=
  ⟨rfl, rfl, rfl, by decide +kernel, rfl, by decide +kernel, by decide +kernel⟩
theorem ok_is_lot_below {f f1 f2 : Addr} {fd fd1 fd2 : FuncData} (F : Fun K "is_lot_below" "is_lot_below" s_is_lot_below f fd) (B : Bl mg)
    (D_is_between : Df P w K mg base 2 "is_between" ["value", "low", "high"] (spBetween K) f1 fd1) (D_is_rising : Df P w K mg base 1 "is_rising" ["row"] (spRising K) f2 fd2) :
    FnOk P w K mg base CX0 3 f fd ["value", "many"] (spLotBelow K) := by
  refine F.ok sc_is_lot_below (fun vs H Q E h => ?_) (fun cdv A outer s H vs Q E hr h => ?_)
  · obtain ⟨v, many, rfl, _⟩ := h
    rfl
  · obtain ⟨v, many, rfl, h⟩ := h
    refine ⟨_, (pss_cons (ps_if (pt_not (pt_val (pe_callB (k_isi (K := K) rfl) (by rfl) B.b_isinstance (by decide +kernel) (pa_cons (pv 0) (pa_cons (pTy (n := "tuple") B.b_tuple) pa_nil))))) (pss_one (ps_ret pe_bl)) pss_nil)
      (pss_one (ps_ret (pe_and (pe_callB (k_all (K := K) rfl rfl) (by rfl) B.b_all (by decide +kernel) (pa_cons (pe_lc (own := [("item", 2)]) (g := gName 2) (tt := tYes) rfl sc_is_lot_below.nd (pi_seq (pv 0)) (blkOk_by (N := ["value", "many", "item"]) (sc := defScope s_is_lot_below) (by decide +kernel)) (fun _ _ _ _ _ => (pg_name (i := 2) sc_is_lot_below.nd rfl (Or.inl rfl))) (fun _ _ _ _ _ => pts_nil) (fun _ _ _ _ _ => (pe_callD D_is_between (hr.mono (by omega)) (pa_cons (pv 2) (pa_cons pe_int (pa_cons (pe_op op_sub (pv 1) pe_int) pa_nil)))))) pa_nil)) (pe_one (pe_callD D_is_rising (hr.mono (by omega)) (pa_cons (pv 0) pa_nil))))))), ?_⟩
    rcases h with ⟨a, xs, rfl, hH, hl, hW, k⟩ | ⟨t, ty, ht, k⟩
    · refine ⟨_, rfl, _, .ty "tuple", .type "tuple", .type "tuple", true, rfl, .ty _, .base (.tup hH), kit_ty (by decide +kernel), _, rfl, iteF ?_⟩
      refine .inr ⟨_, rfl, a, rfl, ⟨_, sqT hH⟩, fun D hD => ?_⟩
      refine lc_it (walk_tup (xs := xs)) (fun i H' => Same H H' ∧ H' D = some (.lst (((xs.map fun v => betw v 0 (many - 1)).take i).map V.bl)))
        (same_start hD) (fun _ H' _ q => sqT (q.1 _ _ hH)) (fun i x H1 H2 hi pv y => ?_) (fun H1 q => ?_)
      · obtain ⟨rfl, hx⟩ := y
        refine ⟨rfl, yesT ?_⟩
        obtain ⟨b, hb⟩ := hW x (List.mem_of_getElem? hx)
        refine ⟨_, rfl, _, rfl, many, 1, rfl, rfl, x, b, 0, many - 1, rfl, whole_same pv.1 hb, ?_⟩
        refine lc_push pv.1 hD pv.2 (szl ?_) ?_
        · rw [List.length_map, List.length_take, List.length_map]
          omega
        · have e : (xs.map fun v => betw v 0 (many - 1))[i]? = some (betw x 0 (many - 1)) := by
            rw [List.getElem?_map, hx]
            rfl
          rw [take_snoc e, List.map_append]
          rfl
      · refine ⟨D, xs.map fun v => betw v 0 (many - 1), rfl, sqL ?_, ?_⟩
        · rw [q.2, List.take_of_length_le]
          rw [List.length_map]
          exact Nat.le_refl _
        · refine ⟨_, rfl, ?_⟩
          rw [lotB_all]
          cases e : xs.all (fun v => betw v 0 (many - 1)) with
          | false =>
            refine iteF ?_
            have e2 : lotB xs many = false := by
              unfold lotB
              rw [e]
              rfl
            rw [e2] at k
            exact k H1 q.1
          | true =>
            refine iteT ?_
            refine ⟨_, rfl, a, xs.map toI, rfl, ?_, ?_, fun H2 s2 => ?_⟩
            · rw [← all_ints e]
              exact q.1 _ _ hH
            · rw [List.length_map]
              exact hl
            · have e2 : lotB xs many = rising (xs.map toI) := by
                unfold lotB
                rw [e]
                rfl
              rw [e2] at k
              exact k H2 (q.1.trans s2)
    · refine ⟨_, rfl, _, .ty "tuple", .type t, .type "tuple", false, rfl, .ty _, ty, kit_ty ?_, _, rfl, iteT (k H (Same.refl H))⟩
      simp only [List.mem_cons, List.not_mem_nil, or_false] at ht
      rcases ht with rfl | rfl | rfl | rfl | rfl | rfl <;> decide +kernel
end
end K08

set_option Elab.async false
set_option linter.all false
set_option maxRecDepth 100000
set_option maxHeartbeats 4000000
namespace K08
open PySem PySem.Spec PyProof.Rows L2 Pit
section
variable {P : Program} {w : World} {K : PySem.W.Frag} {mg : Str → Option Value} {base : Heap}
abbrev s_mask_of : Stmt := topS 7
theorem sc_mask_of : FnScope ["lot", "mask", "block"] ["lot"] (defScope s_mask_of) :=
  ⟨rfl, rfl, rfl, by decide +kernel, rfl, by decide +kernel, by decide +kernel⟩
theorem ok_mask_of {f : Addr} {fd : FuncData} (F : Fun K "mask_of" "mask_of" s_mask_of f fd) :
    FnOk P w K mg base CX0 1 f fd ["lot"] (spMaskOf K) := by
  refine F.ok sc_mask_of (fun vs H Q E h => ?_) (fun cdv A outer s H vs Q E hr h => ?_)
  · obtain ⟨a, l, rfl, _⟩ := h
    rfl
  · obtain ⟨a, l, rfl, hH, hb, k⟩ := h
    refine ⟨_, (pss_cons (ps_set (i := 1) sc_mask_of.nd rfl (Or.inl rfl) pe_int)
      (pss_cons (ps_for PassesOwn.never rfl (pi_seq (pv 0)) (pg_name (i := 2) sc_mask_of.nd rfl (Or.inl rfl))
      (pss_one (ps_aug (i := 1) sc_mask_of.nd rfl (Or.inl rfl) (pe_op op_shl pe_int (pv 2)) iop_or)))
      (pss_one (ps_ret (pv 1))))), ?_⟩
    refine .inr ⟨_, rfl, a, rfl, ⟨_, sqT hH⟩, ?_⟩
    refine for_it (walk_tup (xs := nis l)) (fun i σ H' => H' = H ∧ ∃ v : Option V, σ = [some (.ref a), some (ni (maskN (l.take i))), v])
      ⟨rfl, none, rfl⟩ (fun i σ H' _ p => by rw [p.1]; exact sqT hH) (fun i x σ H1 H2 hi p y => ?_) (fun σ H1 p => ?_)
    · obtain ⟨rfl, v, rfl⟩ := p
      obtain ⟨rfl, hx⟩ := y
      obtain ⟨n, hn, rfl⟩ := map_get hx
      have h100 : n ≤ 100 := hb n (List.mem_of_getElem? hn)
      refine ⟨_, rfl, _, rfl, 1, (n : Int), rfl, rfl, ⟨by omega, by omega, by decide⟩, _, _, rfl, rfl, rfl, some (ni n), ?_⟩
      have e : Builtin.bitOr ((maskN (l.take i) : Nat) : Int) ((1 : Int) * 2 ^ ((n : Int)).toNat) = ((maskN (l.take (i + 1)) : Nat) : Int) := by
        rw [Int.one_mul, Int.toNat_natCast, ← PySem.W.kbt_cast, or_nat, take_snoc hn, maskN_snoc]
      show [some (V.ref a), some (V.int (Builtin.bitOr ((maskN (l.take i) : Nat) : Int) ((1 : Int) * 2 ^ ((n : Int)).toNat))), some (ni n)] = _
      rw [e]
    · obtain ⟨rfl, v, rfl⟩ := p
      refine ⟨_, rfl, ?_⟩
      have e : l.take (nis l).length = l := List.take_of_length_le (by rw [nis_len]; exact Nat.le_refl _)
      rw [e]
      exact k
abbrev s_lot_of : Stmt := topS 8
theorem sc_lot_of : FnScope ["mask", "block"] ["mask"] (defScope s_lot_of) :=
  ⟨rfl, rfl, rfl, by decide +kernel, rfl, by decide +kernel, by decide +kernel⟩
theorem ok_lot_of {f : Addr} {fd : FuncData} (F : Fun K "lot_of" "lot_of" s_lot_of f fd) (B : Bl mg) :
    FnOk P w K mg base CX0 1 f fd ["mask"] spLotOf := by
  refine F.ok sc_lot_of (fun vs H Q E h => ?_) (fun cdv A outer s H vs Q E hr h => ?_)
  · obtain ⟨m, rfl, _⟩ := h
    rfl
  · obtain ⟨m, rfl, hm, k⟩ := h
    refine ⟨_, (pss_one (ps_ret (pe_callTy (k_tupOf (K := K) rfl) (by rfl) B.b_tuple (by decide +kernel) (pa_cons (pe_lc (own := [("block", 1)]) (g := gName 1) rfl sc_lot_of.nd (pi_range1 (by rfl) B.b_range (pa_cons (pe_bits (pv 0)) pa_nil)) (blkOk_by (N := ["mask", "block"]) (sc := defScope s_lot_of) (by decide +kernel)) (fun _ _ _ _ _ => (pg_name (i := 1) sc_lot_of.nd rfl (Or.inl rfl))) (fun _ _ _ _ _ => (pts_one (k_tru (K := K) rfl (pe_op op_and (pe_op op_shr (pv 0) (pv 1)) pe_int)))) (fun _ _ _ _ _ => (pv 1))) pa_nil)))), ?_⟩
    have hn : (if m = 0 then 0 else m.log2 + 1) ≤ 100 := by
      by_cases z : m = 0
      · rw [if_pos z]; omega
      · rw [if_neg z]
        have := (Nat.log2_lt z).mpr hm
        omega
    refine ⟨_, rfl, _, rfl, _, rfl, ?_⟩
    rw [intBits_nat]
    refine ⟨by omega, by omega, fun D hD => ?_⟩
    rw [Int.toNat_natCast]
    refine lc_it (walk_range (lo := 0)) (fun i H' => Same H H' ∧ H' D = some (.lst (nis ((List.range i).filter fun b => m.testBit b)))) (same_start hD) (fun _ _ _ _ => trivial)
      (fun i x H1 H2 hi pv y => ?_) (fun H1 q => ?_)
    · obtain ⟨rfl, rfl⟩ := y
      refine ⟨rfl, _, rfl, _, rfl, _, _, rfl, rfl, ?_, _, _, rfl, rfl, m.testBit i, ?_, ?_⟩
      · show (0 : Int) ≤ 0 + (i : Int)
        omega
      · have e : (0 : Int) + (i : Int) = (i : Int) := Int.zero_add _
        rw [e]
        exact (bit_test m i).symm
      · cases hb : m.testBit i with
        | false =>
          refine iteF ⟨pv.1, ?_⟩
          rw [pv.2, List.range_succ, List.filter_append]
          simp [hb]
        | true =>
          refine iteT ⟨_, rfl, lc_push pv.1 hD pv.2 (szl ?_) ?_⟩
          · have h1 := List.length_filter_le (fun b => m.testBit b) (List.range i)
            rw [List.length_range] at h1
            rw [nis_len]
            omega
          · rw [List.range_succ, List.filter_append, nis_app]
            simp [hb]
    · refine ⟨D, _, rfl, .inl ⟨sqL q.2, fun p hp => ?_⟩⟩
      exact k p _ (same_upd q.1 (Same.free q.1 hp)) (Same.free q.1 hp) upd_same
end
end K08

set_option Elab.async false
set_option linter.all false
set_option maxRecDepth 100000
set_option maxHeartbeats 4000000
namespace K08
open PySem PySem.Spec PyProof.Rows L2 Pit
section
variable {P : Program} {w : World} {K : PySem.W.Frag} {mg : Str → Option Value} {base : Heap}
abbrev s_check_covers : Stmt := topS 28
theorem sc_check_covers : FnScope ["covers", "block", "firsts"] ["covers"] (defScope s_check_covers) :=
  ⟨rfl, rfl, rfl, by decide +kernel, rfl, by decide +kernel, by decide +kernel⟩
theorem ok_check_covers {f f1 C : Addr} {fd fd1 : FuncData} {tk : Tok} (F : Fun K "check_covers" "check_covers" s_check_covers f fd) (B : Bl mg) (T : Txt K mg C tk)
    (D_is_lot_below : Df P w K mg base 3 "is_lot_below" ["value", "many"] (spLotBelow K) f1 fd1) :
    FnOk P w K mg base CX0 4 f fd ["covers"] spCkCovers := by
  refine F.ok sc_check_covers (fun vs H Q E h => ?_) (fun cdv A outer s H vs Q E hr h => ?_)
  · obtain ⟨p, cs, rfl, _⟩ := h
    rfl
  · obtain ⟨p, cs, rfl, hC, hV, h1, h10, k⟩ := h
    refine ⟨_, (pss_cons (ps_if (PW.pt (pw_or (pt_not (pt_val (pe_callB (k_isi (K := K) rfl) (by rfl) B.b_isinstance (by decide +kernel) (pa_cons (pv 0) (pa_cons (pTy (n := "tuple") B.b_tuple) pa_nil))))) (pw_or1 (pt_not (pt_chain op_le op_le pe_int (pe_callB (k_len (K := K) rfl) (by rfl) B.b_len (by decide +kernel) (pa_cons (pv 0) pa_nil)) (pe_glob (v := .int 10) (by rfl) T.g_MOST_BLOCKS ⟨_, rfl⟩)))))) (pss_one ps_never) pss_nil)
      (pss_one (ps_for PassesOwn.never rfl (pi_enumT (by rfl) B.b_enumerate (pa_cons (pv 0) pa_nil)) (pg_tup rfl (pgs_cons (pg_name (i := 1) sc_check_covers.nd rfl (Or.inl rfl)) (pgs_cons (pg_name (i := 2) sc_check_covers.nd rfl (Or.inl rfl)) pgs_nil)))
      (pss_one (ps_if (pt_not (pt_val (pe_callD D_is_lot_below (hr.mono (by omega)) (pa_cons (pv 2) (pa_cons (pv 1) pa_nil))))) (pss_one ps_never) pss_nil))))), ?_⟩
    obtain ⟨xs, hp, hx, hget⟩ := hC.get
    refine ⟨_, rfl, _, .ty "tuple", .type "tuple", .type "tuple", true, rfl, .ty _, .base (.tup hp), kit_ty (by decide +kernel), _, rfl, iteF ?_⟩
    refine ⟨_, rfl, p, _, rfl, .inr (sqT hp), _, _, rfl, rfl, _, rfl, ?_⟩
    rw [hx, decide_eq_true (show (1 : Int) ≤ (cs.length : Int) by omega)]
    refine iteT ⟨_, _, rfl, rfl, _, rfl, ?_⟩
    rw [decide_eq_true (show (cs.length : Int) ≤ 10 by omega)]
    refine iteF ?_
    refine ⟨_, rfl, p, xs, rfl, sqT hp, ?_⟩
    refine for_it walk_enT (fun i σ H' => Same H H' ∧ ∃ v1 v2 : Option V, σ = [some (.ref p), v1, v2]) ⟨Same.refl H, _, _, rfl⟩ (fun i σ H' _ pv => sqT (pv.1 _ _ hp)) (fun i x σ H1 H2 hi pv y => ?_) (fun σ H1 pv => ?_)
    · obtain ⟨s1, v1, v2, rfl⟩ := pv
      obtain ⟨t, u, v, rfl, ht, rfl, hu, hv⟩ := y
      cases hu
      obtain ⟨a, c, rfl, hc, ha⟩ := hC.item hp hv
      obtain ⟨hasc, hlt⟩ := hV i c hc
      have s2 : Same H (upd H1 t (.tup [ni i, .ref a])) := same_upd s1 (Same.free s1 ht)
      refine ⟨t, _, rfl, sqT upd_same, rfl, _, _, rfl, _, _, rfl, rfl, ?_⟩
      refine ⟨_, rfl, _, rfl, _, (i : Int), rfl, .inl ⟨a, nis c, rfl, s2 _ _ ha, ?_, fun x hx => ?_, fun H3 s3 => ?_⟩⟩
      · rw [nis_len]
        have := asc_len0 hasc hlt
        have : i < xs.length := hi
        omega
      · obtain ⟨n, _, rfl⟩ := List.mem_map.mp hx
        exact ⟨true, .inl ⟨_, rfl, rfl⟩⟩
      · have e : lotB (nis c) (i : Int) = true := lotB_nis hasc hlt
        rw [e]
        exact ⟨_, rfl, iteF ⟨s2.trans s3, _, _, rfl⟩⟩
    · obtain ⟨s1, v1, v2, rfl⟩ := pv
      exact k H1 s1
end
end K08

set_option Elab.async false
set_option linter.all false
set_option maxRecDepth 100000
set_option maxHeartbeats 4000000
namespace K08
open PySem PySem.Spec PyProof.Rows L2 Pit
section
variable {P : Program} {w : World} {K : PySem.W.Frag} {mg : Str → Option Value} {base : Heap}
abbrev s_check_ground : Stmt := topS 29
theorem sc_check_ground : FnScope ["ground"] ["ground"] (defScope s_check_ground) :=
  ⟨rfl, rfl, rfl, by decide +kernel, rfl, by decide +kernel, by decide +kernel⟩
theorem ok_check_ground {f C : Addr} {fd : FuncData} {tk : Tok} (F : Fun K "check_ground" "check_ground" s_check_ground f fd) (B : Bl mg) (T : Txt K mg C tk) :
    FnOk P w K mg base CX0 1 f fd ["ground"] (spCkGround C) := by
  refine F.ok sc_check_ground (fun vs H Q E h => ?_) (fun cdv A outer s H vs Q E hr h => ?_)
  · obtain ⟨g, p, cs, rfl, _⟩ := h
    rfl
  · obtain ⟨g, p, cs, rfl, hG, k⟩ := h
    refine ⟨_, (pss_one (ps_if (pt_not (pt_val (pe_callB (C8.call_isC T.i_Ground) (by rfl) B.b_isinstance (by decide +kernel) (pa_cons (pv 0) (pa_cons (pe_glob (v := .ref _) (by rfl) T.g_Ground rfl) pa_nil))))) (pss_one ps_never) pss_nil)), ?_⟩
    obtain ⟨⟨dx, hg⟩, _⟩ := id hG
    exact ⟨_, rfl, g, dx, flds p, rfl, hg, _, rfl, iteF k⟩
abbrev s_Ground_init : Stmt := inClass (topS 27) 0
theorem sc_Ground_init : FnScope ["self", "covers"] ["self", "covers"] (defScope s_Ground_init) :=
  ⟨rfl, rfl, rfl, by decide +kernel, rfl, by decide +kernel, by decide +kernel⟩
theorem ok_ground_init {f f1 C : Addr} {fd fd1 : FuncData} {tk : Tok} (F : Fun K "__init__" "Ground.__init__" s_Ground_init f fd) (T : Txt K mg C tk)
    (D_check_covers : Df P w K mg base 4 "check_covers" ["covers"] spCkCovers f1 fd1) :
    FnOk P w K mg base CX0 5 f fd ["self", "covers"] (spGround C) := by
  refine F.ok sc_Ground_init (fun vs H Q E h => ?_) (fun cdv A outer s H vs Q E hr h => ?_)
  · obtain ⟨g, dx, p, cs, rfl, _⟩ := h
    rfl
  · obtain ⟨g, dx, p, cs, rfl, hg, hC, hV, h1, h10, k⟩ := h
    refine ⟨_, (pss_cons (ps_expr (pe_callD D_check_covers (hr.mono (by omega)) (pa_cons (pv 1) pa_nil)))
      (pss_one (ps_fld (pv 0) (pv 1) rfl))), ?_⟩
    refine ⟨_, rfl, p, cs, rfl, hC, hV, h1, h10, fun H1 s1 => ?_⟩
    refine ⟨_, rfl, _, rfl, g, C, dx, [], rfl, s1 _ _ hg, T.cl, T.nC, by decide, ?_⟩
    have fx : ∀ (b : Addr) (o : HO), b ≠ g → H b = some o → (upd H1 g (.ins C dx (putF "covers" (.ref p) []))) b = some o := fun b o n e => by
      rw [upd_ne n]
      exact s1 _ _ e
    refine k _ fx ⟨⟨dx, upd_same⟩, ?_, hV, h1, h10⟩
    obtain ⟨as, e1, e2, e3⟩ := hC
    have ne : ∀ {q ys}, H q = some (.tup ys) → q ≠ g := fun e => ne_of e hg (by intro z; cases z)
    exact ⟨as, fx _ _ (ne e1) e1, e2, fun i a c z1 z2 => fx _ _ (ne (e3 i a c z1 z2)) (e3 i a c z1 z2)⟩
abbrev s_joint_mask : Stmt := topS 17
theorem sc_joint_mask : FnScope ["masks", "joint", "mask"] ["masks"] (defScope s_joint_mask) :=
  ⟨rfl, rfl, rfl, by decide +kernel, rfl, by decide +kernel, by decide +kernel⟩
theorem ok_joint_mask {f : Addr} {fd : FuncData} (F : Fun K "joint_mask" "joint_mask" s_joint_mask f fd) :
    FnOk P w K mg base CX0 1 f fd ["masks"] (spJoint K) := by
  refine F.ok sc_joint_mask (fun vs H Q E h => ?_) (fun cdv A outer s H vs Q E hr h => ?_)
  · obtain ⟨a, ms, rfl, _⟩ := h
    rfl
  · obtain ⟨a, ms, rfl, hH, k⟩ := h
    refine ⟨_, (pss_cons (ps_set (i := 1) sc_joint_mask.nd rfl (Or.inl rfl) pe_int)
      (pss_cons (ps_for PassesOwn.never rfl (pi_seq (pv 0)) (pg_name (i := 2) sc_joint_mask.nd rfl (Or.inl rfl))
      (pss_one (ps_aug (i := 1) sc_joint_mask.nd rfl (Or.inl rfl) (pv 2) iop_or)))
      (pss_one (ps_ret (pv 1))))), ?_⟩
    refine .inl ⟨_, rfl, a, rfl, ⟨_, hH⟩, ?_⟩
    refine for_it (walk_list (xs := nis ms)) (fun i σ H' => H' = H ∧ ∃ v : Option V, σ = [some (.ref a), some (ni ((ms.take i).foldl (fun a x => a ||| x) 0)), v])
      ⟨rfl, none, rfl⟩ (fun i σ H' _ p => by rw [p.1]; exact hH) (fun i x σ H1 H2 hi p y => ?_) (fun σ H1 p => ?_)
    · obtain ⟨rfl, v, rfl⟩ := p
      obtain ⟨rfl, hx⟩ := y
      obtain ⟨n, hn, rfl⟩ := map_get hx
      refine ⟨_, rfl, _, rfl, _, _, rfl, rfl, rfl, some (ni n), ?_⟩
      show [some (V.ref a), some (V.int (Builtin.bitOr _ _)), some (ni n)] = _
      rw [or_nat, take_snoc hn, List.foldl_append]
      rfl
    · obtain ⟨rfl, v, rfl⟩ := p
      refine ⟨_, rfl, ?_⟩
      have e : ms.take (nis ms).length = ms := List.take_of_length_le (by rw [nis_len]; exact Nat.le_refl _)
      rw [e]
      exact k
abbrev s_is_lot : Stmt := topS 32
theorem sc_is_lot : FnScope ["ground", "value"] ["ground", "value"] (defScope s_is_lot) :=
  ⟨rfl, rfl, rfl, by decide +kernel, rfl, by decide +kernel, by decide +kernel⟩
theorem ok_is_lot {f f1 C : Addr} {fd fd1 : FuncData} {tk : Tok} (F : Fun K "is_lot" "is_lot" s_is_lot f fd) (B : Bl mg) (T : Txt K mg C tk)
    (D_is_lot_below : Df P w K mg base 3 "is_lot_below" ["value", "many"] (spLotBelow K) f1 fd1) :
    FnOk P w K mg base CX0 4 f fd ["ground", "value"] (spIsLot C) := by
  refine F.ok sc_is_lot (fun vs H Q E h => ?_) (fun cdv A outer s H vs Q E hr h => ?_)
  · obtain ⟨g, p, a, cs, l, rfl, _⟩ := h
    rfl
  · obtain ⟨g, p, a, cs, l, rfl, hG, hL, k⟩ := h
    refine ⟨_, (pss_one (ps_ret (pe_callD D_is_lot_below (hr.mono (by omega)) (pa_cons (pv 1) (pa_cons (pe_callB (k_len (K := K) rfl) (by rfl) B.b_len (by decide +kernel) (pa_cons (pe_fld (pv 0) rfl) pa_nil)) pa_nil))))), ?_⟩
    obtain ⟨⟨dx, hg⟩, hC, hV, h1, h10⟩ := id hG
    obtain ⟨xs, hp, hx, _⟩ := hC.get
    refine ⟨_, rfl, _, rfl, g, C, dx, flds p, _, rfl, hg, T.cl, T.nC, flds_lk p, p, xs, rfl, .inr (sqT hp), ?_⟩
    rw [hx]
    refine ⟨_, _, rfl, .inl ⟨a, nis l, rfl, hL.1, ?_, fun x hx2 => ?_, fun H1 s1 => ?_⟩⟩
    · rw [nis_len]
      have := hL.2.len
      omega
    · obtain ⟨n, _, rfl⟩ := List.mem_map.mp hx2
      exact ⟨true, .inl ⟨_, rfl, rfl⟩⟩
    · have e : lotB (nis l) (cs.length : Int) = true := lotB_nis hL.2.1 hL.2.2
      rw [e]
      exact k H1 s1
abbrev s_check_lot : Stmt := topS 33
theorem sc_check_lot : FnScope ["ground", "lot"] ["ground", "lot"] (defScope s_check_lot) :=
  ⟨rfl, rfl, rfl, by decide +kernel, rfl, by decide +kernel, by decide +kernel⟩
theorem ok_check_lot {f f1 f2 C : Addr} {fd fd1 fd2 : FuncData} (F : Fun K "check_lot" "check_lot" s_check_lot f fd)
    (D_check_ground : Df P w K mg base 1 "check_ground" ["ground"] (spCkGround C) f1 fd1) (D_is_lot : Df P w K mg base 4 "is_lot" ["ground", "value"] (spIsLot C) f2 fd2) :
    FnOk P w K mg base CX0 5 f fd ["ground", "lot"] (spCkLot C) := by
  refine F.ok sc_check_lot (fun vs H Q E h => ?_) (fun cdv A outer s H vs Q E hr h => ?_)
  · obtain ⟨g, p, a, cs, l, rfl, _⟩ := h
    rfl
  · obtain ⟨g, p, a, cs, l, rfl, hG, hL, k⟩ := h
    refine ⟨_, (pss_cons (ps_expr (pe_callD D_check_ground (hr.mono (by omega)) (pa_cons (pv 0) pa_nil)))
      (pss_one (ps_if (pt_not (pt_val (pe_callD D_is_lot (hr.mono (by omega)) (pa_cons (pv 0) (pa_cons (pv 1) pa_nil))))) (pss_one ps_never) pss_nil))), ?_⟩
    refine ⟨_, rfl, g, p, cs, rfl, hG, _, rfl, _, rfl, g, p, a, cs, l, rfl, hG, hL, fun H1 s1 => ⟨_, rfl, iteF (k H1 s1)⟩⟩
abbrev s_first_masks : Stmt := topS 9
theorem sc_first_masks : FnScope ["covers", "firsts"] ["covers"] (defScope s_first_masks) :=
  ⟨rfl, rfl, rfl, by decide +kernel, rfl, by decide +kernel, by decide +kernel⟩
theorem ok_first_masks {f f1 : Addr} {fd fd1 : FuncData} (F : Fun K "first_masks" "first_masks" s_first_masks f fd)
    (D_mask_of : Df P w K mg base 1 "mask_of" ["lot"] (spMaskOf K) f1 fd1) :
    FnOk P w K mg base CX0 2 f fd ["covers"] spFirstMs := by
  refine F.ok sc_first_masks (fun vs H Q E h => ?_) (fun cdv A outer s H vs Q E hr h => ?_)
  · obtain ⟨p, cs, rfl, _⟩ := h
    rfl
  · obtain ⟨p, cs, rfl, hC, hV, h10, k⟩ := h
    refine ⟨_, (pss_one (ps_ret (pe_lc (own := [("firsts", 1)]) (g := gName 1) (tt := tYes) rfl sc_first_masks.nd (pi_seq (pv 0)) (blkOk_by (N := ["covers", "firsts"]) (sc := defScope s_first_masks) (by decide +kernel)) (fun _ _ _ _ _ => (pg_name (i := 1) sc_first_masks.nd rfl (Or.inl rfl))) (fun _ _ _ _ _ => pts_nil) (fun _ _ _ _ _ => (pe_callD D_mask_of (hr.mono (by omega)) (pa_cons (pv 1) pa_nil)))))), ?_⟩
    obtain ⟨xs, hp, hx, hget⟩ := hC.get
    refine .inr ⟨_, rfl, p, rfl, ⟨_, sqT hp⟩, fun D hD => ?_⟩
    refine lc_it (walk_tup (xs := xs)) (fun i H' => Same H H' ∧ H' D = some (.lst (nis ((cs.take i).map maskN)))) (same_start hD) (fun _ H' _ pv => sqT (pv.1 _ _ hp)) (fun i x H1 H2 hi pv y => ?_) (fun H1 pv => ?_)
    · obtain ⟨rfl, hxi⟩ := y
      obtain ⟨a, c, rfl, hc, ha⟩ := hC.item hp hxi
      obtain ⟨hasc, hlt⟩ := hV i c hc
      refine ⟨rfl, yesT ⟨_, rfl, a, c, rfl, pv.1 _ _ ha, fun z hz => by have := hlt z hz; omega, lc_push pv.1 hD pv.2 (szl ?_) ?_⟩⟩
      · rw [nis_len, List.length_map, List.length_take]
        omega
      · rw [take_snoc hc, List.map_append, nis_app]
        rfl
    · rw [hx, List.take_of_length_le (Nat.le_refl _)] at pv
      exact k D H1 pv.1 hD pv.2
abbrev s_pit_masks : Stmt := topS 10
theorem sc_pit_masks : FnScope ["covers", "pits", "block", "firsts", "pit"] ["covers"] (defScope s_pit_masks) :=
  ⟨rfl, rfl, rfl, by decide +kernel, rfl, by decide +kernel, by decide +kernel⟩
theorem ok_pit_masks {f f1 : Addr} {fd fd1 : FuncData} (F : Fun K "pit_masks" "pit_masks" s_pit_masks f fd) (B : Bl mg)
    (D_first_masks : Df P w K mg base 2 "first_masks" ["covers"] spFirstMs f1 fd1) :
    FnOk P w K mg base CX0 3 f fd ["covers"] spPitMs := by
  refine F.ok sc_pit_masks (fun vs H Q E h => ?_) (fun cdv A outer s H vs Q E hr h => ?_)
  · obtain ⟨p, cs, rfl, _⟩ := h
    rfl
  · obtain ⟨p, cs, rfl, hC, hV, h10, k⟩ := h
    refine ⟨_, (pss_cons (ps_set (i := 1) sc_pit_masks.nd rfl (Or.inl rfl) (pe_lst (pa_cons pe_int pa_nil)))
      (pss_cons (ps_for PassesOwn.never rfl (pi_enum (by rfl) B.b_enumerate (pa_cons (pe_callD D_first_masks (hr.mono (by omega)) (pa_cons (pv 0) pa_nil)) pa_nil)) (pg_tup rfl (pgs_cons (pg_name (i := 2) sc_pit_masks.nd rfl (Or.inr rfl)) (pgs_cons (pg_name (i := 3) sc_pit_masks.nd rfl (Or.inr rfl)) pgs_nil)))
      (pss_one (ps_set (i := 1) sc_pit_masks.nd rfl (Or.inl rfl) (pe_op (k_add (K := K) rfl) (pv 1) (pe_lc (own := [("pit", 4)]) (g := gName 4) rfl sc_pit_masks.nd (pi_seq (pv 1)) (blkOk_by (N := ["covers", "pits", "block", "firsts", "pit"]) (sc := defScope s_pit_masks) (by decide +kernel)) (fun _ _ _ _ _ => (pg_name (i := 4) sc_pit_masks.nd rfl (Or.inl rfl))) (fun _ _ _ _ _ => (pts_one (pt_cmpR (k_eq (K := K) rfl (hu64 hr)) (pe_op op_and (pv 3) (pe_un un_inv (pv 4))) pe_int (nomark _)))) (fun _ _ _ _ _ => (pe_op op_or (pv 4) (pe_op op_shl pe_int (pv 2)))))))))
      (pss_one (ps_ret (pv 1))))), ?_⟩
    refine ⟨(show 1 ≤ sizeLine by decide), fun q0 hq0 => ?_⟩
    have s0 : Same H (upd H q0 (.lst [.int 0])) := same_new hq0
    have hq00 : (upd H q0 (.lst [.int 0])) q0 = some (.lst (nis [0])) := upd_same
    generalize (upd H q0 (.lst [.int 0])) = H0 at s0 hq00 ⊢
    refine ⟨_, rfl, p, cs, rfl, hC.same s0, hV, h10, fun fq H1 s1 _ hfq => ⟨fq, _, rfl, sqL hfq, ?_⟩⟩
    have hn : (nis (cs.map maskN)).length = cs.length := by rw [nis_len, List.length_map]
    refine for_it walk_enum (fun i σ H' => Same H H' ∧ Same H1 H' ∧ ∃ (q : Addr) (ms : List Nat) (v2 v3 v4 : Option V), σ = [some (.ref p), some (.ref q), v2, v3, v4] ∧ H' q = some (.lst (nis ms)) ∧ H q = none ∧ PitMs cs i ms)
      ⟨s0.trans s1, Same.refl _, q0, [0], _, _, _, rfl, s1 _ _ hq00, hq0, pitMs_zero cs⟩ (fun i σ H' _ pv => sqL (pv.2.1 _ _ hfq)) (fun i x σ H2 H3 hi pv y => ?_) (fun σ H2 pv => ?_)
    · obtain ⟨s2, s12, q, ms, v2, v3, v4, rfl, hq, hqn, hM⟩ := pv
      obtain ⟨t, u, v, rfl, ht, rfl, hu, hv⟩ := y
      cases hu
      obtain ⟨mk, hmk, rfl⟩ := map_get hv
      obtain ⟨c, hc, rfl⟩ := map_get hmk
      have hic : i < cs.length := by rw [hn] at hi; exact hi
      have hgd : cs.getD i [] = c := getD_at hc
      have s3 : Same H2 (upd H2 t (.tup [ni i, ni (maskN c)])) := same_new ht
      have ht3 : (upd H2 t (.tup [ni i, ni (maskN c)])) t = some (.tup [ni i, ni (maskN c)]) := upd_same
      refine ⟨t, _, rfl, sqT ht3, rfl, _, _, rfl, _, _, rfl, rfl, ?_⟩
      show tAsg _ _ _ _ (upd H2 t (.tup [ni i, ni (maskN c)]))
      generalize (upd H2 t (.tup [ni i, ni (maskN c)])) = H3 at s3 ht3 ⊢
      have hl := hM.len
      have hpow : 2 ^ i ≤ 512 := Nat.pow_le_pow_right (by decide) (show i ≤ 9 by omega)
      refine ⟨_, rfl, .inl ⟨_, rfl, q, rfl, ⟨_, sqL (s3 _ _ hq)⟩, fun D hD => ?_⟩⟩
      refine lc_it (walk_list (xs := nis ms)) (fun j H' => Same H3 H' ∧ H' D = some (.lst (nis (withBlk c i (ms.take j))))) (same_start hD) (fun _ H' _ pv => sqL (pv.1 _ _ (s3 _ _ hq))) (fun j x H4 H5 hj pv y => ?_) (fun H4 pv => ?_)
      · obtain ⟨rfl, hx⟩ := y
        obtain ⟨m, hm, rfl⟩ := map_get hx
        refine ⟨rfl, _, rfl, _, rfl, _, rfl, _, _, rfl, rfl, .inl ⟨rfl, _, rfl, ?_⟩⟩
        have e := and_notB c m
        have e2 : withBlk c i (ms.take (j + 1)) = withBlk c i (ms.take j) ++ (if (c.all fun f => m.testBit f) = true then [m ||| 2 ^ i] else []) := by
          unfold withBlk
          rw [take_snoc hm, List.filter_append, List.map_append, List.filter_cons]
          cases c.all fun f => m.testBit f <;> rfl
        cases z : c.all fun f => m.testBit f with
        | false =>
          rw [z] at e
          refine itF e ⟨pv.1, ?_⟩
          rw [e2, z]
          simpa using pv.2
        | true =>
          rw [z] at e
          refine itT e ⟨_, rfl, _, rfl, 1, (i : Int), rfl, rfl, ⟨by omega, by omega, by decide⟩, _, _, rfl, rfl, ?_⟩
          refine lc_push pv.1 hD pv.2 (szl ?_) ?_
          · have y := List.length_filter_le (fun m => c.all fun f => m.testBit f) (ms.take j)
            rw [List.length_take] at y
            rw [nis_len]
            unfold withBlk
            rw [List.length_map]
            omega
          · rw [e2, z, nis_app]
            show _ = _ ++ [V.int (Builtin.bitOr ((m : Nat) : Int) ((1 : Int) * 2 ^ ((i : Int)).toNat))]
            rw [Int.one_mul, Int.toNat_natCast, ← PySem.W.kbt_cast, or_nat]
            rfl
      · rw [nis_len, List.take_of_length_le (Nat.le_refl _)] at pv
        obtain ⟨s4, hD4⟩ := pv
        have hM2 := pitMs_step hV hic hM
        rw [hgd] at hM2
        have hl2 := hM2.len
        have hpow2 : 2 ^ (i + 1) ≤ 1024 := Nat.pow_le_pow_right (by decide) (show i + 1 ≤ 10 by omega)
        rw [List.length_append] at hl2
        refine .inr (.inl ⟨q, D, _, _, rfl, rfl, s4 _ _ (s3 _ _ hq), hD4, szle ?_, fun t2 ht2 => ?_⟩)
        · rw [nis_len, nis_len]
          omega
        have s24 := s3.trans s4
        refine ⟨same_upd (s2.trans s24) (Same.free (s2.trans s24) ht2), same_upd (s12.trans s24) (Same.free (s12.trans s24) ht2), t2, _, _, _, _, rfl, ?_, Same.free (s2.trans s24) ht2, hM2⟩
        rw [upd_same, nis_app]
    · obtain ⟨s2, s12, q, ms, v2, v3, v4, rfl, hq, hqn, hM⟩ := pv
      rw [hn] at hM
      exact ⟨_, rfl, k q ms H2 s2 hqn hq hM⟩
abbrev s_sum_of : Stmt := topS 13
theorem sc_sum_of : FnScope ["amounts", "mask", "block"] ["amounts", "mask"] (defScope s_sum_of) :=
  ⟨rfl, rfl, rfl, by decide +kernel, rfl, by decide +kernel, by decide +kernel⟩
theorem ok_sum_of {f f1 : Addr} {fd fd1 : FuncData} (F : Fun K "sum_of" "sum_of" s_sum_of f fd) (B : Bl mg)
    (D_lot_of : Df P w K mg base 1 "lot_of" ["mask"] spLotOf f1 fd1) :
    FnOk P w K mg base CX0 2 f fd ["amounts", "mask"] spSumOf := by
  refine F.ok sc_sum_of (fun vs H Q E h => ?_) (fun cdv A outer s H vs Q E hr h => ?_)
  · obtain ⟨a, ws, m, rfl, _⟩ := h
    rfl
  · obtain ⟨a, ws, m, rfl, hW, h10, hm, k⟩ := h
    refine ⟨_, (pss_one (ps_ret (pe_callB (k_sum (K := K) rfl rfl) (by rfl) B.b_sum (by decide +kernel) (pa_cons (pe_lc (own := [("block", 2)]) (g := gName 2) (tt := tYes) rfl sc_sum_of.nd (pi_seq (pe_callD D_lot_of (hr.mono (by omega)) (pa_cons (pv 1) pa_nil))) (blkOk_by (N := ["amounts", "mask", "block"]) (sc := defScope s_sum_of) (by decide +kernel)) (fun _ _ _ _ _ => (pg_name (i := 2) sc_sum_of.nd rfl (Or.inl rfl))) (fun _ _ _ _ _ => pts_nil) (fun _ _ _ _ _ => (pe_ix (k_ix (K := K) rfl) (pv 0) (pv 2) (fun _ _ => rfl)))) pa_nil)))), ?_⟩
    have hb := lot_bits hm
    refine .inr ⟨_, rfl, m, rfl, Nat.lt_of_lt_of_le hm (Nat.pow_le_pow_right (by decide) (by omega)), fun q H1 s1 _ hq => ⟨q, rfl, ⟨_, sqT hq⟩, fun D hD => ?_⟩⟩
    refine lc_it (walk_tup (xs := nis (bitsN m))) (fun i H' => Same H1 H' ∧ H' D = some (.lst ((((bitsN m).take i).map fun b => ws.getD b 0).map V.int))) (same_start hD) (fun _ H' _ pv => sqT (pv.1 _ _ hq)) (fun i x H2 H3 hi pv y => ?_) (fun H2 pv => ?_)
    · obtain ⟨rfl, hx⟩ := y
      obtain ⟨n, hn, rfl⟩ := map_get hx
      have hnl := hb.2 n (List.mem_of_getElem? hn)
      refine ⟨rfl, yesT ⟨_, rfl, _, rfl, .inr (.inl ⟨a, _, (n : Int), _, rfl, rfl, sqT (pv.1 _ _ (s1 _ _ hW)), atI_nat (w_at hnl), lc_push pv.1 hD pv.2 (szl ?_) ?_⟩)⟩⟩
      · rw [List.length_map, List.length_map, List.length_take]
        have := hb.len
        omega
      · rw [take_snoc hn, List.map_append, List.map_append]
        rfl
    · rw [nis_len, List.take_of_length_le (Nat.le_refl _)] at pv
      exact ⟨D, _, rfl, sqL pv.2, k H2 (s1.trans pv.1)⟩
abbrev s_pit_sums : Stmt := topS 14
theorem sc_pit_sums : FnScope ["covers", "amounts", "pit"] ["covers", "amounts"] (defScope s_pit_sums) :=
  ⟨rfl, rfl, rfl, by decide +kernel, rfl, by decide +kernel, by decide +kernel⟩
theorem ok_pit_sums {f f1 f2 : Addr} {fd fd1 fd2 : FuncData} (F : Fun K "pit_sums" "pit_sums" s_pit_sums f fd)
    (D_pit_masks : Df P w K mg base 3 "pit_masks" ["covers"] spPitMs f1 fd1) (D_sum_of : Df P w K mg base 2 "sum_of" ["amounts", "mask"] spSumOf f2 fd2) :
    FnOk P w K mg base CX0 4 f fd ["covers", "amounts"] spPitSums := by
  refine F.ok sc_pit_sums (fun vs H Q E h => ?_) (fun cdv A outer s H vs Q E hr h => ?_)
  · obtain ⟨p, a, cs, ws, rfl, _⟩ := h
    rfl
  · obtain ⟨p, a, cs, ws, rfl, hC, hV, h10, hW, hl, k⟩ := h
    refine ⟨_, (pss_one (ps_ret (pe_dc (own := [("pit", 2)]) (g := gName 2) (tt := tYes) rfl sc_pit_sums.nd (pi_seq (pe_callD D_pit_masks (hr.mono (by omega)) (pa_cons (pv 0) pa_nil))) (blkOk_by (N := ["covers", "amounts", "pit"]) (sc := defScope s_pit_sums) (by decide +kernel)) (fun _ _ _ _ _ => (pg_name (i := 2) sc_pit_sums.nd rfl (Or.inl rfl))) (fun _ _ _ _ _ => pts_nil) (fun _ _ _ _ _ => (pv 2)) (fun _ _ _ _ _ => (pe_callD D_sum_of (hr.mono (by omega)) (pa_cons (pv 1) (pa_cons (pv 2) pa_nil))))))), ?_⟩
    refine .inl ⟨_, rfl, p, cs, rfl, hC, hV, h10, fun q ms H1 s1 _ hq hM => ⟨q, rfl, ⟨_, sqL hq⟩, fun D hD => ?_⟩⟩
    have hlen : ms.length ≤ 1024 := Nat.le_trans hM.len (Nat.pow_le_pow_right (by decide) h10)
    refine dc_walk (walk_list (xs := nis ms)) (fun i H' => Same H1 H' ∧ H' D = some (.dK (kvsOf ws (ms.take i)))) ⟨same_new hD, upd_same⟩ (fun _ H' _ pv => sqL (pv.1 _ _ hq)) (fun i x H0 H2 hi pv y => ?_) (fun H2 pv => ?_)
    · obtain ⟨rfl, hx⟩ := y
      obtain ⟨m, hm, rfl⟩ := map_get hx
      refine ⟨rfl, yesT ⟨_, rfl, _, rfl, _, rfl, a, ws, m, rfl, pv.1 _ _ (s1 _ _ hW), by omega, ?_, fun H3 s3 => ⟨_, Sum.inl (m : Int), rfl, s3 _ _ pv.2, szl ?_, same_upd (pv.1.trans s3) hD, ?_⟩⟩⟩
      · rw [hl]
        exact hM.lt m (List.mem_of_getElem? hm)
      · rw [kvs_len, List.length_take]
        omega
      · rw [upd_same, putK_kvs, take_snoc hm]
        intro z
        have nd := hM.nd
        obtain ⟨hi, rfl⟩ := List.getElem?_eq_some_iff.mp hm
        have e := List.take_append_drop i ms
        rw [← e, List.nodup_append] at nd
        exact nd.2.2 _ z _ (by rw [List.drop_eq_getElem_cons hi]; exact List.mem_cons_self) rfl
    · rw [nis_len, List.take_of_length_le (Nat.le_refl _)] at pv
      exact k D ms H2 (s1.trans pv.1) (Same.free s1 hD) pv.2 hM
abbrev s_best_masks : Stmt := topS 15
theorem sc_best_masks : FnScope ["covers", "amounts", "sums", "most", "pit"] ["covers", "amounts"] (defScope s_best_masks) :=
  ⟨rfl, rfl, rfl, by decide +kernel, rfl, by decide +kernel, by decide +kernel⟩
theorem ok_best_masks {f f1 : Addr} {fd fd1 : FuncData} (F : Fun K "best_masks" "best_masks" s_best_masks f fd) (B : Bl mg)
    (D_pit_sums : Df P w K mg base 4 "pit_sums" ["covers", "amounts"] spPitSums f1 fd1) :
    FnOk P w K mg base CX0 5 f fd ["covers", "amounts"] spBestMs2 := by
  refine F.ok sc_best_masks (fun vs H Q E h => ?_) (fun cdv A outer s H vs Q E hr h => ?_)
  · obtain ⟨p, a, cs, ws, rfl, _⟩ := h
    rfl
  · obtain ⟨p, a, cs, ws, rfl, hC, hV, h10, hW, hwl, k⟩ := h
    refine ⟨_, (pss_cons (ps_set (i := 2) sc_best_masks.nd rfl (Or.inr rfl) (pe_callD D_pit_sums (hr.mono (by omega)) (pa_cons (pv 0) (pa_cons (pv 1) pa_nil))))
      (pss_cons (ps_set (i := 3) sc_best_masks.nd rfl (Or.inr rfl) (pe_maxVals rfl (by rfl) B.b_max (pv 2)))
      (pss_one (ps_ret (pe_lock (pe_lc (own := [("pit", 4)]) (g := gName 4) rfl sc_best_masks.nd (pi_keys (pv 2)) (blkOk_by (N := ["covers", "amounts", "sums", "most", "pit"]) (sc := defScope s_best_masks) (by decide +kernel)) (fun _ _ _ _ _ => (pg_name (i := 4) sc_best_masks.nd rfl (Or.inl rfl))) (fun _ _ _ _ _ => (pts_one (pt_cmpR (k_eq (K := K) rfl (hu64 hr)) (pe_dget (hu1 hr) (pv 2) (pv 4) (fun _ _ => rfl)) (pv 3) (nomark _)))) (fun _ _ _ _ _ => (pv 4)))))))), ?_⟩
    refine ⟨_, rfl, _, rfl, p, a, cs, ws, rfl, hC, hV, h10, hW, hwl, fun d ms H1 s1 _ hd hM => ?_⟩
    have hlen : ms.length ≤ 1024 := Nat.le_trans hM.len (Nat.pow_le_pow_right (by decide) h10)
    have h0 : maskN [] ∈ ms := hM.all _ (lot_nil _) (pit_nil cs)
    refine ⟨_, rfl, d, kvsOf ws ms, ms.map fun m => sumL ws (bitsN m), rfl, hd, ?_, fun e => ?_, fun M hMx hle => ?_⟩
    · unfold Pit.kvsOf
      rw [List.map_map, List.map_map]
      rfl
    · rw [List.map_eq_nil_iff.mp e] at h0
      exact absurd h0 List.not_mem_nil
    refine ⟨d, _, hd, trivial, fun od => ?_⟩
    refine ⟨_, rfl, d, od, rfl, .inl ⟨kvsOf ws ms, upd_same, fun D hD => ?_⟩⟩
    obtain ⟨nDd, hD0⟩ := free_lock hD
    refine lc_it (walk_keys (kvs := kvsOf ws ms)) (fun i H' => Same (upd H1 d (.frz od (.dK (kvsOf ws ms)))) H' ∧ H' D = some (.lst (nis ((ms.take i).filter fun m => decide (sumL ws (bitsN m) = M)))))
      (same_start hD) (fun _ H' _ pv => pv.1 _ _ upd_same) (fun i x H2 H3 hi pv y => ?_) (fun H2 pv => ?_)
    · obtain ⟨rfl, kk, v, hkv, rfl⟩ := y
      obtain ⟨m, hm, rfl, rfl⟩ := kvs_at hkv
      have hil : i < ms.length := (List.getElem?_eq_some_iff.mp hm).1
      have hfr := pv.1 _ _ upd_same
      refine ⟨rfl, _, rfl, _, rfl, d, _, rfl, .inl ⟨kvsOf ws ms, Sum.inl (m : Int), .inr ⟨_, hfr⟩, rfl, (valV_kvs (List.mem_of_getElem? hm)).symm⟩, _, rfl, .inl ⟨rfl, _, rfl, ?_⟩⟩
      have e : decide (V.int (sumL ws (bitsN m)) = V.int M) = decide (sumL ws (bitsN m) = M) := by
        by_cases z : sumL ws (bitsN m) = M
        · rw [decide_eq_true z, decide_eq_true (by rw [z])]
        · rw [decide_eq_false z, decide_eq_false fun y => z (V.int.inj y)]
      rw [take_snoc hm, List.filter_append, List.filter_cons]
      cases z : decide (sumL ws (bitsN m) = M) with
      | false =>
        refine itF (e.trans z) ⟨pv.1, ?_⟩
        rw [pv.2]
        simp
      | true =>
        refine itT (e.trans z) ⟨_, rfl, lc_push pv.1 hD pv.2 (szl ?_) ?_⟩
        · have y := List.length_filter_le (fun m => decide (sumL ws (bitsN m) = M)) (ms.take i)
          rw [List.length_take] at y
          rw [nis_len]
          omega
        · rw [nis_app]
          rfl
    · obtain ⟨s2, hD2⟩ := pv
      rw [kvs_len, List.take_of_length_le (Nat.le_refl _)] at hD2
      obtain ⟨m0, hm0, e0⟩ := List.mem_map.mp hMx
      have sumM : ∀ l, Lot cs.length l → PitL cs l → sumL ws l ≤ M := fun l hl hp => by
        have := hle _ (List.mem_map.mpr ⟨_, hM.all l hl hp, rfl⟩)
        rw [bits_mask hl] at this
        exact this
      refine ⟨s2 _ _ upd_same, k D (ms.filter fun m => decide (sumL ws (bitsN m) = M)) _ (s1.trans (same_unlock s2 hd)) (Same.free s1 hD0) (by rw [upd_ne nDd]; exact hD2) ⟨fun e => ?_, hM.nd.filter _, fun m hm => ?_, fun l hl => ?_⟩ ?_⟩
      · have := List.filter_eq_nil_iff.mp e m0 hm0
        exact this (decide_eq_true e0)
      · obtain ⟨hm1, hm2⟩ := List.mem_filter.mp hm
        have hml := hM.lt m hm1
        refine ⟨hml, lot_bits hml, hM.pit m hm1, fun q hq hpq => ?_⟩
        rw [of_decide_eq_true hm2]
        exact sumM q hq hpq
      · refine List.mem_filter.mpr ⟨hM.all l hl.1 hl.2.1, decide_eq_true ?_⟩
        rw [bits_mask hl.1]
        have h1 := sumM l hl.1 hl.2.1
        have h2 := hl.2.2 (bitsN m0) (lot_bits (hM.lt m0 hm0)) (hM.pit m0 hm0)
        omega
      · exact Nat.le_trans (List.length_filter_le _ _) hlen
abbrev s_common_mask : Stmt := topS 16
theorem sc_common_mask : FnScope ["masks", "common", "mask"] ["masks"] (defScope s_common_mask) :=
  ⟨rfl, rfl, rfl, by decide +kernel, rfl, by decide +kernel, by decide +kernel⟩
theorem ok_common_mask {f : Addr} {fd : FuncData} (F : Fun K "common_mask" "common_mask" s_common_mask f fd) :
    FnOk P w K mg base CX0 1 f fd ["masks"] (spCommon K) := by
  refine F.ok sc_common_mask (fun vs H Q E h => ?_) (fun cdv A outer s H vs Q E hr h => ?_)
  · obtain ⟨a, bs, rfl, _⟩ := h
    rfl
  · obtain ⟨a, bs, rfl, hH, hne, k⟩ := h
    refine ⟨_, (pss_cons (ps_set (i := 1) sc_common_mask.nd rfl (Or.inl rfl) (pe_ix (k_ix (K := K) rfl) (pv 0) pe_int (fun _ _ => rfl)))
      (pss_cons (ps_for PassesOwn.never rfl (pi_seq (pv 0)) (pg_name (i := 2) sc_common_mask.nd rfl (Or.inl rfl))
      (pss_one (ps_aug (i := 1) sc_common_mask.nd rfl (Or.inl rfl) (pv 2) iop_and)))
      (pss_one (ps_ret (pv 1))))), ?_⟩
    have h0 : (nis bs)[0]? = some (ni (bs.getD 0 0)) := nis_at (List.length_pos_iff.mpr hne)
    refine ⟨_, rfl, .inl ⟨a, nis bs, 0, ni (bs.getD 0 0), rfl, rfl, hH, (show atI (nis bs) ((0 : Nat) : Int) = some (ni (bs.getD 0 0)) from atI_nat h0), ?_⟩⟩
    refine .inl ⟨_, rfl, a, rfl, ⟨_, hH⟩, ?_⟩
    refine for_it (walk_list (xs := nis bs)) (fun i σ H' => H' = H ∧ ∃ v : Option V, σ = [some (.ref a), some (ni ((bs.take i).foldl (fun a x => a &&& x) (bs.getD 0 0))), v])
      ⟨rfl, none, rfl⟩ (fun i σ H' _ p => by rw [p.1]; exact hH) (fun i x σ H1 H2 hi p y => ?_) (fun σ H1 p => ?_)
    · obtain ⟨rfl, v, rfl⟩ := p
      obtain ⟨rfl, hx⟩ := y
      obtain ⟨n, hn, rfl⟩ := map_get hx
      refine ⟨_, rfl, _, rfl, _, _, rfl, rfl, rfl, some (ni n), ?_⟩
      show [some (V.ref a), some (V.int (Builtin.bitAnd _ _)), some (ni n)] = _
      rw [and_nat, take_snoc hn, List.foldl_append]
      rfl
    · obtain ⟨rfl, v, rfl⟩ := p
      refine ⟨_, rfl, ?_⟩
      rw [nis_len, List.take_of_length_le (Nat.le_refl _)]
      exact k
abbrev s_is_tuple_of : Stmt := topS 21
theorem sc_is_tuple_of : FnScope ["value", "many"] ["value", "many"] (defScope s_is_tuple_of) :=
  ⟨rfl, rfl, rfl, by decide +kernel, rfl, by decide +kernel, by decide +kernel⟩
theorem ok_is_tuple_of {f : Addr} {fd : FuncData} (F : Fun K "is_tuple_of" "is_tuple_of" s_is_tuple_of f fd) (B : Bl mg) :
    FnOk P w K mg base CX0 1 f fd ["value", "many"] spTupOf := by
  refine F.ok sc_is_tuple_of (fun vs H Q E h => ?_) (fun cdv A outer s H vs Q E hr h => ?_)
  · obtain ⟨a, ws, rfl, _⟩ := h
    rfl
  · obtain ⟨a, ws, rfl, hW, k⟩ := h
    refine ⟨_, (pss_one (ps_ret (pe_and (pe_callB (k_isi (K := K) rfl) (by rfl) B.b_isinstance (by decide +kernel) (pa_cons (pv 0) (pa_cons (pTy (n := "tuple") B.b_tuple) pa_nil))) (pe_one (pe_cmpR (k_eq (K := K) rfl (hu64 hr)) (pe_callB (k_len (K := K) rfl) (by rfl) B.b_len (by decide +kernel) (pa_cons (pv 0) pa_nil)) (pv 1) (nomark _)))))), ?_⟩
    refine ⟨_, rfl, _, .ty "tuple", .type "tuple", .type "tuple", true, rfl, .ty _, .base (.tup hW), kit_ty (by decide +kernel), _, rfl, iteT ?_⟩
    refine ⟨_, rfl, a, _, rfl, .inr (sqT hW), _, rfl, .inl ⟨rfl, ?_⟩⟩
    rw [List.length_map, decide_eq_true rfl]
    exact k
abbrev s_are_between : Stmt := topS 22
theorem sc_are_between : FnScope ["value", "many", "low", "high", "item"] ["value", "many", "low", "high"] (defScope s_are_between) :=
  ⟨rfl, rfl, rfl, by decide +kernel, rfl, by decide +kernel, by decide +kernel⟩
theorem ok_are_between {f f1 f2 : Addr} {fd fd1 fd2 : FuncData} (F : Fun K "are_between" "are_between" s_are_between f fd) (B : Bl mg)
    (D_is_tuple_of : Df P w K mg base 1 "is_tuple_of" ["value", "many"] spTupOf f1 fd1) (D_is_between : Df P w K mg base 2 "is_between" ["value", "low", "high"] (spBetween K) f2 fd2) :
    FnOk P w K mg base CX0 3 f fd ["value", "many", "low", "high"] spAreBetw := by
  refine F.ok sc_are_between (fun vs H Q E h => ?_) (fun cdv A outer s H vs Q E hr h => ?_)
  · obtain ⟨a, ws, rfl, _⟩ := h
    rfl
  · obtain ⟨a, ws, rfl, hW, hWO, hl, k⟩ := h
    refine ⟨_, (pss_one (ps_ret (pe_and (pe_callD D_is_tuple_of (hr.mono (by omega)) (pa_cons (pv 0) (pa_cons (pv 1) pa_nil))) (pe_one (pe_callB (k_all (K := K) rfl rfl) (by rfl) B.b_all (by decide +kernel) (pa_cons (pe_lc (own := [("item", 4)]) (g := gName 4) (tt := tYes) rfl sc_are_between.nd (pi_seq (pv 0)) (blkOk_by (N := ["value", "many", "low", "high", "item"]) (sc := defScope s_are_between) (by decide +kernel)) (fun _ _ _ _ _ => (pg_name (i := 4) sc_are_between.nd rfl (Or.inl rfl))) (fun _ _ _ _ _ => pts_nil) (fun _ _ _ _ _ => (pe_callD D_is_between (hr.mono (by omega)) (pa_cons (pv 4) (pa_cons (pv 2) (pa_cons (pv 3) pa_nil)))))) pa_nil)))))), ?_⟩
    refine ⟨_, rfl, _, rfl, a, ws, rfl, hW, _, rfl, iteT ?_⟩
    refine .inr ⟨_, rfl, a, rfl, ⟨_, sqT hW⟩, fun D hD => ?_⟩
    refine lc_it (walk_tup (xs := ws.map V.int)) (fun i H' => Same H H' ∧ H' D = some (.lst (((ws.map fun x => betw (.int x) (-50) 50).take i).map V.bl)))
      (same_start hD) (fun _ H' _ pv => sqT (pv.1 _ _ hW)) (fun i x H1 H2 hi pv y => ?_) (fun H1 pv => ?_)
    · obtain ⟨rfl, hx⟩ := y
      obtain ⟨n, hn, rfl⟩ := map_get hx
      refine ⟨rfl, yesT ⟨_, rfl, _, rfl, _, rfl, .int n, true, -50, 50, rfl, .inl ⟨n, rfl, rfl⟩, lc_push pv.1 hD pv.2 (szl ?_) ?_⟩⟩
      · rw [List.length_map, List.length_take, List.length_map]
        omega
      · have e : (ws.map fun x => betw (.int x) (-50) 50)[i]? = some (betw (.int n) (-50) 50) := by rw [List.getElem?_map, hn]; rfl
        rw [take_snoc e, List.map_append]
        rfl
    · refine ⟨D, _, rfl, sqL pv.2, ?_⟩
      rw [List.length_map, List.take_of_length_le (by rw [List.length_map]; exact Nat.le_refl _)]
      have e : (ws.map fun x => betw (.int x) (-50) 50).all id = true := by
        rw [List.all_map, List.all_eq_true]
        intro x hx
        obtain ⟨h1, h2⟩ := hWO x hx
        show (decide ((-50 : Int) ≤ x) && decide (x ≤ 50)) = true
        rw [decide_eq_true h1, decide_eq_true h2]
        rfl
      rw [e]
      exact k _ pv.1
abbrev s_check_worths : Stmt := topS 34
theorem sc_check_worths : FnScope ["ground", "worths"] ["ground", "worths"] (defScope s_check_worths) :=
  ⟨rfl, rfl, rfl, by decide +kernel, rfl, by decide +kernel, by decide +kernel⟩
theorem ok_check_worths {f f1 f2 C : Addr} {fd fd1 fd2 : FuncData} {tk tk2 : Tok} (F : Fun K "check_worths" "check_worths" s_check_worths f fd) (B : Bl mg) (T : Txt K mg C tk) (gc_GREATEST_WORTH : mg "GREATEST_WORTH" = some (.int 50 tk2))
    (D_check_ground : Df P w K mg base 1 "check_ground" ["ground"] (spCkGround C) f1 fd1) (D_are_between : Df P w K mg base 3 "are_between" ["value", "many", "low", "high"] spAreBetw f2 fd2) :
    FnOk P w K mg base CX0 4 f fd ["ground", "worths"] (spCkWorths C) := by
  refine F.ok sc_check_worths (fun vs H Q E h => ?_) (fun cdv A outer s H vs Q E hr h => ?_)
  · obtain ⟨g, p, a, cs, ws, rfl, _⟩ := h
    rfl
  · obtain ⟨g, p, a, cs, ws, rfl, hG, hW, hWO, hwl, k⟩ := h
    refine ⟨_, (pss_cons (ps_expr (pe_callD D_check_ground (hr.mono (by omega)) (pa_cons (pv 0) pa_nil)))
      (pss_one (ps_if (pt_not (pt_val (pe_callD D_are_between (hr.mono (by omega)) (pa_cons (pv 1) (pa_cons (pe_callB (k_len (K := K) rfl) (by rfl) B.b_len (by decide +kernel) (pa_cons (pe_fld (pv 0) rfl) pa_nil)) (pa_cons (pe_un un_neg (pe_glob (v := .int 50) (by rfl) gc_GREATEST_WORTH ⟨_, rfl⟩)) (pa_cons (pe_glob (v := .int 50) (by rfl) gc_GREATEST_WORTH ⟨_, rfl⟩) pa_nil))))))) (pss_one ps_never) pss_nil))), ?_⟩
    obtain ⟨⟨dx, hg⟩, hC, hV, h1, h10⟩ := id hG
    obtain ⟨xs, hp, hx, _⟩ := hC.get
    refine ⟨_, rfl, g, p, cs, rfl, hG, _, rfl, _, rfl, g, C, dx, flds p, _, rfl, hg, T.cl, T.nC, flds_lk p, p, xs, rfl, .inr (sqT hp), _, rfl, a, ws, ?_, hW, hWO, by omega, fun H1 s1 => ⟨_, rfl, iteF (k H1 s1)⟩⟩
    rw [hx, ← hwl]
    rfl
end
end K08

set_option Elab.async false
set_option linter.all false
set_option maxRecDepth 100000
set_option maxHeartbeats 4000000
namespace K08
open PySem PySem.Spec PyProof.Rows L2 Pit
section
variable {P : Program} {w : World} {K : PySem.W.Frag} {mg : Str → Option Value} {base : Heap}
abbrev s_taken : Stmt := topS 42
theorem sc_taken : FnScope ["_law_row", "_law_many", "_law_found", "_law_cell"] ["_law_row", "_law_many"] (defScope s_taken) :=
  ⟨rfl, rfl, rfl, by decide +kernel, rfl, by decide +kernel, by decide +kernel⟩
theorem modn (g : Int) {m : Nat} (h : 1 ≤ m) : ∃ v : Nat, v < m ∧ g % (m : Int) = (v : Int) := by
  have h1 := Int.emod_nonneg g (show (m : Int) ≠ 0 by omega)
  have h2 := Int.emod_lt_of_pos g (show (0 : Int) < (m : Int) by omega)
  exact ⟨(g % (m : Int)).toNat, by omega, by omega⟩
theorem ok_taken {f : Addr} {fd : FuncData} (F : Fun K "_law_taken" "_law_taken" s_taken f fd) (B : Bl mg) :
    FnOk P w K mg base CX0 1 f fd ["_law_row", "_law_many"] (spTaken K) := by
  refine F.ok sc_taken (fun vs H Q E h => ?_) (fun cdv A outer s H vs Q E hr h => ?_)
  · obtain ⟨r, a, ns, m, rfl, _⟩ := h
    rfl
  · obtain ⟨r, a, ns, m, rfl, hrow, hm1, hm2, k⟩ := h
    refine ⟨_, (pss_cons (ps_if (pt_cmpR op_gt (pe_ix (k_ix (K := K) rfl) (pv 0) pe_int (fun _ _ => rfl)) pe_int (nomark _)) (pss_cons (ps_set (i := 2) sc_taken.nd rfl (Or.inl rfl) (pe_op op_mod (pe_callTy call_int1 (by rfl) B.b_int (by decide +kernel) (pa_cons (pe_ix (k_ix (K := K) rfl) (pv 0) pe_int (fun _ _ => rfl)) pa_nil)) (pv 1)))
      (pss_cons (ps_asg (pe_op op_fdiv (pe_ix (k_ix (K := K) rfl) (pv 0) pe_int (fun _ _ => rfl)) (pv 1)) (pg_sub (pv 0) pe_int set_list))
      (pss_one (ps_ret (pv 2))))) pss_nil)
      (pss_cons (ps_asg (pe_op (k_add (K := K) rfl) (pe_ix (k_ix (K := K) rfl) (pv 0) pe_int (fun _ _ => rfl)) pe_int) (pg_sub (pv 0) pe_int set_list))
      (pss_cons (ps_if (pt_cmpR op_gt (pe_ix (k_ix (K := K) rfl) (pv 0) pe_int (fun _ _ => rfl)) (pe_callB (k_len (K := K) rfl) (by rfl) B.b_len (by decide +kernel) (pa_cons (pe_ix (k_ix (K := K) rfl) (pv 0) pe_int (fun _ _ => rfl)) pa_nil)) (nomark _)) (pss_cons (ps_asg (pe_op op_mod (pe_callTy call_int1 (by rfl) B.b_int (by decide +kernel) (pa_cons (pe_op (k_add (K := K) rfl) (pe_op op_mul (pe_ix (k_ix (K := K) rfl) (pv 0) pe_int (fun _ _ => rfl)) pe_int) pe_int) pa_nil)) pe_int) (pg_sub (pv 0) pe_int set_list))
      (pss_one (ps_ret (pe_op op_mod (pe_callTy call_int1 (by rfl) B.b_int (by decide +kernel) (pa_cons (pe_op op_fdiv (pe_ix (k_ix (K := K) rfl) (pv 0) pe_int (fun _ _ => rfl)) pe_int) pa_nil)) (pv 1))))) pss_nil)
      (pss_cons (ps_set (i := 3) sc_taken.nd rfl (Or.inl rfl) (pe_ix (k_ix (K := K) rfl) (pe_ix (k_ix (K := K) rfl) (pv 0) pe_int (fun _ _ => rfl)) (pe_op op_sub (pe_ix (k_ix (K := K) rfl) (pv 0) pe_int (fun _ _ => rfl)) pe_int) (fun _ _ => rfl)))
      (pss_cons (ps_asg (pe_op op_mod (pe_callTy call_int1 (by rfl) B.b_int (by decide +kernel) (pa_cons (pe_op (k_add (K := K) rfl) (pe_op (k_add (K := K) rfl) (pe_op op_mul (pe_ix (k_ix (K := K) rfl) (pv 0) pe_int (fun _ _ => rfl)) pe_int) (pv 3)) pe_int) pa_nil)) pe_int) (pg_sub (pv 0) pe_int set_list))
      (pss_cons (ps_if (pt_cmpR op_ge (pv 3) (pe_op op_pow pe_int pe_int) (nomark _)) (pss_one (ps_asg (pe_op op_fdiv (pv 3) (pv 1)) (pg_sub (pv 0) pe_int set_list))) pss_nil)
      (pss_one (ps_ret (pe_op op_mod (pe_callTy call_int1 (by rfl) B.b_int (by decide +kernel) (pa_cons (pv 3) pa_nil)) (pv 1)))))))))), ?_⟩
    obtain ⟨⟨i, z, g, h0, hR⟩, hs, hne⟩ := hrow
    have mpos : (0 : Int) < (m : Int) := by omega
    have msm : (m : Int) < 1073741824 := by omega
    have at0 : ∀ x0 x1 x2 x3 : V, atI [x0, x1, x2, x3] 0 = some x0 := fun _ _ _ _ => rfl
    have at1 : ∀ x0 x1 x2 x3 : V, atI [x0, x1, x2, x3] 1 = some x1 := fun _ _ _ _ => rfl
    have at2 : ∀ x0 x1 x2 x3 : V, atI [x0, x1, x2, x3] 2 = some x2 := fun _ _ _ _ => rfl
    have at3 : ∀ x0 x1 x2 x3 : V, atI [x0, x1, x2, x3] 3 = some x3 := fun _ _ _ _ => rfl
    refine ⟨_, rfl, .inl ⟨r, _, 3, _, rfl, rfl, sqL hR, at3 _ _ _ _, _, _, rfl, rfl, _, rfl, ?_⟩⟩
    refine ite2 (fun _ => ?_) (fun _ => ?_)
    · obtain ⟨v, hv, ev⟩ := modn g hm1
      refine ⟨_, rfl, .inl ⟨r, _, 3, _, rfl, rfl, sqL hR, at3 _ _ _ _, .inl ⟨g, rfl, _, rfl, _, _, rfl, rfl, mpos, ?_⟩⟩⟩
      refine ⟨_, rfl, .inl ⟨r, _, 3, _, rfl, rfl, sqL hR, at3 _ _ _ _, _, rfl, _, _, rfl, rfl, ⟨mpos, msm⟩, ?_⟩⟩
      refine ⟨_, rfl, r, _, 3, 3, rfl, rfl, hR, rfl, ?_⟩
      refine ⟨_, rfl, ?_⟩
      show Q (.int (g % (m : Int))) _
      rw [ev]
      exact k v _ hv (rowAt_upd h0 hs hne) fx_upd
    · -- the row's place goes on
      refine ⟨_, rfl, .inl ⟨r, _, 1, _, rfl, rfl, sqL hR, at1 _ _ _ _, .inl ⟨_, _, rfl, rfl, ?_⟩⟩⟩
      refine ⟨_, rfl, r, _, 1, 1, rfl, rfl, hR, rfl, ?_⟩
      have s1 : SqL K (upd H r (.lst [.ref a, .int (i + 1), .int z, .int g])) a (ns.map V.int) := sqL_fx hs fx_upd hne
      have f1 : Fx r H (upd H r (.lst [.ref a, .int (i + 1), .int z, .int g])) := fx_upd
      have r1 : (upd H r (.lst [.ref a, .int (i + 1), .int z, .int g])) r = some (.lst [.ref a, .int (i + 1), .int z, .int g]) := upd_same
      show tSeq _ _ _ _ (upd H r (.lst [.ref a, .int (i + 1), .int z, .int g]))
      generalize (upd H r (.lst [.ref a, .int (i + 1), .int z, .int g])) = H1 at s1 f1 r1 ⊢
      refine ⟨_, rfl, .inl ⟨r, _, 1, _, rfl, rfl, sqL r1, at1 _ _ _ _, _, rfl, .inl ⟨r, _, 0, _, rfl, rfl, sqL r1, at0 _ _ _ _, a, _, rfl, .inl s1, _, _, rfl, rfl, _, rfl, ?_⟩⟩⟩
      refine ite2 (fun _ => ?_) (fun hlt => ?_)
      · refine ⟨_, rfl, .inl ⟨r, _, 2, _, rfl, rfl, sqL r1, at2 _ _ _ _, _, _, rfl, rfl, .inr ⟨by decide, by decide⟩, .inl ⟨_, _, rfl, rfl, .inl ⟨_, rfl, _, _, rfl, rfl, (show (0 : Int) < 2147483647 by decide), ?_⟩⟩⟩⟩
        refine ⟨_, rfl, r, _, 2, 2, rfl, rfl, r1, rfl, ?_⟩
        refine ⟨_, rfl, .inl ⟨r, _, 2, _, rfl, rfl, sqL upd_same, at2 _ _ _ _, _, _, rfl, rfl, ⟨by decide, by decide⟩, .inl ⟨_, rfl, _, rfl, _, _, rfl, rfl, mpos, ?_⟩⟩⟩
        obtain ⟨v, hv, ev⟩ := modn ((z * 48271 + 11) % 2147483647 / 7) hm1
        show Q (.int (((z * 48271 + 11) % 2147483647 / 7) % (m : Int))) _
        rw [ev]
        exact k v _ hv (rowAt_upd (by omega) s1 hne) (f1.trans fx_upd)
      · have hlt' : ¬ ((ns.map V.int).length : Int) < i + 1 := fun q => hlt (decide_eq_true q)
        rw [List.length_map] at hlt'
        have hi2 : i.toNat < ns.length := by omega
        have hat : (ns.map V.int)[i.toNat]? = some (.int (ns[i.toNat])) := by
          rw [List.getElem?_map, List.getElem?_eq_getElem hi2]
          rfl
        have hat2 : atI (ns.map V.int) (i + 1 - 1) = some (.int (ns[i.toNat])) := at_of (j := i.toNat) (by omega) hat
        generalize ns[i.toNat] = cell at hat2
        refine ⟨_, rfl, .inl ⟨r, _, 0, _, rfl, rfl, sqL r1, at0 _ _ _ _, _, rfl, .inl ⟨r, _, 1, _, rfl, rfl, sqL r1, at1 _ _ _ _, _, _, rfl, rfl, .inl ⟨a, _, _, _, rfl, rfl, s1, hat2, ?_⟩⟩⟩⟩
        refine ⟨_, rfl, .inl ⟨r, _, 2, _, rfl, rfl, sqL r1, at2 _ _ _ _, _, _, rfl, rfl, .inr ⟨by decide, by decide⟩, _, rfl, .inl ⟨_, _, rfl, rfl, .inl ⟨_, _, rfl, rfl, .inl ⟨_, rfl, _, _, rfl, rfl, (show (0 : Int) < 2147483647 by decide), ?_⟩⟩⟩⟩⟩
        refine ⟨_, rfl, r, _, 2, 2, rfl, rfl, r1, rfl, ?_⟩
        obtain ⟨v, hv, ev⟩ := modn cell hm1
        refine ⟨_, rfl, _, _, rfl, rfl, ⟨by decide, by decide, by decide⟩, _, _, rfl, rfl, _, rfl, ?_⟩
        refine ite2 (fun _ => ?_) (fun _ => ?_)
        · refine ⟨_, rfl, _, rfl, _, _, rfl, rfl, ⟨mpos, msm⟩, _, rfl, r, _, 3, 3, rfl, rfl, upd_same, rfl, ?_⟩
          refine ⟨_, rfl, .inl ⟨_, rfl, _, rfl, _, _, rfl, rfl, mpos, ?_⟩⟩
          show Q (.int (cell % (m : Int))) _
          rw [ev, upd_upd]
          exact k v _ hv (rowAt_upd (by omega) s1 hne) (f1.trans fx_upd)
        · refine ⟨_, rfl, .inl ⟨_, rfl, _, rfl, _, _, rfl, rfl, mpos, ?_⟩⟩
          show Q (.int (cell % (m : Int))) _
          rw [ev]
          exact k v _ hv (rowAt_upd (by omega) s1 hne) (f1.trans fx_upd)
end
end K08

set_option Elab.async false
set_option linter.all false
set_option maxRecDepth 100000
set_option maxHeartbeats 4000000
namespace K08
open PySem PySem.Spec PyProof.Rows L2 Pit
section
variable {P : Program} {w : World} {K : PySem.W.Frag} {mg : Str → Option Value} {base : Heap}
abbrev s_alike : Stmt := topS 44
theorem sc_alike : FnScope ["_law_found", "_law_due", "_law_k"] ["_law_found", "_law_due"] (defScope s_alike) :=
  ⟨rfl, rfl, rfl, by decide +kernel, rfl, by decide +kernel, by decide +kernel⟩
theorem alike_turn {f : Addr} {fd : FuncData} {n : Nat} (F : Fun K "_law_alike" "_law_alike" s_alike f fd) (B : Bl mg)
    (D_alike : Df P w K mg base (n + 1) "_law_alike" ["_law_found", "_law_due"] (spAk K n) f fd) :
    FnOk P w K mg base CX0 (n + 2) f fd ["_law_found", "_law_due"] (spAk K (n + 1)) := by
  refine F.ok sc_alike (fun vs H Q E h => ?_) (fun cdv A outer s H vs Q E hr h => ?_)
  · obtain ⟨x, y, rfl, _⟩ := h
    rfl
  · obtain ⟨x, y, rfl, hA, k⟩ := h
    refine ⟨_, (pss_cons (ps_if (pt_val (pe_callB (k_isiT (K := K) rfl) (by rfl) B.b_isinstance (by decide +kernel) (pa_cons (pv 1) (pa_cons (pe_tup (pa_cons (pTy (n := "tuple") B.b_tuple) (pa_cons (pTy (n := "list") B.b_list) pa_nil))) pa_nil)))) (pss_cons (ps_if (PW.pt (pw_or (pt_not (pt_val (pe_callB (k_isiT (K := K) rfl) (by rfl) B.b_isinstance (by decide +kernel) (pa_cons (pv 0) (pa_cons (pe_tup (pa_cons (pTy (n := "tuple") B.b_tuple) (pa_cons (pTy (n := "list") B.b_list) pa_nil))) pa_nil))))) (pw_or1 (pt_cmpR (k_ne (K := K) rfl (hu64 hr)) (pe_callB (k_isi (K := K) rfl) (by rfl) B.b_isinstance (by decide +kernel) (pa_cons (pv 0) (pa_cons (pTy (n := "list") B.b_list) pa_nil))) (pe_callB (k_isi (K := K) rfl) (by rfl) B.b_isinstance (by decide +kernel) (pa_cons (pv 1) (pa_cons (pTy (n := "list") B.b_list) pa_nil))) (nomark _))))) (pss_one (ps_ret pe_bl)) pss_nil)
      (pss_cons (ps_if (pt_cmpR (k_ne (K := K) rfl (hu64 hr)) (pe_callB (k_len (K := K) rfl) (by rfl) B.b_len (by decide +kernel) (pa_cons (pv 0) pa_nil)) (pe_callB (k_len (K := K) rfl) (by rfl) B.b_len (by decide +kernel) (pa_cons (pv 1) pa_nil)) (nomark _)) (pss_one (ps_ret pe_bl)) pss_nil)
      (pss_one (ps_ret (pe_cmpR (k_eq (K := K) rfl (hu64 hr)) (pe_lc (own := [("_law_k", 2)]) (g := gName 2) rfl sc_alike.nd (pi_range1 (by rfl) B.b_range (pa_cons (pe_callB (k_len (K := K) rfl) (by rfl) B.b_len (by decide +kernel) (pa_cons (pv 1) pa_nil)) pa_nil)) (blkOk_by (N := ["_law_found", "_law_due", "_law_k"]) (sc := defScope s_alike) (by decide +kernel)) (fun _ _ _ _ _ => (pg_name (i := 2) sc_alike.nd rfl (Or.inl rfl))) (fun _ _ _ _ _ => (pts_one (pt_not (pt_val (pe_callD D_alike (hr.mono (by omega)) (pa_cons (pe_ix (k_ix (K := K) rfl) (pv 0) (pv 2) (fun _ _ => rfl)) (pa_cons (pe_ix (k_ix (K := K) rfl) (pv 1) (pv 2) (fun _ _ => rfl)) pa_nil))))))) (fun _ _ _ _ _ => (pv 2))) (pe_lst pa_nil) (nomark _)))))) pss_nil)
      (pss_cons (ps_if (PW.pt (pw_or (pt_cmpR op_isN (pv 1) pe_non (nomark _)) (pw_or1 (pt_val (pe_callB (k_isi (K := K) rfl) (by rfl) B.b_isinstance (by decide +kernel) (pa_cons (pv 1) (pa_cons (pTy (n := "str") B.b_str) pa_nil))))))) (pss_one (ps_ret (pe_and (pe_cmpR (k_eq (K := K) rfl (hu64 hr)) (pv 0) (pv 1) (nomark _)) (pe_one (pe_cmpR (k_eq (K := K) rfl (hu64 hr)) (pe_callB (k_isi (K := K) rfl) (by rfl) B.b_isinstance (by decide +kernel) (pa_cons (pv 0) (pa_cons (pTy (n := "str") B.b_str) pa_nil))) (pe_callB (k_isi (K := K) rfl) (by rfl) B.b_isinstance (by decide +kernel) (pa_cons (pv 1) (pa_cons (pTy (n := "str") B.b_str) pa_nil))) (nomark _)))))) pss_nil)
      (pss_one (ps_ret (pe_and (pe_callB (k_isi (K := K) rfl) (by rfl) B.b_isinstance (by decide +kernel) (pa_cons (pv 0) (pa_cons (pTy (n := "int") B.b_int) pa_nil))) (pe_and (pe_cmpR (k_eq (K := K) rfl (hu64 hr)) (pe_callB (k_isi (K := K) rfl) (by rfl) B.b_isinstance (by decide +kernel) (pa_cons (pv 0) (pa_cons (pTy (n := "bool") B.b_bool) pa_nil))) (pe_callB (k_isi (K := K) rfl) (by rfl) B.b_isinstance (by decide +kernel) (pa_cons (pv 1) (pa_cons (pTy (n := "bool") B.b_bool) pa_nil))) (nomark _)) (pe_one (pe_cmpR (k_eq (K := K) rfl (hu64 hr)) (pv 0) (pv 1) (nomark _))))))))), ?_⟩
    refine ⟨_, rfl, by decide, fun t ht => ?_⟩
    have s1 : Same H (upd H t (.tup [.ty "tuple", .ty "list"])) := same_new ht
    by_cases hsc : (x = y ∧ (x = .non ∨ (∃ b, x = .bl b) ∨ (∃ i, x = .int i) ∨ ∃ s, x = .str s))
    · obtain ⟨rfl, hx⟩ := hsc
      rcases hx with rfl | ⟨b, rfl⟩ | ⟨i, rfl⟩ | ⟨z, rfl⟩
      · refine ⟨_, t, _, .type "NoneType", _, false, rfl, upd_same, cls2, .base .non, kit2_non, _, rfl, iteF ?_⟩
        refine ⟨_, rfl, rfl, _, rfl, iteT (iteT ?_)⟩
        refine ⟨_, rfl, _, rfl, .inl ⟨rfl, _, rfl, iteT ?_⟩⟩
        refine ⟨_, rfl, _, .ty "str", .type "NoneType", .type "str", false, rfl, .ty _, .base .non, kit_ty (by decide +kernel), _, rfl, _, .ty "str", .type "NoneType", .type "str", false, rfl, .ty _, .base .non, kit_ty (by decide +kernel), .inl ⟨rfl, ?_⟩⟩
        exact k _ s1
      · refine ⟨_, t, _, .type "bool", _, false, rfl, upd_same, cls2, .base (.bl _), kit2_bool, _, rfl, iteF ?_⟩
        refine ⟨_, rfl, rfl, _, rfl, iteF ⟨_, rfl, _, .ty "str", .type "bool", .type "str", false, rfl, .ty _, .base (.bl _), kit_ty (by decide +kernel), _, rfl, iteF ?_⟩⟩
        refine ⟨_, rfl, _, .ty "int", .type "bool", .type "int", true, rfl, .ty _, .base (.bl _), kit_ty (by decide +kernel), _, rfl, iteT ?_⟩
        refine ⟨_, rfl, _, .ty "bool", .type "bool", .type "bool", true, rfl, .ty _, .base (.bl _), kit_ty (by decide +kernel), _, rfl, _, .ty "bool", .type "bool", .type "bool", true, rfl, .ty _, .base (.bl _), kit_ty (by decide +kernel), .inl ⟨rfl, _, rfl, iteT ?_⟩⟩
        refine ⟨_, rfl, _, rfl, .inl ⟨rfl, ?_⟩⟩
        rw [decide_eq_true rfl]
        exact k _ s1
      · refine ⟨_, t, _, .type "int", _, false, rfl, upd_same, cls2, .base (.int _), kit2_int, _, rfl, iteF ?_⟩
        refine ⟨_, rfl, rfl, _, rfl, iteF ⟨_, rfl, _, .ty "str", .type "int", .type "str", false, rfl, .ty _, .base (.int _), kit_ty (by decide +kernel), _, rfl, iteF ?_⟩⟩
        refine ⟨_, rfl, _, .ty "int", .type "int", .type "int", true, rfl, .ty _, .base (.int _), kit_ty (by decide +kernel), _, rfl, iteT ?_⟩
        refine ⟨_, rfl, _, .ty "bool", .type "int", .type "bool", false, rfl, .ty _, .base (.int _), kit_ty (by decide +kernel), _, rfl, _, .ty "bool", .type "int", .type "bool", false, rfl, .ty _, .base (.int _), kit_ty (by decide +kernel), .inl ⟨rfl, _, rfl, iteT ?_⟩⟩
        refine ⟨_, rfl, _, rfl, .inl ⟨rfl, ?_⟩⟩
        rw [decide_eq_true rfl]
        exact k _ s1
      · refine ⟨_, t, _, .type "str", _, false, rfl, upd_same, cls2, .base (.str _), kit2_str, _, rfl, iteF ?_⟩
        refine ⟨_, rfl, rfl, _, rfl, iteF ⟨_, rfl, _, .ty "str", .type "str", .type "str", true, rfl, .ty _, .base (.str _), kit_ty (by decide +kernel), _, rfl, iteT ?_⟩⟩
        refine ⟨_, rfl, _, rfl, .inl ⟨rfl, _, rfl, ?_⟩⟩
        rw [decide_eq_true rfl]
        refine iteT ?_
        refine ⟨_, rfl, _, .ty "str", .type "str", .type "str", true, rfl, .ty _, .base (.str _), kit_ty (by decide +kernel), _, rfl, _, .ty "str", .type "str", .type "str", true, rfl, .ty _, .base (.str _), kit_ty (by decide +kernel), .inl ⟨rfl, ?_⟩⟩
        exact k _ s1
    · -- two lists, or two tuples
      cases n with
      | zero => exact absurd hA hsc
      | succ n =>
        rcases hA with hA | ⟨a, b, xs, ys, rfl, rfl, hab, hz, hl, hel⟩
        · exact absurd hA hsc
        · -- what is left behind the kinds: the lengths, then item by item
          have seq : ∀ H2 : Hp, Same H H2 → (SqL K H2 a xs ∨ SqT K H2 a xs) ∧ (SqL K H2 b ys ∨ SqT K H2 b ys) := fun H2 s2 => by
            rcases hab with ⟨h1, h2⟩ | ⟨h1, h2⟩
            · exact ⟨.inl (sqL (s2 _ _ h1)), .inl (sqL (s2 _ _ h2))⟩
            · exact ⟨.inr (sqT (s2 _ _ h1)), .inr (sqT (s2 _ _ h2))⟩
          have ixs : ∀ H2 : Hp, Same H H2 → ∀ (i : Nat) (u : V), xs[i]? = some u → ∀ Q : VK, Q u H2 → rIx K (.ref a) (ni i) H2 Q := fun H2 s2 i u hu Q q => by
            rcases hab with ⟨h1, h2⟩ | ⟨h1, h2⟩
            · exact .inl ⟨a, xs, _, u, rfl, rfl, sqL (s2 _ _ h1), atI_nat hu, q⟩
            · exact .inr (.inl ⟨a, xs, _, u, rfl, rfl, sqT (s2 _ _ h1), atI_nat hu, q⟩)
          have iys : ∀ H2 : Hp, Same H H2 → ∀ (i : Nat) (u : V), ys[i]? = some u → ∀ Q : VK, Q u H2 → rIx K (.ref b) (ni i) H2 Q := fun H2 s2 i u hu Q q => by
            rcases hab with ⟨h1, h2⟩ | ⟨h1, h2⟩
            · exact .inl ⟨b, ys, _, u, rfl, rfl, sqL (s2 _ _ h2), atI_nat hu, q⟩
            · exact .inr (.inl ⟨b, ys, _, u, rfl, rfl, sqT (s2 _ _ h2), atI_nat hu, q⟩)
          obtain ⟨T, hT, ta, tb⟩ : ∃ T : String, (T = "list" ∨ T = "tuple") ∧ (∀ H2 : Hp, Same H H2 → TyX K H2 (.ref a) (.type T)) ∧ (∀ H2 : Hp, Same H H2 → TyX K H2 (.ref b) (.type T)) := by
            rcases hab with ⟨h1, h2⟩ | ⟨h1, h2⟩
            · exact ⟨"list", .inl rfl, fun H2 s2 => .base (.lst (s2 _ _ h1)), fun H2 s2 => .base (.lst (s2 _ _ h2))⟩
            · exact ⟨"tuple", .inr rfl, fun H2 s2 => .base (.tup (s2 _ _ h1)), fun H2 s2 => .base (.tup (s2 _ _ h2))⟩
          have kT : PySem.W.kitAny K (.type T) [.type "tuple", .type "list"] = some true := by
            rcases hT with rfl | rfl
            · exact kit2 (b1 := false) (b2 := true) (by decide +kernel) (by decide +kernel)
            · exact kit2 (b1 := true) (b2 := false) (by decide +kernel) (by decide +kernel)
          obtain ⟨bL, kL⟩ : ∃ bL, PySem.W.kitOne K (.type T) (.type "list") = some bL := by
            rcases hT with rfl | rfl
            · exact ⟨true, kit_ty (by decide +kernel)⟩
            · exact ⟨false, kit_ty (by decide +kernel)⟩
          refine ⟨_, t, _, .type T, _, true, rfl, upd_same, cls2, tb _ s1, kT, _, rfl, iteT ?_⟩
          refine ⟨_, rfl, by decide, fun t2 ht2 => ?_⟩
          have s2 : Same H (upd (upd H t (.tup [.ty "tuple", .ty "list"])) t2 (.tup [.ty "tuple", .ty "list"])) := same_upd s1 (Same.free s1 ht2)
          refine ⟨_, t2, _, .type T, _, true, rfl, upd_same, cls2, ta _ s2, kT, _, rfl, iteF ?_⟩
          generalize (upd (upd H t (.tup [.ty "tuple", .ty "list"])) t2 (.tup [.ty "tuple", .ty "list"])) = H2 at s2 ⊢
          refine ⟨_, rfl, _, .ty "list", .type T, .type "list", bL, rfl, .ty _, ta _ s2, kL, _, rfl, _, .ty "list", .type T, .type "list", bL, rfl, .ty _, tb _ s2, kL, .inl ⟨rfl, ?_⟩⟩
          refine ⟨_, rfl, ?_⟩
          rw [decide_eq_true rfl]
          refine iteF ?_
          refine ⟨_, rfl, a, xs, rfl, (seq H2 s2).1, _, rfl, b, ys, rfl, (seq H2 s2).2, .inl ⟨rfl, _, rfl, ?_⟩⟩
          rw [hl, decide_eq_true rfl]
          refine iteF ?_
          refine ⟨_, rfl, b, ys, rfl, (seq H2 s2).2, _, rfl, by omega, by omega, fun D hD => ?_⟩
          rw [Int.toNat_natCast]
          refine lc_it walk_rg (fun i H' => Same H2 H' ∧ H' D = some (.lst [])) (same_start hD) (fun _ _ _ _ => trivial) (fun i x H3 H4 hi pv y => ?_) (fun H3 q => ?_)
          · obtain ⟨rfl, rfl⟩ := y
            have s4 : Same H H4 := s2.trans pv.1
            obtain ⟨u, hu⟩ : ∃ u, xs[i]? = some u := ⟨xs[i]'(by omega), List.getElem?_eq_getElem (by omega)⟩
            obtain ⟨v, hv⟩ : ∃ v, ys[i]? = some v := ⟨ys[i], List.getElem?_eq_getElem hi⟩
            refine ⟨rfl, _, rfl, _, rfl, ixs H4 s4 i u hu _ ⟨_, rfl, _, rfl, iys H4 s4 i v hv _ ⟨u, v, rfl, Alk.same s4 (hel i u v hu hv), fun H5 s5 => ?_⟩⟩⟩
            refine ⟨_, rfl, iteF ⟨pv.1.trans s5, s5 _ _ pv.2⟩⟩
          · refine ⟨by decide, fun q2 hq2 => .inr ⟨.list [], .list [], .lst (sqL (by rw [upd_ne (ne_of_none q.2 hq2)]; exact q.2)) .nil, .lst (sqL upd_same) .nil, by decide +kernel, by decide +kernel, ?_⟩⟩
            exact k _ ((s2.trans q.1).trans (same_new hq2))
theorem ok_alike {f : Addr} {fd : FuncData} (F : Fun K "_law_alike" "_law_alike" s_alike f fd) (B : Bl mg) (hg : mg "_law_alike" = some (.ref f))
    (b : Binds K fd ["_law_found", "_law_due"] []) : ∀ n, FnOk P w K mg base CX0 (n + 1) f fd ["_law_found", "_law_due"] (spAk K n)
  | 0 => F.ok sc_alike (fun vs H Q E h => h.elim) (fun cdv A outer s H vs Q E hr h => h.elim)
  | n + 1 => alike_turn F B ⟨ok_alike F B hg b n, hg, F.kp, b⟩
end
end K08

set_option Elab.async false
set_option linter.all false
set_option maxRecDepth 100000
set_option maxHeartbeats 4000000
namespace K08
open PySem PySem.Spec PyProof.Rows L2 Pit
section
variable {P : Program} {w : World} {K : PySem.W.Frag} {mg : Str → Option Value} {base : Heap}
abbrev s_covers : Stmt := topS 45
theorem sc_covers : FnScope ["_law_row", "_law_most", "_law_found", "_law_way", "_law_many", "_law_block", "_law_some", "_law_one"] ["_law_row", "_law_most"] (defScope s_covers) :=
  ⟨rfl, rfl, rfl, by decide +kernel, rfl, by decide +kernel, by decide +kernel⟩
theorem ok_covers {f f1 : Addr} {fd fd1 : FuncData} (F : Fun K "_law_covers" "_law_covers" s_covers f fd) (B : Bl mg)
    (D_taken : Df P w K mg base 1 "_law_taken" ["_law_row", "_law_many"] (spTaken K) f1 fd1) :
    FnOk P w K mg base CX0 2 f fd ["_law_row", "_law_most"] (spCovers K) := by
  refine F.ok sc_covers (fun vs H Q E h => ?_) (fun cdv A outer s H vs Q E hr h => ?_)
  · obtain ⟨r, a0, ns, most, rfl, _⟩ := h
    rfl
  · obtain ⟨r, a0, ns, most, rfl, hrow, hm1, hm10, k⟩ := h
    refine ⟨_, (pss_cons (ps_asg (pe_tup (pa_cons (pe_lst pa_nil) (pa_cons (pe_callD D_taken (hr.mono (by omega)) (pa_cons (pv 0) (pa_cons pe_int pa_nil))) (pa_cons (pe_op (k_add (K := K) rfl) pe_int (pe_callD D_taken (hr.mono (by omega)) (pa_cons (pv 0) (pa_cons (pv 1) pa_nil)))) pa_nil)))) (pg_tup rfl (pgs_cons (pg_name (i := 2) sc_covers.nd rfl (Or.inl rfl)) (pgs_cons (pg_name (i := 3) sc_covers.nd rfl (Or.inl rfl)) (pgs_cons (pg_name (i := 4) sc_covers.nd rfl (Or.inr rfl)) pgs_nil)))))
      (pss_cons (ps_for PassesOwn.never rfl (pi_range1 (by rfl) B.b_range (pa_cons (pv 4) pa_nil)) (pg_name (i := 5) sc_covers.nd rfl (Or.inr rfl))
      (pss_cons (ps_setLc (i := 6) (own := [("_law_one", 7)]) (g := gName 7) rfl sc_covers.nd rfl rfl (sw_true rfl rfl rfl (by decide +kernel)) (pi_range1 (by rfl) B.b_range (pa_cons (pv 5) pa_nil)) (blkOk_by (N := ["_law_row", "_law_most", "_law_found", "_law_way", "_law_many", "_law_block", "_law_some", "_law_one"]) (sc := defScope s_covers) (by decide +kernel)) (fun _ _ _ _ _ => (pg_name (i := 7) sc_covers.nd rfl (Or.inl rfl))) (fun _ _ _ _ _ => (pts_one (pt_cmpR (k_eq (K := K) rfl (hu64 hr)) (pe_callD D_taken (hr.mono (by omega)) (pa_cons (pv 0) (pa_cons pe_int pa_nil))) pe_int (nomark _)))) (fun _ _ _ _ _ => (pv 7)))
      (pss_cons (ps_if (pt_cmpR (k_eq (K := K) rfl (hu64 hr)) (pv 3) pe_int (nomark _)) (pss_one (ps_set (i := 6) sc_covers.nd rfl (Or.inl rfl) (pe_lst pa_nil))) pss_nil)
      (pss_cons (ps_if (pt_cmpR (k_eq (K := K) rfl (hu64 hr)) (pv 3) pe_int (nomark _)) (pss_one (ps_set (i := 6) sc_covers.nd rfl (Or.inl rfl) (pe_slice (k_sl (K := K) rfl) (pe_listRg rfl (by rfl) B.b_list (prg_1 (by rfl) B.b_range (pv 5))) (po_some (pe_un un_neg pe_int)) po_none))) pss_nil)
      (pss_cons (ps_if (pt_cmpR (k_eq (K := K) rfl (hu64 hr)) (pv 3) pe_int (nomark _)) (pss_one (ps_setLc (i := 6) (own := [("_law_one", 7)]) (g := gName 7) rfl sc_covers.nd rfl rfl (sw_true rfl rfl rfl (by decide +kernel)) (pi_range1 (by rfl) B.b_range (pa_cons (pv 5) pa_nil)) (blkOk_by (N := ["_law_row", "_law_most", "_law_found", "_law_way", "_law_many", "_law_block", "_law_some", "_law_one"]) (sc := defScope s_covers) (by decide +kernel)) (fun _ _ _ _ _ => (pg_name (i := 7) sc_covers.nd rfl (Or.inl rfl))) (fun _ _ _ _ _ => (pts_one (pt_chain op_lt op_le (pe_op op_mul pe_int (pv 7)) (pv 4) (pe_op op_mul pe_int (pv 5))))) (fun _ _ _ _ _ => (pv 7)))) pss_nil)
      (pss_cons (ps_if (pt_cmpR (k_eq (K := K) rfl (hu64 hr)) (pv 3) pe_int (nomark _)) (pss_one (ps_setLc (i := 6) (own := [("_law_one", 7)]) (g := gName 7) rfl sc_covers.nd rfl rfl (sw_true rfl rfl rfl (by decide +kernel)) (pi_seq (pv 6)) (blkOk_by (N := ["_law_row", "_law_most", "_law_found", "_law_way", "_law_many", "_law_block", "_law_some", "_law_one"]) (sc := defScope s_covers) (by decide +kernel)) (fun _ _ _ _ _ => (pg_name (i := 7) sc_covers.nd rfl (Or.inl rfl))) (fun _ _ _ _ _ => (pts_one (pt_cmpR op_lt (pe_op op_sub (pv 5) (pv 7)) pe_int (nomark _)))) (fun _ _ _ _ _ => (pv 7)))) pss_nil)
      (pss_one (ps_expr (pe_bm PySem.F.plainAttrs_list PySem.F.slot_list_append PySem.F.type_list_append mt_append (pv 2) (pa_cons (pe_callTy (k_tupOf (K := K) rfl) (by rfl) B.b_tuple (by decide +kernel) (pa_cons (pv 6) pa_nil)) pa_nil))))))))))
      (pss_one (ps_ret (pe_callTy (k_tupOf (K := K) rfl) (by rfl) B.b_tuple (by decide +kernel) (pa_cons (pv 2) pa_nil)))))), ?_⟩
    refine ⟨by decide, fun q hq => ?_⟩
    have hrow0 : RowAt K (upd H q (.lst [])) r a0 ns := hrow.same (same_new hq)
    refine ⟨_, rfl, r, a0, ns, 7, rfl, hrow0, by omega, by omega, fun way H1 hway hrow1 fx1 => ?_⟩
    refine ⟨_, rfl, _, rfl, r, a0, ns, most, rfl, hrow1, hm1, by omega, fun v H2 hv hrow2 fx2 => .inl ⟨1, (v : Int), rfl, rfl, ?_⟩⟩
    refine ⟨(show 3 ≤ sizeLine by decide), fun t ht => ?_⟩
    have fx3 : Fx r H (upd H2 t (.tup [.ref q, ni way, .int (1 + (v : Int))])) := (((same_fx r (same_new hq)).trans fx1).trans fx2).trans (same_fx r (same_new ht))
    have hrow3 : RowAt K (upd H2 t (.tup [.ref q, ni way, .int (1 + (v : Int))])) r a0 ns := hrow2.same (same_new ht)
    have nqr : q ≠ r := hrow.ne hq
    have hq3 : (upd H2 t (.tup [.ref q, ni way, .int (1 + (v : Int))])) q = some (.lst []) :=
      ((fx1.trans fx2).trans (same_fx r (same_new ht))) q _ nqr upd_same
    refine ⟨t, _, rfl, sqT upd_same, rfl, _, _, rfl, _, _, rfl, _, _, rfl, rfl, ?_⟩
    show tSeq _ _ _ _ (upd H2 t (.tup [.ref q, ni way, .int (1 + (v : Int))]))
    generalize (upd H2 t (.tup [.ref q, ni way, .int (1 + (v : Int))])) = H3 at fx3 hrow3 hq3 ⊢
    clear ht hrow2 hrow1 fx1 fx2 hrow0
    refine ⟨_, rfl, _, rfl, by omega, by omega, ?_⟩
    have em : (1 + (v : Int)).toNat = 1 + v := by omega
    rw [em]
    refine for_it walk_rg (CovInv K H r a0 q ns most way (1 + (v : Int))) ⟨[], [], _, _, _, rfl, hrow3, fx3, hq3, rfl, rfl, fun (j : Nat) (a : Addr) (c : List Nat) (e : ([] : List Addr)[j]? = some a) _ => by simp at e, fun (i : Nat) (c : List Nat) (e : ([] : List (List Nat))[i]? = some c) => by simp at e⟩
      (fun _ _ _ _ _ => trivial) (fun i x σ H4 H5 hi pv y => ?_) (fun σ H4 pv => ?_)
    · obtain ⟨rfl, rfl⟩ := y
      obtain ⟨as, cs, v5, v6, v7, rfl, hrow5, fx5, hq5, las, lcs, hac, hV⟩ := pv
      have i10 : i < 10 := by omega
      refine ⟨_, rfl, _, rfl, by omega, by omega, fun D hD => ?_⟩
      rw [Int.toNat_natCast]
      have nDr : D ≠ r := hrow5.ne hD
      have nDq : D ≠ q := (ne_of_none hq5 hD).symm
      refine lc_it walk_rg (fun j H' => RowAt K H' r a0 ns ∧ Fx r H5 H' ∧ ∃ acc : List Nat, H' D = some (.lst (nis acc)) ∧ acc.Pairwise (· < ·) ∧ ∀ x ∈ acc, x < j)
        ⟨hrow5.same (same_new hD), same_fx r (same_new hD), [], upd_same, List.Pairwise.nil, fun x h => nomatch h⟩ (fun _ _ _ _ => trivial) (fun j x H6 H7 hj pv y => ?_) (fun H6 pv => ?_)
      · obtain ⟨rfl, rfl⟩ := y
        obtain ⟨hrow7, fx7, acc, hD7, hasc, hlt⟩ := pv
        have l10 := asc_len0 hasc hlt
        refine ⟨rfl, _, rfl, r, a0, ns, 3, rfl, hrow7, by omega, by omega, fun v8 H8 hv8 hrow8 fx8 => .inl ⟨rfl, _, rfl, ?_⟩⟩
        have hD8 : H8 D = some (.lst (nis acc)) := fx8 D _ nDr hD7
        refine ite2 (fun _ => ?_) (fun _ => ?_)
        · refine ⟨_, rfl, _, hD8, szl (by rw [nis_len]; omega), rowAt_beside hrow5 hD (fx7.trans fx8) hrow8, fx_beside hD (fx7.trans fx8), acc ++ [j], ?_, asc_snoc hasc hlt, fun x hx => ?_⟩
          · rw [upd_same, nis_app]
            rfl
          · rcases List.mem_append.mp hx with h | h
            · have := hlt x h; omega
            · rw [List.mem_singleton.mp h]; omega
        · exact ⟨hrow8, fx7.trans fx8, acc, hD8, hasc, fun x hx => by have := hlt x hx; omega⟩
      · obtain ⟨hrow6, fx6, acc, hD6, hasc, hlt⟩ := pv
        -- what stands behind the four ways: the list at D2 becomes the block's tuple
        have fin : ∀ (D2 : Addr) (ac : List Nat) (H7 : Hp) (u7 : Option V), RowAt K H7 r a0 ns → Fx r H5 H7 → H7 D2 = some (.lst (nis ac)) → ac.Pairwise (· < ·) → (∀ x ∈ ac, x < i) →
            ∀ t, H7 t = none → ∃ l xs y, V.ref q = V.ref l ∧ [V.ref t] = [y] ∧ (upd H7 t (.tup (nis ac))) l = some (.lst xs) ∧ xs.length < sizeLine ∧
              CovInv K H r a0 q ns most way (1 + (v : Int)) (i + 1) [some (.ref r), some (ni most), some (.ref q), some (ni way), some (.int (1 + (v : Int))), some (ni i), some (.ref D2), u7] (upd (upd H7 t (.tup (nis ac))) l (.lst (xs ++ [y]))) := by
          intro D2 ac H7 u7 hrow7 fx7 hD7 hasc7 hlt7 t ht
          have ntr : t ≠ r := hrow7.ne ht
          have hq7 : H7 q = some (.lst (as.map V.ref)) := fx7 q _ nqr hq5
          have ntq : q ≠ t := ne_of_none hq7 ht
          have hq8 : (upd H7 t (.tup (nis ac))) q = some (.lst (as.map V.ref)) := by rw [upd_ne ntq]; exact hq7
          refine ⟨q, _, _, rfl, rfl, hq8, szl (by rw [List.length_map]; omega), as ++ [t], cs ++ [ac], _, _, _, rfl, ?_, ?_, ?_, ?_, ?_, ?_, ?_⟩
          · have hr8 : RowAt K (upd H7 t (.tup (nis ac))) r a0 ns := hrow7.same (same_new ht)
            exact rowAt_beside hrow hq ((fx5.trans fx7).trans (same_fx r (same_new ht))) hr8
          · exact fx_beside hq ((fx5.trans fx7).trans (same_fx r (same_new ht)))
          · rw [upd_same, List.map_append]
            rfl
          · rw [List.length_append, las]
            rfl
          · rw [List.length_append, lcs]
            rfl
          · intro j a c e1 e2
            by_cases z : j < i
            · rw [List.getElem?_append_left (by omega)] at e1 e2
              have h5 := hac j a c e1 e2
              have nar : a ≠ r := by
                obtain ⟨ys, hy⟩ := hrow5.lst
                exact ne_of h5 hy (by intro z; cases z)
              have h7 := fx7 a _ nar h5
              rw [upd_ne (ne_of h7 hq7 (by intro z; cases z)), upd_ne (ne_of_none h7 ht)]
              exact h7
            · have ej : j - i = 0 := by
                have := (List.getElem?_eq_some_iff.mp e1).1
                rw [List.length_append, las] at this
                have : j < i + 1 := this
                omega
              rw [List.getElem?_append_right (by omega), las, ej] at e1
              rw [List.getElem?_append_right (by omega), lcs, ej] at e2
              cases e1
              cases e2
              rw [upd_ne ntq.symm, upd_same]
          · exact valid_snoc hV hasc7 (by rw [lcs]; exact hlt7)
        have hq6 : H6 q = some (.lst (as.map V.ref)) := fx6 q _ nqr hq5
        have yes : ∀ c : Nat, way = c → decide (ni way = V.int ((c : Nat) : Int)) = true := fun c e => (ni_dec way c).trans (decide_eq_true e)
        have no : ∀ c : Nat, way ≠ c → decide (ni way = V.int ((c : Nat) : Int)) = false := fun c e => (ni_dec way c).trans (decide_eq_false e)
        by_cases w0 : way = 0
        · refine ⟨_, rfl, .inl ⟨rfl, _, rfl, itT (yes 0 w0) ⟨by decide, fun D2 hD2 => ?_⟩⟩⟩
          refine ⟨_, rfl, .inl ⟨rfl, _, rfl, itF (no 1 (by omega)) ?_⟩⟩
          refine ⟨_, rfl, .inl ⟨rfl, _, rfl, itF (no 2 (by omega)) ?_⟩⟩
          refine ⟨_, rfl, .inl ⟨rfl, _, rfl, itF (no 3 (by omega)) ?_⟩⟩
          have nq2 : q ≠ D2 := ne_of_none hq6 hD2
          refine ⟨_, rfl, .inl ⟨rfl, _, .inl (.inl (by rw [upd_ne nq2]; exact hq6))⟩, _, rfl, D2, _, rfl, .inl ⟨sqL upd_same, fun t ht => ?_⟩⟩
          exact fin D2 [] _ _ (hrow6.same (same_new hD2)) (fx6.trans (same_fx r (same_new hD2))) upd_same List.Pairwise.nil (fun x h => nomatch h) t ht
        · refine ⟨_, rfl, .inl ⟨rfl, _, rfl, itF (no 0 w0) ?_⟩⟩
          by_cases w1 : way = 1
          · refine ⟨_, rfl, .inl ⟨rfl, _, rfl, itT (yes 1 w1) ?_⟩⟩
            refine ⟨_, rfl, (i : Int), rfl, RgOk.of_le (by decide) (by omega) (by decide) (by omega), fun q1 hq1 => ?_⟩
            rw [rgV_nat]
            refine ⟨1, rfl, -1, rfl, .inl ⟨q1, _, rfl, sqL upd_same, fun D2 hD2 => ?_⟩⟩
            rw [cut_last]
            have s1 : Same H6 (upd H6 q1 (.lst (nis (List.range i)))) := same_new hq1
            have s2 : Same H6 (upd (upd H6 q1 (.lst (nis (List.range i)))) D2 (.lst (nis (lastN i)))) := same_upd s1 (Same.free s1 hD2)
            have hl : (lastN i).Pairwise (· < ·) ∧ ∀ x ∈ lastN i, x < i := by
              unfold lastN
              by_cases z : i = 0
              · rw [if_pos z]
                exact ⟨List.Pairwise.nil, fun x h => nomatch h⟩
              · rw [if_neg z]
                exact ⟨List.pairwise_singleton _ _, fun x h => by rw [List.mem_singleton.mp h]; omega⟩
            refine ⟨_, rfl, .inl ⟨rfl, _, rfl, itF (no 2 (by omega)) ?_⟩⟩
            refine ⟨_, rfl, .inl ⟨rfl, _, rfl, itF (no 3 (by omega)) ?_⟩⟩
            refine ⟨_, rfl, .inl ⟨rfl, _, .inl (.inl (s2 _ _ hq6))⟩, _, rfl, D2, _, rfl, .inl ⟨sqL upd_same, fun t ht => ?_⟩⟩
            exact fin D2 (lastN i) _ _ (hrow6.same s2) (fx6.trans (same_fx r s2)) upd_same hl.1 hl.2 t ht
          · refine ⟨_, rfl, .inl ⟨rfl, _, rfl, itF (no 1 w1) ?_⟩⟩
            by_cases w2 : way = 2
            · refine ⟨_, rfl, .inl ⟨rfl, _, rfl, itT (yes 2 w2) ?_⟩⟩
              refine ⟨_, rfl, _, rfl, by omega, by omega, fun D2 hD2 => ?_⟩
              rw [Int.toNat_natCast]
              refine lc_it walk_rg (fun j H' => Same H6 H' ∧ ∃ ac : List Nat, H' D2 = some (.lst (nis ac)) ∧ ac.Pairwise (· < ·) ∧ ∀ x ∈ ac, x < j)
                ⟨same_new hD2, [], upd_same, List.Pairwise.nil, fun x h => nomatch h⟩ (fun _ _ _ _ => trivial) (fun j x H7 H8 hj pv y => ?_) (fun H7 pv => ?_)
              · obtain ⟨rfl, rfl⟩ := y
                obtain ⟨s8, ac, hD8, hasc8, hlt8⟩ := pv
                have l10 := asc_len0 hasc8 hlt8
                have cont : ∀ k : Bool, if k = true then tVar 7 ((wipe [some (V.ref r), some (ni most), some (V.ref q), some (ni way), some (V.int (1 + (v : Int))), some (ni i), some (V.ref D), none] [7]).set 7 (some (ni j))) H8 (fun y H4 => ∃ acc, H4 D2 = some (.lst acc) ∧ acc.length < sizeLine ∧ (Same H6 (upd H4 D2 (.lst (acc ++ [y]))) ∧ ∃ ac : List Nat, (upd H4 D2 (.lst (acc ++ [y]))) D2 = some (.lst (nis ac)) ∧ ac.Pairwise (· < ·) ∧ ∀ x ∈ ac, x < j + 1))
                    else (Same H6 H8 ∧ ∃ ac : List Nat, H8 D2 = some (.lst (nis ac)) ∧ ac.Pairwise (· < ·) ∧ ∀ x ∈ ac, x < j + 1) := by
                  intro k
                  cases k with
                  | false => exact iteF ⟨s8, ac, hD8, hasc8, fun x hx => by have := hlt8 x hx; omega⟩
                  | true =>
                    refine iteT ⟨_, rfl, _, hD8, szl (by rw [nis_len]; omega), same_upd s8 hD2, ac ++ [j], ?_, asc_snoc hasc8 hlt8, fun x hx => ?_⟩
                    · rw [upd_same, nis_app]
                      rfl
                    · rcases List.mem_append.mp hx with h | h
                      · have := hlt8 x h; omega
                      · rw [List.mem_singleton.mp h]; omega
                refine ⟨rfl, _, rfl, _, _, rfl, rfl, .inl ⟨by decide, by decide⟩, _, rfl, _, _, rfl, rfl, _, rfl, ?_⟩
                refine ite2 (fun _ => ?_) (fun _ => ?_)
                · exact ⟨_, rfl, _, _, rfl, rfl, .inl ⟨by decide, by decide⟩, _, _, rfl, rfl, _, rfl, cont _⟩
                · exact ⟨_, rfl, cont false⟩
              · obtain ⟨s7, ac, hD7, hasc7, hlt7⟩ := pv
                refine ⟨_, rfl, .inl ⟨rfl, _, rfl, itF (no 3 (by omega)) ?_⟩⟩
                refine ⟨_, rfl, .inl ⟨rfl, _, .inl (.inl (s7 _ _ hq6))⟩, _, rfl, D2, _, rfl, .inl ⟨sqL hD7, fun t ht => ?_⟩⟩
                exact fin D2 ac _ _ (hrow6.same s7) (fx6.trans (same_fx r s7)) hD7 hasc7 hlt7 t ht
            · refine ⟨_, rfl, .inl ⟨rfl, _, rfl, itF (no 2 w2) ?_⟩⟩
              by_cases w3 : way = 3
              · refine ⟨_, rfl, .inl ⟨rfl, _, rfl, itT (yes 3 w3) ?_⟩⟩
                refine .inl ⟨_, rfl, D, rfl, ⟨_, sqL hD6⟩, fun D2 hD2 => ?_⟩
                refine lc_it (walk_list (xs := nis acc)) (fun j H' => Same H6 H' ∧ ∃ ac : List Nat, H' D2 = some (.lst (nis ac)) ∧ ac.Sublist (acc.take j))
                  ⟨same_new hD2, [], upd_same, List.nil_sublist _⟩ (fun j H' _ pv => sqL (pv.1 _ _ hD6)) (fun j x H7 H8 hj pv y => ?_) (fun H7 pv => ?_)
                · obtain ⟨rfl, hx⟩ := y
                  obtain ⟨n, hn, rfl⟩ := map_get hx
                  obtain ⟨s8, ac, hD8, hsub⟩ := pv
                  have l10 := asc_len0 hasc hlt
                  have l11 := hsub.length_le
                  rw [List.length_take] at l11
                  refine ⟨rfl, _, rfl, _, rfl, _, _, rfl, rfl, _, _, rfl, rfl, _, rfl, ?_⟩
                  rw [take_snoc hn]
                  refine ite2 (fun _ => ?_) (fun _ => ?_)
                  · refine ⟨_, rfl, _, hD8, szl (by rw [nis_len]; omega), same_upd s8 hD2, ac ++ [n], ?_, hsub.append (List.Sublist.refl _)⟩
                    rw [upd_same, nis_app]
                    rfl
                  · exact ⟨s8, ac, hD8, hsub.trans (List.sublist_append_left _ _)⟩
                · obtain ⟨s7, ac, hD7, hsub⟩ := pv
                  rw [nis_len, List.take_of_length_le (Nat.le_refl _)] at hsub
                  refine ⟨_, rfl, .inl ⟨rfl, _, .inl (.inl (s7 _ _ hq6))⟩, _, rfl, D2, _, rfl, .inl ⟨sqL hD7, fun t ht => ?_⟩⟩
                  exact fin D2 ac _ _ (hrow6.same s7) (fx6.trans (same_fx r s7)) hD7 (hasc.sublist hsub) (fun x hx => hlt x (hsub.subset hx)) t ht
              · refine ⟨_, rfl, .inl ⟨rfl, _, rfl, itF (no 3 w3) ?_⟩⟩
                refine ⟨_, rfl, .inl ⟨rfl, _, .inl (.inl hq6)⟩, _, rfl, D, _, rfl, .inl ⟨sqL hD6, fun t ht => ?_⟩⟩
                exact fin D acc _ _ hrow6 fx6 hD6 hasc hlt t ht
    · obtain ⟨as, cs, v5, v6, v7, rfl, hrow4, fx4, hq4, las, lcs, hac, hV⟩ := pv
      refine ⟨_, rfl, q, _, rfl, .inl ⟨sqL hq4, fun p hp => ?_⟩⟩
      refine k p cs _ (hrow4.same (same_new hp)) (fx4.trans (same_fx r (same_new hp))) ⟨as, upd_same, by rw [las, lcs], fun i a c e1 e2 => ?_⟩ hV (by omega) (by omega)
      have h := hac i a c e1 e2
      rw [upd_ne (ne_of_none h hp)]
      exact h
end
end K08

set_option Elab.async false
set_option linter.all false
set_option maxRecDepth 100000
set_option maxHeartbeats 4000000
namespace K08
open PySem PySem.Spec PyProof.Rows L2 Pit
section
variable {P : Program} {w : World} {K : PySem.W.Frag} {mg : Str → Option Value} {base : Heap}
abbrev s_lots : Stmt := topS 46
theorem sc_lots : FnScope ["_law_many", "_law_found", "_law_block", "_law_lot", "_law_size"] ["_law_many"] (defScope s_lots) :=
  ⟨rfl, rfl, rfl, by decide +kernel, rfl, by decide +kernel, by decide +kernel⟩
theorem ok_lots {f : Addr} {fd : FuncData} (F : Fun K "_law_lots" "_law_lots" s_lots f fd) (B : Bl mg) :
    FnOk P w K mg base CX0 1 f fd ["_law_many"] spLots2 := by
  refine F.ok sc_lots (fun vs H Q E h => ?_) (fun cdv A outer s H vs Q E hr h => ?_)
  · obtain ⟨n, rfl, _⟩ := h
    rfl
  · obtain ⟨n, rfl, hn8, k⟩ := h
    refine ⟨_, (pss_cons (ps_set (i := 1) sc_lots.nd rfl (Or.inl rfl) (pe_lst (pa_cons (pe_tup pa_nil) pa_nil)))
      (pss_cons (ps_for PassesOwn.never rfl (pi_range1 (by rfl) B.b_range (pa_cons (pv 0) pa_nil)) (pg_name (i := 2) sc_lots.nd rfl (Or.inr rfl))
      (pss_one (ps_set (i := 1) sc_lots.nd rfl (Or.inl rfl) (pe_op (k_add (K := K) rfl) (pv 1) (pe_lc (own := [("_law_lot", 3)]) (g := gName 3) (tt := tYes) rfl sc_lots.nd (pi_seq (pv 1)) (blkOk_by (N := ["_law_many", "_law_found", "_law_block", "_law_lot", "_law_size"]) (sc := defScope s_lots) (by decide +kernel)) (fun _ _ _ _ _ => (pg_name (i := 3) sc_lots.nd rfl (Or.inl rfl))) (fun _ _ _ _ _ => pts_nil) (fun _ _ _ _ _ => (pe_op (k_add (K := K) rfl) (pv 3) (pe_tup (pa_cons (pv 2) pa_nil)))))))))
      (pss_one (ps_ret (pe_lc (own := [("_law_size", 4), ("_law_lot", 3)]) (g := gTup _ 2 (gCons (gName 4) (gCons (gName 3) gNil))) (tt := tYes) rfl sc_lots.nd (pi_seq (pe_callB (k_sorted (K := K) rfl (hu64 hr)) (by rfl) B.b_sorted (by decide +kernel) (pa_cons (pe_lc (own := [("_law_lot", 3)]) (g := gName 3) (tt := tYes) rfl sc_lots.nd (pi_seq (pv 1)) (blkOk_by (N := ["_law_many", "_law_found", "_law_block", "_law_lot", "_law_size"]) (sc := defScope s_lots) (by decide +kernel)) (fun _ _ _ _ _ => (pg_name (i := 3) sc_lots.nd rfl (Or.inl rfl))) (fun _ _ _ _ _ => pts_nil) (fun _ _ _ _ _ => (pe_tup (pa_cons (pe_callB (k_len (K := K) rfl) (by rfl) B.b_len (by decide +kernel) (pa_cons (pv 3) pa_nil)) (pa_cons (pv 3) pa_nil))))) pa_nil))) (blkOk_by (N := ["_law_many", "_law_found", "_law_block", "_law_lot", "_law_size"]) (sc := defScope s_lots) (by decide +kernel)) (fun _ _ _ _ _ => (pg_tup rfl (pgs_cons (pg_name (i := 4) sc_lots.nd rfl (Or.inl rfl)) (pgs_cons (pg_name (i := 3) sc_lots.nd rfl (Or.inl rfl)) pgs_nil)))) (fun _ _ _ _ _ => pts_nil) (fun _ _ _ _ _ => (pv 3))))))), ?_⟩
    refine ⟨by decide, fun e he => ⟨(show 1 ≤ sizeLine by decide), fun q0 hq0 => ?_⟩⟩
    have s0 : Same H (upd (upd H e (.tup [])) q0 (.lst [.ref e])) := same_upd (same_new he) (Same.free (same_new he) hq0)
    have he0 : (upd (upd H e (.tup [])) q0 (.lst [.ref e])) e = some (.tup []) := by rw [upd_ne (ne_of_none upd_same hq0), upd_same]
    have hq00 : (upd (upd H e (.tup [])) q0 (.lst [.ref e])) q0 = some (.lst [.ref e]) := upd_same
    generalize (upd (upd H e (.tup [])) q0 (.lst [.ref e])) = H0 at s0 he0 hq00 ⊢
    refine ⟨_, rfl, _, rfl, by omega, by omega, ?_⟩
    rw [Int.toNat_natCast]
    refine for_it walk_rg (fun i σ H' => Same H H' ∧ ∃ (q : Addr) (as : List Addr) (v2 v3 v4 : Option V), σ = [some (ni n), some (.ref q), v2, v3, v4] ∧ H' q = some (.lst (as.map V.ref)) ∧ LotsAt H' as (allL i))
      ⟨s0, q0, [e], _, _, _, rfl, hq00, rfl, fun i a l e1 e2 => ?_⟩ (fun _ _ _ _ _ => trivial) (fun i x σ H3 H4 hi pv y => ?_) (fun σ H3 pv => ?_)
    · cases i with
      | zero => cases e1; cases e2; exact he0
      | succ i => cases e1
    · obtain ⟨rfl, rfl⟩ := y
      obtain ⟨s4, q, as, v2, v3, v4, rfl, hq4, hA⟩ := pv
      have hpow : 2 ^ i ≤ 128 := Nat.pow_le_pow_right (by decide) (show i ≤ 7 by omega)
      have hlen : as.length ≤ 128 := by rw [hA.1, allL_len]; exact hpow
      refine ⟨_, rfl, .inl ⟨_, rfl, q, rfl, ⟨_, sqL hq4⟩, fun D hD => ?_⟩⟩
      refine lc_it (walk_list (xs := as.map V.ref)) (fun j H' => Same H4 H' ∧ ∃ bs : List Addr, H' D = some (.lst (bs.map V.ref)) ∧ LotsAt H' bs (((allL i).take j).map fun l => l ++ [i]))
        ⟨same_new hD, [], upd_same, rfl, fun m a l (e1 : ([] : List Addr)[m]? = some a) _ => by simp at e1⟩ (fun _ H' _ pv => sqL (pv.1 _ _ hq4)) (fun j x H5 H6 hj pv y => ?_) (fun H5 pv => ?_)
      · obtain ⟨rfl, hx⟩ := y
        obtain ⟨a, ha, rfl⟩ := map_get hx
        obtain ⟨s6, bs, hD6, hB⟩ := pv
        obtain ⟨l, hal, hla⟩ := hA.get ha
        have hl := (allL_mem i l).mp (List.mem_of_getElem? hal)
        have lbs : bs.length ≤ 128 := by
          rw [hB.1, List.length_map, List.length_take, ← hA.1]
          omega
        refine ⟨rfl, yesT ?_⟩
        refine ⟨_, rfl, _, rfl, (show 1 ≤ sizeLine by decide), fun t ht => ?_⟩
        have fin : ∀ (p : Addr) (H7 : Hp), Same H6 H7 → H7 p = some (.tup (nis (l ++ [i]))) → ∃ acc, H7 D = some (.lst acc) ∧ acc.length < sizeLine ∧ (Same H4 (upd H7 D (.lst (acc ++ [.ref p]))) ∧ ∃ bs : List Addr, (upd H7 D (.lst (acc ++ [.ref p]))) D = some (.lst (bs.map V.ref)) ∧
            LotsAt (upd H7 D (.lst (acc ++ [.ref p]))) bs (((allL i).take (j + 1)).map fun l => l ++ [i])) := by
          intro p H7 s7 hp7
          have hD7 := s7 _ _ hD6
          have ke : ∀ (b : Addr) (ys : List V), H7 b = some (.tup ys) → (upd H7 D (.lst (bs.map V.ref ++ [.ref p]))) b = some (.tup ys) := fun b ys e => by
            rw [upd_ne (ne_of e hD7 (by intro z; cases z))]
            exact e
          refine ⟨_, hD7, szl (by rw [List.length_map]; omega), same_upd (s6.trans s7) hD, bs ++ [p], ?_, ?_, ?_⟩
          · rw [upd_same, List.map_append]
            rfl
          · rw [take_snoc hal, List.map_append, List.length_append, List.length_append, hB.1]
            rfl
          · intro m b l2 e1 e2
            rw [take_snoc hal, List.map_append] at e2
            by_cases z : m < bs.length
            · rw [List.getElem?_append_left z] at e1
              rw [List.getElem?_append_left (by rw [← hB.1]; exact z)] at e2
              exact ke _ _ (s7 _ _ (hB.2 m b l2 e1 e2))
            · have zz := (List.getElem?_eq_some_iff.mp e1).1
              rw [List.length_append] at zz
              have zz2 : m < bs.length + 1 := zz
              rw [List.getElem?_append_right (by omega), show m - bs.length = 0 by omega] at e1
              rw [List.getElem?_append_right (by rw [← hB.1]; omega), ← hB.1, show m - bs.length = 0 by omega] at e2
              cases e1
              cases e2
              exact ke _ _ hp7
        have s7 : Same H6 (upd H6 t (.tup [ni i])) := same_new ht
        refine .inr (.inr ⟨a, t, nis l, [ni i], rfl, rfl, sqT (s7 _ _ (s6 _ _ hla)), sqT upd_same, ?_, fun e => ?_, fun _ (e : [ni i] = []) => absurd e (List.cons_ne_nil _ _), fun _ _ p hp => ?_⟩)
        · rw [nis_len]
          have := hl.len
          exact szle (show l.length + 1 ≤ 100000 by omega)
        · have e2 : l = [] := List.map_eq_nil_iff.mp e
          subst e2
          exact fin t _ s7 upd_same
        · exact fin p _ (same_upd s7 (Same.free s7 hp)) (by rw [upd_same, nis_app]; rfl)
      · obtain ⟨s5, bs, hD5, hB⟩ := pv
        rw [List.length_map, hA.1, List.take_of_length_le (Nat.le_refl _)] at hB
        have s45 : Same H H5 := s4.trans s5
        have lbs : bs.length ≤ 128 := by
          rw [hB.1, List.length_map, allL_len]
          exact hpow
        refine .inr (.inl ⟨q, D, _, _, rfl, rfl, s5 _ _ hq4, hD5, szle ?_, fun p hp => ?_⟩)
        · rw [List.length_map, List.length_map]
          omega
        · have s58 : Same H5 (upd H5 p (.lst (as.map V.ref ++ bs.map V.ref))) := same_new hp
          refine ⟨s45.trans s58, p, as ++ bs, _, _, _, rfl, ?_, ?_, fun m b l e1 e2 => ?_⟩
          · rw [upd_same, List.map_append]
          · show _ = (allL i ++ (allL i).map fun l => l ++ [i]).length
            rw [List.length_append, List.length_append, hA.1, hB.1]
          · have e3 : (allL i ++ (allL i).map fun l => l ++ [i])[m]? = some l := e2
            by_cases z : m < as.length
            · rw [List.getElem?_append_left z] at e1
              rw [List.getElem?_append_left (by rw [← hA.1]; exact z)] at e3
              exact s58 _ _ (s5 _ _ (hA.2 m b l e1 e3))
            · rw [List.getElem?_append_right (by omega)] at e1
              rw [List.getElem?_append_right (by rw [← hA.1]; omega), ← hA.1] at e3
              exact s58 _ _ (hB.2 _ b l e1 e3)
    · obtain ⟨s3, q, as, v2, v3, v4, rfl, hq3, hA⟩ := pv
      have hpow : 2 ^ n ≤ 256 := Nat.pow_le_pow_right (by decide) hn8
      have hlen : as.length ≤ 256 := by rw [hA.1, allL_len]; exact hpow
      refine .inl (.inl ⟨_, rfl, q, rfl, ⟨_, sqL hq3⟩, fun D hD => ?_⟩)
      refine lc_it (walk_list (xs := as.map V.ref)) (fun j H' => Same H3 H' ∧ ∃ ts : List Addr, H' D = some (.lst (ts.map V.ref)) ∧ ts.length = j ∧
          ∀ (m : Nat) (t a : Addr) (l : List Nat), ts[m]? = some t → as[m]? = some a → (allL n)[m]? = some l → H' t = some (.tup [ni l.length, .ref a]))
        ⟨same_new hD, [], upd_same, rfl, fun m t a l (e : ([] : List Addr)[m]? = some t) _ _ => by simp at e⟩ (fun _ H' _ pv => sqL (pv.1 _ _ hq3)) (fun j x H5 H6 hj pv y => ?_) (fun H5 pv => ?_)
      · obtain ⟨rfl, hx⟩ := y
        obtain ⟨a, ha, rfl⟩ := map_get hx
        obtain ⟨s6, ts, hD6, lts, ht1⟩ := pv
        obtain ⟨l, hal, hla⟩ := hA.get ha
        rw [List.length_map] at hj
        refine ⟨rfl, yesT ?_⟩
        refine ⟨_, rfl, a, nis l, rfl, .inr (sqT (s6 _ _ hla)), _, rfl, (show 2 ≤ sizeLine by decide), fun t ht => ?_⟩
        rw [nis_len]
        have s7 : Same H6 (upd H6 t (.tup [ni l.length, .ref a])) := same_new ht
        have htt : (upd H6 t (.tup [ni l.length, .ref a])) t = some (.tup [ni l.length, .ref a]) := upd_same
        generalize (upd H6 t (.tup [ni l.length, .ref a])) = H7 at s7 htt ⊢
        have hD7 := s7 _ _ hD6
        have ke : ∀ (b : Addr) (ys : List V), H7 b = some (.tup ys) → (upd H7 D (.lst (ts.map V.ref ++ [.ref t]))) b = some (.tup ys) := fun b ys e => by
          rw [upd_ne (ne_of e hD7 (by intro z; cases z))]
          exact e
        refine ⟨_, hD7, szl (by rw [List.length_map]; omega), same_upd (s6.trans s7) hD, ts ++ [t], ?_, ?_, ?_⟩
        · rw [upd_same, List.map_append]
          rfl
        · rw [List.length_append, lts]
          rfl
        · intro m t2 a2 l2 e1 e2 e3
          by_cases z : m < ts.length
          · rw [List.getElem?_append_left z] at e1
            exact ke _ _ (s7 _ _ (ht1 m t2 a2 l2 e1 e2 e3))
          · have zz := (List.getElem?_eq_some_iff.mp e1).1
            rw [List.length_append] at zz
            have zz2 : m < ts.length + 1 := zz
            have em : m = j := by omega
            rw [List.getElem?_append_right (by omega), show m - ts.length = 0 by omega] at e1
            cases e1
            rw [em, ha] at e2
            rw [em, hal] at e3
            cases e2
            cases e3
            exact ke _ _ htt
      · obtain ⟨s5, ts, hD5, lts, ht1⟩ := pv
        rw [List.length_map] at lts
        have tl : ∀ (m : Nat) (t : Addr), ts[m]? = some t → ∃ a l, as[m]? = some a ∧ (allL n)[m]? = some l ∧ H5 a = some (.tup (nis l)) ∧ H5 t = some (.tup [ni l.length, .ref a]) := fun m t e => by
          have hm : m < as.length := by rw [← lts]; exact (List.getElem?_eq_some_iff.mp e).1
          obtain ⟨l, h1, h2⟩ := hA.get (List.getElem?_eq_getElem hm)
          exact ⟨as[m], l, List.getElem?_eq_getElem hm, h1, s5 _ _ h2, ht1 m t _ l e (List.getElem?_eq_getElem hm) h1⟩
        have tmem : ∀ t ∈ ts, H5 t = some (.tup [ni (lotAt H5 (sndAt H5 t)).length, .ref (sndAt H5 t)]) ∧ H5 (sndAt H5 t) = some (.tup (nis (lotAt H5 (sndAt H5 t)))) := fun t ht => by
          obtain ⟨m, hm⟩ := List.getElem?_of_mem ht
          obtain ⟨a, l, _, _, h1, h2⟩ := tl m t hm
          rw [sndAt_eq h2, lotAt_eq h1]
          exact ⟨h2, h1⟩
        have hmap : ts.map (fun t => lotAt H5 (sndAt H5 t)) = allL n := by
          refine List.ext_getElem? fun m => ?_
          rw [List.getElem?_map]
          cases e : ts[m]? with
          | none =>
            have : (allL n).length ≤ m := by rw [← hA.1, ← lts]; exact List.getElem?_eq_none_iff.mp e
            rw [List.getElem?_eq_none this]
            rfl
          | some t =>
            obtain ⟨a, l, _, h0, h1, h2⟩ := tl m t e
            rw [h0, Option.map_some, sndAt_eq h2, lotAt_eq h1]
        refine ⟨D, ts, fun t => (lotAt H5 (sndAt H5 t)).length, fun t => lotAt H5 (sndAt H5 t), rfl, sqL hD5, fun t ht => ⟨_, (tmem t ht).1, (tmem t ht).2⟩, fun ts' p hperm hord hp => ?_⟩
        have s8 : Same H5 (upd H5 p (.lst (ts'.map V.ref))) := same_new hp
        have hp8 : (upd H5 p (.lst (ts'.map V.ref))) p = some (.lst (ts'.map V.ref)) := upd_same
        generalize (upd H5 p (.lst (ts'.map V.ref))) = H8 at s8 hp8 ⊢
        refine ⟨p, rfl, ⟨_, sqL hp8⟩, fun D2 hD2 => ?_⟩
        have hlen' : ts'.length ≤ 256 := by rw [hperm.length_eq, lts]; exact hlen
        refine lc_it (walk_list (xs := ts'.map V.ref)) (fun j H' => Same H8 H' ∧ H' D2 = some (.lst (((ts'.take j).map (sndAt H5)).map V.ref))) (same_start hD2) (fun _ H' _ pv => sqL (pv.1 _ _ hp8)) (fun j x H9 H10 hj pv y => ?_) (fun H9 pv => ?_)
        · obtain ⟨rfl, hx⟩ := y
          obtain ⟨t, ht, rfl⟩ := map_get hx
          have e2 := (tmem t (hperm.mem_iff.mp (List.mem_of_getElem? ht))).1
          refine ⟨t, _, rfl, sqT (pv.1 _ _ (s8 _ _ e2)), rfl, _, _, rfl, _, _, rfl, rfl, rfl, yesT ⟨_, rfl, lc_push pv.1 hD2 pv.2 (szl ?_) ?_⟩⟩
          · rw [List.length_map, List.length_map, List.length_take]
            omega
          · rw [take_snoc ht, List.map_append, List.map_append, List.map_singleton, List.map_singleton]
        · obtain ⟨s9, hD9⟩ := pv
          rw [List.length_map, List.take_of_length_le (Nat.le_refl _)] at hD9
          have s59 := s8.trans s9
          refine k D2 (ts'.map (sndAt H5)) (ts'.map fun t => lotAt H5 (sndAt H5 t)) H9 (s3.trans (s5.trans s59)) (Same.free s3 (Same.free s5 (Same.free s8 hD2))) hD9 ⟨by rw [List.length_map, List.length_map], fun m a l e1 e2 => ?_⟩ ?_ ?_
          · rw [List.getElem?_map] at e1 e2
            cases e : ts'[m]? with
            | none => rw [e] at e1; cases e1
            | some t =>
              rw [e] at e1 e2
              cases e1
              cases e2
              exact s59 _ _ (tmem t (hperm.mem_iff.mp (List.mem_of_getElem? e))).2
          · exact List.pairwise_map.mpr (hord.imp fun {x y} z => leD_of2 z)
          · rw [← hmap]
            exact hperm.map _
end
end K08

set_option Elab.async false
set_option linter.all false
set_option maxRecDepth 100000
set_option maxHeartbeats 4000000
namespace K08
open PySem PySem.Spec PyProof.Rows L2 Pit
section
variable {P : Program} {w : World} {K : PySem.W.Frag} {mg : Str → Option Value} {base : Heap}
abbrev s_law_is_pit : Stmt := topS 47
theorem sc_law_is_pit : FnScope ["_law_covers_here", "_law_lot", "_law_block", "_law_one"] ["_law_covers_here", "_law_lot"] (defScope s_law_is_pit) :=
  ⟨rfl, rfl, rfl, by decide +kernel, rfl, by decide +kernel, by decide +kernel⟩
theorem ok_law_is_pit {f : Addr} {fd : FuncData} (F : Fun K "_law_is_pit" "_law_is_pit" s_law_is_pit f fd) :
    FnOk P w K mg base CX0 1 f fd ["_law_covers_here", "_law_lot"] spLawPit := by
  refine F.ok sc_law_is_pit (fun vs H Q E h => ?_) (fun cdv A outer s H vs Q E hr h => ?_)
  · obtain ⟨p, a, cs, l, rfl, _⟩ := h
    rfl
  · obtain ⟨p, a, cs, l, rfl, hC, hV, h10, hL, k⟩ := h
    refine ⟨_, (pss_cons (ps_for PassesOwn.never rfl (pi_seq (pv 1)) (pg_name (i := 2) sc_law_is_pit.nd rfl (Or.inl rfl))
      (pss_one (ps_if (pt_cmpR (k_ne (K := K) rfl (hu64 hr)) (pe_lc (own := [("_law_one", 3)]) (g := gName 3) rfl sc_law_is_pit.nd (pi_seq (pe_ix (k_ix (K := K) rfl) (pv 0) (pv 2) (fun _ _ => rfl))) (blkOk_by (N := ["_law_covers_here", "_law_lot", "_law_block", "_law_one"]) (sc := defScope s_law_is_pit) (by decide +kernel)) (fun _ _ _ _ _ => (pg_name (i := 3) sc_law_is_pit.nd rfl (Or.inl rfl))) (fun _ _ _ _ _ => (pts_one (pt_cmpR (k_notIn (K := K) rfl) (pv 3) (pv 1) (by with_unfolding_all rfl)))) (fun _ _ _ _ _ => (pv 3))) (pe_lst pa_nil) (nomark _)) (pss_one (ps_ret pe_bl)) pss_nil)))
      (pss_one (ps_ret pe_bl))), ?_⟩
    obtain ⟨xs, hp, hx, hget⟩ := hC.get
    have l10 := hL.2.len
    refine .inr ⟨_, rfl, a, rfl, ⟨_, sqT hL.1⟩, ?_⟩
    refine for_it (walk_tup (xs := nis l)) (fun i σ H' => Same H H' ∧ (∀ b ∈ l.take i, ∀ f ∈ cs.getD b [], f ∈ l) ∧ ∃ v2 v3 : Option V, σ = [some (.ref p), some (.ref a), v2, v3])
      ⟨Same.refl H, fun (b : Nat) (hb : b ∈ ([] : List Nat)) => absurd hb List.not_mem_nil, _, _, rfl⟩ (fun i σ H' _ pv => sqT (pv.1 _ _ hL.1)) (fun i x σ H1 H2 hi pv y => ?_) (fun σ H1 pv => ?_)
    · obtain ⟨s1, hall, v2, v3, rfl⟩ := pv
      obtain ⟨rfl, hx2⟩ := y
      obtain ⟨n, hn, rfl⟩ := map_get hx2
      have hnl := hL.2.2 n (List.mem_of_getElem? hn)
      obtain ⟨ca, hxa, hca⟩ := hget n _ (at_getD hnl)
      have hcn := hV n _ (at_getD hnl)
      have hc10 := asc_len0 hcn.1 hcn.2
      refine .inr ⟨_, rfl, _, rfl, .inr (.inl ⟨p, xs, (n : Int), _, rfl, rfl, sqT (s1 _ _ hp), atI_nat hxa, ca, rfl, ⟨_, sqT (s1 _ _ hca)⟩, fun D hD => ?_⟩)⟩
      refine lc_it (walk_tup (xs := nis (cs.getD n []))) (fun j H' => Same H2 H' ∧ H' D = some (.lst (nis (((cs.getD n []).take j).filter fun f => !decide (f ∈ l)))))
        (same_start hD) (fun _ H' _ pv => sqT (pv.1 _ _ (s1 _ _ hca))) (fun j x H3 H4 hj pv y => ?_) (fun H3 pv => ?_)
      · obtain ⟨rfl, hx3⟩ := y
        obtain ⟨m, hm, rfl⟩ := map_get hx3
        refine ⟨rfl, _, rfl, _, rfl, a, nis l, rfl, .inr (sqT (pv.1 _ _ (s1 _ _ hL.1))), rfl, flat_nis l, _, rfl, ?_⟩
        rw [inV_nis, take_snoc hm, List.filter_append]
        cases q : decide (m ∈ l) with
        | true =>
          refine itF rfl ⟨pv.1, ?_⟩
          rw [pv.2, List.filter_cons, q]
          simp
        | false =>
          refine itT rfl ⟨_, rfl, lc_push pv.1 hD pv.2 (szl ?_) ?_⟩
          · have z := List.length_filter_le (fun f => !decide (f ∈ l)) ((cs.getD n []).take j)
            rw [List.length_take] at z
            rw [nis_len]
            omega
          · rw [nis_app, List.filter_cons, q]
            rfl
      · obtain ⟨s3, hD3⟩ := pv
        rw [nis_len, List.take_of_length_le (Nat.le_refl _)] at hD3
        refine ⟨by decide, fun p1 hp1 => .inr (ne_nil hD3 hp1 ?_)⟩
        have s4 : Same H (upd H3 p1 (.lst [])) := same_upd (s1.trans s3) (Same.free (s1.trans s3) hp1)
        by_cases e : (cs.getD n []).filter (fun f => !decide (f ∈ l)) = []
        · rw [decide_eq_true e]
          refine ⟨_, rfl, iteF ⟨s4, ?_, _, _, rfl⟩⟩
          rw [take_snoc hn]
          intro b hb f hf
          rcases List.mem_append.mp hb with z | z
          · exact hall b z f hf
          · rw [List.mem_singleton.mp z] at hf
            have z2 := List.filter_eq_nil_iff.mp e f hf
            simpa using z2
        · rw [decide_eq_false e]
          refine ⟨_, rfl, iteT ?_⟩
          have e2 : pitB cs l = false := by
            cases q : pitB cs l with
            | false => rfl
            | true =>
              refine absurd (List.filter_eq_nil_iff.mpr fun f hf => ?_) e
              have := pitB_iff.mp q n (List.mem_of_getElem? hn) f hf
              simp [this]
          rw [e2] at k
          exact k _ s4
    · obtain ⟨s1, hall, v2, v3, rfl⟩ := pv
      rw [nis_len, List.take_of_length_le (Nat.le_refl _)] at hall
      have e2 : pitB cs l = true := pitB_iff.mpr hall
      rw [e2] at k
      exact k _ s1
abbrev s_mixed_lot : Stmt := topS 49
theorem sc_mixed_lot : FnScope ["_law_row", "_law_many", "_law_block"] ["_law_row", "_law_many"] (defScope s_mixed_lot) :=
  ⟨rfl, rfl, rfl, by decide +kernel, rfl, by decide +kernel, by decide +kernel⟩
theorem ok_mixed_lot {f f1 : Addr} {fd fd1 : FuncData} (F : Fun K "_law_mixed_lot" "_law_mixed_lot" s_mixed_lot f fd) (B : Bl mg)
    (D_taken : Df P w K mg base 1 "_law_taken" ["_law_row", "_law_many"] (spTaken K) f1 fd1) :
    FnOk P w K mg base CX0 2 f fd ["_law_row", "_law_many"] (spMixedLot K) := by
  refine F.ok sc_mixed_lot (fun vs H Q E h => ?_) (fun cdv A outer s H vs Q E hr h => ?_)
  · obtain ⟨r, a, ns, m, rfl, _⟩ := h
    rfl
  · obtain ⟨r, a0, ns, m, rfl, hrow, hm, k⟩ := h
    refine ⟨_, (pss_one (ps_ret (pe_callTy (k_tupOf (K := K) rfl) (by rfl) B.b_tuple (by decide +kernel) (pa_cons (pe_lc (own := [("_law_block", 2)]) (g := gName 2) rfl sc_mixed_lot.nd (pi_range1 (by rfl) B.b_range (pa_cons (pv 1) pa_nil)) (blkOk_by (N := ["_law_row", "_law_many", "_law_block"]) (sc := defScope s_mixed_lot) (by decide +kernel)) (fun _ _ _ _ _ => (pg_name (i := 2) sc_mixed_lot.nd rfl (Or.inl rfl))) (fun _ _ _ _ _ => (pts_one (pt_cmpR (k_eq (K := K) rfl (hu64 hr)) (pe_callD D_taken (hr.mono (by omega)) (pa_cons (pv 0) (pa_cons pe_int pa_nil))) pe_int (nomark _)))) (fun _ _ _ _ _ => (pv 2))) pa_nil)))), ?_⟩
    refine ⟨_, rfl, _, rfl, by omega, by omega, fun D hD => ?_⟩
    rw [Int.toNat_natCast]
    have nDr : D ≠ r := hrow.ne hD
    refine lc_it walk_rg (fun j H' => RowAt K H' r a0 ns ∧ Fx r H H' ∧ ∃ acc : List Nat, H' D = some (.lst (nis acc)) ∧ Lot j acc)
      ⟨hrow.same (same_new hD), same_fx r (same_new hD), [], upd_same, List.Pairwise.nil, fun (x : Nat) (h : x ∈ ([] : List Nat)) => absurd h List.not_mem_nil⟩ (fun _ _ _ _ => trivial) (fun j x H6 H7 hj pv y => ?_) (fun H6 pv => ?_)
    · obtain ⟨rfl, rfl⟩ := y
      obtain ⟨hrow7, fx7, acc, hD7, hacc⟩ := pv
      have l10 := hacc.len
      refine ⟨rfl, _, rfl, r, a0, ns, 2, rfl, hrow7, by omega, by omega, fun v8 H8 hv8 hrow8 fx8 => .inl ⟨rfl, _, rfl, ?_⟩⟩
      have hD8 : H8 D = some (.lst (nis acc)) := fx8 D _ nDr hD7
      refine ite2 (fun _ => ?_) (fun _ => ?_)
      · refine ⟨_, rfl, _, hD8, szl (by rw [nis_len]; omega), rowAt_beside hrow hD (fx7.trans fx8) hrow8, fx_beside hD (fx7.trans fx8), acc ++ [j], ?_, lot_snoc hacc⟩
        rw [upd_same, nis_app]
        rfl
      · exact ⟨hrow8, fx7.trans fx8, acc, hD8, lot_more hacc⟩
    · obtain ⟨hrow6, fx6, acc, hD6, hacc⟩ := pv
      refine ⟨D, _, rfl, .inl ⟨sqL hD6, fun t ht => ?_⟩⟩
      have hHt : H t = none := by
        cases q : H t with
        | none => rfl
        | some o =>
          have : t ≠ r := hrow6.ne ht
          have := fx6 t o this q
          rw [ht] at this
          cases this
      exact k t acc _ (hrow6.same (same_new ht)) (fx6.trans (same_fx r (same_new ht))) hHt ⟨upd_same, hacc⟩
abbrev s_law_worths : Stmt := topS 50
theorem sc_law_worths : FnScope ["_law_row", "_law_many", "_law_found", "_law_style", "_law_block", "_law_less", "_law_more"] ["_law_row", "_law_many"] (defScope s_law_worths) :=
  ⟨rfl, rfl, rfl, by decide +kernel, rfl, by decide +kernel, by decide +kernel⟩
def wTop (st : Nat) (more : Bool) : Nat := (if more = true then [3, 5, 9, 51, 4, 2] else [3, 5, 9, 51, 51, 2]).getD st 0
theorem wTop_ok (st : Nat) (h : st < 6) (more : Bool) : 1 ≤ wTop st more ∧ wTop st more ≤ 51 := by
  have : st = 0 ∨ st = 1 ∨ st = 2 ∨ st = 3 ∨ st = 4 ∨ st = 5 := by omega
  rcases this with rfl | rfl | rfl | rfl | rfl | rfl <;> cases more <;> decide
theorem ok_law_worths {f f1 : Addr} {fd fd1 : FuncData} (F : Fun K "_law_worths" "_law_worths" s_law_worths f fd) (B : Bl mg)
    (D_taken : Df P w K mg base 1 "_law_taken" ["_law_row", "_law_many"] (spTaken K) f1 fd1) :
    FnOk P w K mg base CX0 2 f fd ["_law_row", "_law_many"] (spWorths K) := by
  refine F.ok sc_law_worths (fun vs H Q E h => ?_) (fun cdv A outer s H vs Q E hr h => ?_)
  · obtain ⟨r, a, ns, m, rfl, _⟩ := h
    rfl
  · obtain ⟨r, a0, ns, m, rfl, hrow, hm, k⟩ := h
    refine ⟨_, (pss_cons (ps_par (i := 2) (j := 3) rfl sc_law_worths.nd rfl rfl (by decide) rfl rfl (pa_cons (pe_lst pa_nil) (pa_cons (pe_callD D_taken (hr.mono (by omega)) (pa_cons (pv 0) (pa_cons pe_int pa_nil))) pa_nil)) (by rfl))
      (pss_cons (ps_for PassesOwn.never rfl (pi_range1 (by rfl) B.b_range (pa_cons (pv 1) pa_nil)) (pg_name (i := 4) sc_law_worths.nd rfl (Or.inl rfl))
      (pss_cons (ps_par (i := 5) (j := 6) rfl sc_law_worths.nd rfl rfl (by decide) rfl rfl (pa_cons (pe_callD D_taken (hr.mono (by omega)) (pa_cons (pv 0) (pa_cons (pe_ix (k_ix (K := K) rfl) (pe_lst (pa_cons pe_int (pa_cons pe_int (pa_cons pe_int (pa_cons pe_int (pa_cons pe_int (pa_cons pe_int pa_nil))))))) (pv 3) (fun _ _ => rfl)) pa_nil))) (pa_cons (pe_callD D_taken (hr.mono (by omega)) (pa_cons (pv 0) (pa_cons (pe_ix (k_ix (K := K) rfl) (pe_lst (pa_cons pe_int (pa_cons pe_int (pa_cons pe_int (pa_cons pe_int (pa_cons pe_int (pa_cons pe_int pa_nil))))))) (pv 3) (fun _ _ => rfl)) pa_nil))) pa_nil)) (by rfl))
      (pss_one (ps_expr (pe_bm PySem.F.plainAttrs_list PySem.F.slot_list_append PySem.F.type_list_append mt_append (pv 2) (pa_cons (pe_op op_sub (pv 6) (pv 5)) pa_nil))))))
      (pss_one (ps_ret (pe_callTy (k_tupOf (K := K) rfl) (by rfl) B.b_tuple (by decide +kernel) (pa_cons (pv 2) pa_nil)))))), ?_⟩
    refine ⟨by decide, fun q hq => ?_⟩
    have nqr : q ≠ r := hrow.ne hq
    have hrow0 : RowAt K (upd H q (.lst [])) r a0 ns := hrow.same (same_new hq)
    refine ⟨_, rfl, r, a0, ns, 6, rfl, hrow0, by omega, by omega, fun st H1 hst hrow1 fx1 => ⟨_, _, rfl, ?_⟩⟩
    have fx01 : Fx r H H1 := (same_fx r (same_new hq)).trans fx1
    have hq1 : H1 q = some (.lst []) := fx1 q _ nqr upd_same
    refine ⟨_, rfl, _, rfl, by omega, by omega, ?_⟩
    rw [Int.toNat_natCast]
    refine for_it walk_rg (fun i σ H' => RowAt K H' r a0 ns ∧ Fx r H H' ∧ ∃ (ws : List Int) (v4 v5 v6 : Option V), σ = [some (.ref r), some (ni m), some (.ref q), some (ni st), v4, v5, v6] ∧ H' q = some (.lst (ws.map V.int)) ∧ WOk ws ∧ ws.length = i)
      ⟨hrow1, fx01, [], _, _, _, rfl, hq1, fun (x : Int) (h : x ∈ ([] : List Int)) => absurd h List.not_mem_nil, rfl⟩ (fun _ _ _ _ _ => trivial) (fun i x σ H2 H3 hi pv y => ?_) (fun σ H2 pv => ?_)
    · obtain ⟨rfl, rfl⟩ := y
      obtain ⟨hrow3, fx3, ws, v4, v5, v6, rfl, hq3, hWO, hwl⟩ := pv
      have t1 := wTop_ok st hst false
      have t2 := wTop_ok st hst true
      refine ⟨_, rfl, (show 6 ≤ sizeLine by decide), fun l1 hl1 => ⟨_, rfl, .inl ⟨l1, _, (st : Int), ni (wTop st false), rfl, rfl, sqL upd_same, atI_nat ?_, ?_⟩⟩⟩
      · have : st = 0 ∨ st = 1 ∨ st = 2 ∨ st = 3 ∨ st = 4 ∨ st = 5 := by omega
        rcases this with rfl | rfl | rfl | rfl | rfl | rfl <;> rfl
      have hrow4 : RowAt K (upd H3 l1 (.lst [.int 3, .int 5, .int 9, .int 51, .int 51, .int 2])) r a0 ns := hrow3.same (same_new hl1)
      refine ⟨r, a0, ns, wTop st false, rfl, hrow4, t1.1, by omega, fun x1 H4 hx1 hrow5 fx5 => ?_⟩
      refine ⟨_, rfl, (show 6 ≤ sizeLine by decide), fun l2 hl2 => ⟨_, rfl, .inl ⟨l2, _, (st : Int), ni (wTop st true), rfl, rfl, sqL upd_same, atI_nat ?_, ?_⟩⟩⟩
      · have : st = 0 ∨ st = 1 ∨ st = 2 ∨ st = 3 ∨ st = 4 ∨ st = 5 := by omega
        rcases this with rfl | rfl | rfl | rfl | rfl | rfl <;> rfl
      have hrow6 : RowAt K (upd H4 l2 (.lst [.int 3, .int 5, .int 9, .int 51, .int 4, .int 2])) r a0 ns := hrow5.same (same_new hl2)
      refine ⟨r, a0, ns, wTop st true, rfl, hrow6, t2.1, by omega, fun x2 H5 hx2 hrow7 fx7 => ⟨_, _, rfl, ?_⟩⟩
      have fx35 : Fx r H3 H5 := (((same_fx r (same_new hl1)).trans fx5).trans (same_fx r (same_new hl2))).trans fx7
      have hq5 : H5 q = some (.lst (ws.map V.int)) := fx35 q _ nqr hq3
      refine ⟨_, rfl, .inl ⟨rfl, _, .inl (.inl hq5)⟩, _, rfl, _, rfl, _, _, rfl, rfl, q, _, _, rfl, rfl, hq5, szl (by rw [List.length_map]; omega), ?_⟩
      refine ⟨rowAt_beside hrow hq (fx3.trans fx35) hrow7, fx_beside hq (fx3.trans fx35), ws ++ [(x2 : Int) - (x1 : Int)], _, _, _, rfl, ?_, fun x hx => ?_, ?_⟩
      · rw [upd_same, List.map_append]
        rfl
      · rcases List.mem_append.mp hx with z | z
        · exact hWO x z
        · rw [List.mem_singleton.mp z]
          omega
      · rw [List.length_append, hwl]
        rfl
    · obtain ⟨hrow2, fx2, ws, v4, v5, v6, rfl, hq2, hWO, hwl⟩ := pv
      refine ⟨_, rfl, q, _, rfl, .inl ⟨sqL hq2, fun t ht => ?_⟩⟩
      have hHt : H t = none := by
        cases z : H t with
        | none => rfl
        | some o =>
          have := fx2 t o (hrow2.ne ht) z
          rw [ht] at this
          cases this
      exact k t ws _ (hrow2.same (same_new ht)) (fx2.trans (same_fx r (same_new ht))) hHt upd_same hWO hwl
abbrev s_law_sum : Stmt := topS 51
theorem sc_law_sum : FnScope ["_law_worths_here", "_law_lot", "_law_block"] ["_law_worths_here", "_law_lot"] (defScope s_law_sum) :=
  ⟨rfl, rfl, rfl, by decide +kernel, rfl, by decide +kernel, by decide +kernel⟩
theorem ok_law_sum {f : Addr} {fd : FuncData} (F : Fun K "_law_sum" "_law_sum" s_law_sum f fd) (B : Bl mg) :
    FnOk P w K mg base CX0 1 f fd ["_law_worths_here", "_law_lot"] spLawSum := by
  refine F.ok sc_law_sum (fun vs H Q E h => ?_) (fun cdv A outer s H vs Q E hr h => ?_)
  · obtain ⟨a, b, ws, l, rfl, _⟩ := h
    rfl
  · obtain ⟨a, b, ws, l, rfl, hW, h10, hL, k⟩ := h
    refine ⟨_, (pss_one (ps_ret (pe_callB (k_sum (K := K) rfl rfl) (by rfl) B.b_sum (by decide +kernel) (pa_cons (pe_lc (own := [("_law_block", 2)]) (g := gName 2) (tt := tYes) rfl sc_law_sum.nd (pi_seq (pv 1)) (blkOk_by (N := ["_law_worths_here", "_law_lot", "_law_block"]) (sc := defScope s_law_sum) (by decide +kernel)) (fun _ _ _ _ _ => (pg_name (i := 2) sc_law_sum.nd rfl (Or.inl rfl))) (fun _ _ _ _ _ => pts_nil) (fun _ _ _ _ _ => (pe_ix (k_ix (K := K) rfl) (pv 0) (pv 2) (fun _ _ => rfl)))) pa_nil)))), ?_⟩
    refine .inr ⟨_, rfl, b, rfl, ⟨_, sqT hL.1⟩, fun D hD => ?_⟩
    refine lc_it (walk_tup (xs := nis l)) (fun i H' => Same H H' ∧ H' D = some (.lst (((l.take i).map fun b => ws.getD b 0).map V.int))) (same_start hD) (fun _ H' _ pv => sqT (pv.1 _ _ hL.1)) (fun i x H2 H3 hi pv y => ?_) (fun H2 pv => ?_)
    · obtain ⟨rfl, hx⟩ := y
      obtain ⟨n, hn, rfl⟩ := map_get hx
      have hnl := hL.2.2 n (List.mem_of_getElem? hn)
      refine ⟨rfl, yesT ⟨_, rfl, _, rfl, .inr (.inl ⟨a, _, (n : Int), _, rfl, rfl, sqT (pv.1 _ _ hW), atI_nat (w_at hnl), lc_push pv.1 hD pv.2 (szl ?_) ?_⟩)⟩⟩
      · rw [List.length_map, List.length_map, List.length_take]
        have := hL.2.len
        omega
      · rw [take_snoc hn, List.map_append, List.map_append]
        rfl
    · rw [nis_len, List.take_of_length_le (Nat.le_refl _)] at pv
      exact ⟨D, _, rfl, sqL pv.2, k H2 pv.1⟩
end
end K08

set_option Elab.async false
set_option linter.all false
set_option maxRecDepth 100000
set_option maxHeartbeats 4000000
namespace K08
open PySem PySem.Spec PyProof.Rows L2 Pit
section
variable {P : Program} {w : World} {K : PySem.W.Frag} {mg : Str → Option Value} {base : Heap}
abbrev s_pits : Stmt := topS 48
theorem sc_pits : FnScope ["_law_covers_here", "_law_lot"] ["_law_covers_here"] (defScope s_pits) :=
  ⟨rfl, rfl, rfl, by decide +kernel, rfl, by decide +kernel, by decide +kernel⟩
theorem ok_pits {f f1 f2 : Addr} {fd fd1 fd2 : FuncData} (F : Fun K "_law_pits" "_law_pits" s_pits f fd) (B : Bl mg)
    (D_lots : Df P w K mg base 1 "_law_lots" ["_law_many"] spLots2 f1 fd1) (D_law_is_pit : Df P w K mg base 1 "_law_is_pit" ["_law_covers_here", "_law_lot"] spLawPit f2 fd2) :
    FnOk P w K mg base CX0 2 f fd ["_law_covers_here"] spLawPits2 := by
  refine F.ok sc_pits (fun vs H Q E h => ?_) (fun cdv A outer s H vs Q E hr h => ?_)
  · obtain ⟨p, cs, rfl, _⟩ := h
    rfl
  · obtain ⟨p, cs, rfl, hC, hV, h8, k⟩ := h
    refine ⟨_, (pss_one (ps_ret (pe_lc (own := [("_law_lot", 1)]) (g := gName 1) rfl sc_pits.nd (pi_seq (pe_callD D_lots (hr.mono (by omega)) (pa_cons (pe_callB (k_len (K := K) rfl) (by rfl) B.b_len (by decide +kernel) (pa_cons (pv 0) pa_nil)) pa_nil))) (blkOk_by (N := ["_law_covers_here", "_law_lot"]) (sc := defScope s_pits) (by decide +kernel)) (fun _ _ _ _ _ => (pg_name (i := 1) sc_pits.nd rfl (Or.inl rfl))) (fun _ _ _ _ _ => (pts_one (pt_val (pe_callD D_law_is_pit (hr.mono (by omega)) (pa_cons (pv 0) (pa_cons (pv 1) pa_nil)))))) (fun _ _ _ _ _ => (pv 1))))), ?_⟩
    obtain ⟨xs, hp, hx, hget⟩ := hC.get
    refine .inl ⟨_, rfl, p, xs, rfl, .inr (sqT hp), ?_⟩
    rw [hx]
    refine ⟨cs.length, rfl, h8, fun q as ls H1 s1 hq hq1 hA hS hP => ⟨q, rfl, ⟨_, sqL hq1⟩, fun D hD => ?_⟩⟩
    have hlen : as.length ≤ 256 := by
      rw [hA.1, hP.length_eq, allL_len]
      exact Nat.pow_le_pow_right (by decide) h8
    refine lc_it (walk_list (xs := as.map V.ref)) (fun j H' => Same H1 H' ∧ H' D = some (.lst (((as.take j).filter fun a => pitB cs (lotAt H1 a)).map V.ref))) (same_start hD) (fun _ H' _ pv => sqL (pv.1 _ _ hq1)) (fun j x H2 H3 hj pv y => ?_) (fun H2 pv => ?_)
    · obtain ⟨rfl, hx2⟩ := y
      obtain ⟨a, ha, rfl⟩ := map_get hx2
      obtain ⟨l, hl0, e⟩ := hA.get ha
      have hl : Lot cs.length l := (allL_mem _ l).mp (hP.mem_iff.mp (List.mem_of_getElem? hl0))
      refine ⟨rfl, _, rfl, _, rfl, p, a, cs, l, rfl, hC.same (s1.trans pv.1), hV, by omega, ⟨pv.1 _ _ e, hl⟩, fun H4 s4 => ⟨_, rfl, ?_⟩⟩
      rw [take_snoc ha, List.filter_append]
      have el := lotAt_eq e
      cases q : pitB cs l with
      | false =>
        refine itF rfl ⟨pv.1.trans s4, ?_⟩
        rw [s4 _ _ pv.2, List.filter_cons, el, q]
        simp
      | true =>
        refine itT rfl ⟨_, rfl, lc_push (pv.1.trans s4) hD (s4 _ _ pv.2) (szl ?_) ?_⟩
        · have z := List.length_filter_le (fun a => pitB cs (lotAt H1 a)) (as.take j)
          rw [List.length_take] at z
          rw [List.length_map]
          omega
        · rw [List.filter_cons, el, q, List.map_append]
          rfl
    · obtain ⟨s2, hD2⟩ := pv
      rw [List.length_map, List.take_of_length_le (Nat.le_refl _)] at hD2
      have els : ls.filter (pitB cs) = (as.filter fun a => pitB cs (lotAt H1 a)).map (lotAt H1) := by
        rw [hA.eq_map, List.filter_map]
        rfl
      refine k D _ (ls.filter (pitB cs)) H2 (s1.trans s2) (Same.free s1 hD) hD2 ?_ ⟨hS.filter _, hP.filter _⟩
      rw [els]
      have := lotsAt_map (H := H1) (as := as.filter fun a => pitB cs (lotAt H1 a)) (f := lotAt H1) fun a ha => by
        obtain ⟨m, hm⟩ := List.getElem?_of_mem (List.mem_filter.mp ha).1
        obtain ⟨l, _, e⟩ := hA.get hm
        rw [lotAt_eq e]
        exact e
      exact this.same s2
abbrev s_order_key : Stmt := topS 12
theorem sc_order_key : FnScope ["lot"] ["lot"] (defScope s_order_key) :=
  ⟨rfl, rfl, rfl, by decide +kernel, rfl, by decide +kernel, by decide +kernel⟩
theorem ok_order_key {f : Addr} {fd : FuncData} (F : Fun K "order_key" "order_key" s_order_key f fd) (B : Bl mg) :
    FnOk P w K mg base CX0 1 f fd ["lot"] spOrderKey := by
  refine F.ok sc_order_key (fun vs H Q E h => ?_) (fun cdv A outer s H vs Q E hr h => ?_)
  · obtain ⟨a, l, rfl, _⟩ := h
    rfl
  · obtain ⟨a, l, rfl, hH, k⟩ := h
    refine ⟨_, (pss_one (ps_ret (pe_tup (pa_cons (pe_callB (k_len (K := K) rfl) (by rfl) B.b_len (by decide +kernel) (pa_cons (pv 0) pa_nil)) (pa_cons (pv 0) pa_nil))))), ?_⟩
    refine ⟨_, rfl, a, nis l, rfl, .inr (sqT hH), _, rfl, (show 2 ≤ sizeLine by decide), fun t ht => ?_⟩
    rw [nis_len]
    exact k t ht
abbrev s_in_order : Stmt := topS 11
theorem sc_in_order : FnScope ["lots"] ["lots"] (defScope s_in_order) :=
  ⟨rfl, rfl, rfl, by decide +kernel, rfl, by decide +kernel, by decide +kernel⟩
theorem ok_in_order {f f1 : Addr} {fd fd1 : FuncData} (F : Fun K "in_order" "in_order" s_in_order f fd) (B : Bl mg)
    (D_order_key : Df P w K mg base 1 "order_key" ["lot"] spOrderKey f1 fd1) :
    FnOk P w K mg base CX0 4 f fd ["lots"] spInOrder := by
  refine F.ok sc_in_order (fun vs H Q E h => ?_) (fun cdv A outer s H vs Q E hr h => ?_)
  · obtain ⟨a, as, ls, rfl, _⟩ := h
    rfl
  · obtain ⟨a, as, ls, rfl, hH, hA, k⟩ := h
    refine ⟨_, (pss_one (ps_ret (pe_callBK (cr_sortedK D_order_key.G (hr.mono (by omega)) D_order_key.b) (by rfl) B.b_sorted (by decide +kernel) (pa_cons (pv 0) pa_nil) (pk_cons (pe_glob (v := .ref _) (by rfl) D_order_key.g rfl) pk_nil)))), ?_⟩
    have tmem : ∀ t ∈ as, H t = some (.tup (nis (lotAt H t))) := fun t ht => by
      obtain ⟨m, hm⟩ := List.getElem?_of_mem ht
      obtain ⟨l, _, e⟩ := hA.get hm
      rw [lotAt_eq e]
      exact e
    refine ⟨_, rfl, a, as, lotAt H, rfl, rfl, sqL hH, tmem, fun ts' p H' hperm hord s1 hp hp1 => ?_⟩
    refine k p ts' (ts'.map (lotAt H)) H' s1 hp hp1 ((lotsAt_map fun t ht => tmem t (hperm.mem_iff.mp ht)).same s1) ?_ (List.pairwise_map.mpr (hord.imp fun {x y} z => leD_of z))
    rw [hA.eq_map]
    exact hperm.map _
end
end K08

set_option Elab.async false
set_option linter.all false
set_option maxRecDepth 100000
set_option maxHeartbeats 4000000
namespace K08
open PySem PySem.Spec PyProof.Rows L2 Pit
section
variable {P : Program} {w : World} {K : PySem.W.Frag} {mg : Str → Option Value} {base : Heap}
abbrev s_worth_of : Stmt := topS 36
theorem sc_worth_of : FnScope ["ground", "worths", "lot"] ["ground", "worths", "lot"] (defScope s_worth_of) :=
  ⟨rfl, rfl, rfl, by decide +kernel, rfl, by decide +kernel, by decide +kernel⟩
theorem ok_worth_of {f f1 f2 f3 f4 C : Addr} {fd fd1 fd2 fd3 fd4 : FuncData} (F : Fun K "worth_of" "worth_of" s_worth_of f fd)
    (D_check_worths : Df P w K mg base 4 "check_worths" ["ground", "worths"] (spCkWorths C) f1 fd1) (D_check_lot : Df P w K mg base 5 "check_lot" ["ground", "lot"] (spCkLot C) f2 fd2)
    (D_sum_of : Df P w K mg base 2 "sum_of" ["amounts", "mask"] spSumOf f3 fd3) (D_mask_of : Df P w K mg base 1 "mask_of" ["lot"] (spMaskOf K) f4 fd4) :
    FnOk P w K mg base CX0 6 f fd ["ground", "worths", "lot"] (spWorthOf C) := by
  refine F.ok sc_worth_of (fun vs H Q E h => ?_) (fun cdv A outer s H vs Q E hr h => ?_)
  · obtain ⟨g, p, a, b, cs, ws, l, rfl, _⟩ := h
    rfl
  · obtain ⟨g, p, a, b, cs, ws, l, rfl, hG, hW, hWO, hwl, hL, k⟩ := h
    refine ⟨_, (pss_cons (ps_expr (pe_callD D_check_worths (hr.mono (by omega)) (pa_cons (pv 0) (pa_cons (pv 1) pa_nil))))
      (pss_cons (ps_expr (pe_callD D_check_lot (hr.mono (by omega)) (pa_cons (pv 0) (pa_cons (pv 2) pa_nil))))
      (pss_one (ps_ret (pe_callD D_sum_of (hr.mono (by omega)) (pa_cons (pv 1) (pa_cons (pe_callD D_mask_of (hr.mono (by omega)) (pa_cons (pv 2) pa_nil)) pa_nil))))))), ?_⟩
    refine ⟨_, rfl, _, rfl, g, p, a, cs, ws, rfl, hG, hW, hWO, hwl, fun H1 s1 => ?_⟩
    refine ⟨_, rfl, _, rfl, g, p, b, cs, l, rfl, hG.same s1, hL.same s1, fun H2 s2 => ?_⟩
    have s12 := s1.trans s2
    have h10 := hG.2.2.2.2
    refine ⟨_, rfl, _, rfl, b, l, rfl, s12 _ _ hL.1, fun x hx => by have := hL.2.2 x hx; omega, ?_⟩
    refine ⟨a, ws, maskN l, rfl, s12 _ _ hW, by omega, by rw [hwl]; exact maskN_lt hL.2.2, fun H3 s3 => ?_⟩
    rw [bits_mask hL.2]
    exact k H3 (s12.trans s3)
abbrev s_best_worth : Stmt := topS 37
theorem sc_best_worth : FnScope ["ground", "worths"] ["ground", "worths"] (defScope s_best_worth) :=
  ⟨rfl, rfl, rfl, by decide +kernel, rfl, by decide +kernel, by decide +kernel⟩
theorem ok_best_worth {f f1 f2 C : Addr} {fd fd1 fd2 : FuncData} {tk : Tok} (F : Fun K "best_worth" "best_worth" s_best_worth f fd) (B : Bl mg) (T : Txt K mg C tk)
    (D_check_worths : Df P w K mg base 4 "check_worths" ["ground", "worths"] (spCkWorths C) f1 fd1) (D_pit_sums : Df P w K mg base 4 "pit_sums" ["covers", "amounts"] spPitSums f2 fd2) :
    FnOk P w K mg base CX0 5 f fd ["ground", "worths"] (spAsk C rWorth) := by
  refine F.ok sc_best_worth (fun vs H Q E h => ?_) (fun cdv A outer s H vs Q E hr h => ?_)
  · obtain ⟨g, p, a, cs, ws, rfl, _⟩ := h
    rfl
  · obtain ⟨g, p, a, cs, ws, rfl, hG, hW, hWO, hwl, k⟩ := h
    refine ⟨_, (pss_cons (ps_expr (pe_callD D_check_worths (hr.mono (by omega)) (pa_cons (pv 0) (pa_cons (pv 1) pa_nil))))
      (pss_one (ps_ret (pe_maxVals rfl (by rfl) B.b_max (pe_callD D_pit_sums (hr.mono (by omega)) (pa_cons (pe_fld (pv 0) rfl) (pa_cons (pv 1) pa_nil))))))), ?_⟩
    refine ⟨_, rfl, _, rfl, g, p, a, cs, ws, rfl, hG, hW, hWO, hwl, fun H1 s1 => ?_⟩
    obtain ⟨⟨dx, hg⟩, hC, hV, h1, h10⟩ := hG.same s1
    refine ⟨_, rfl, g, C, dx, flds p, _, rfl, hg, T.cl, T.nC, flds_lk p, _, rfl, p, a, cs, ws, rfl, hC, hV, h10, s1 _ _ hW, hwl, fun q ms H2 s2 _ hq hM => ?_⟩
    refine ⟨q, kvsOf ws ms, ms.map fun m => sumL ws (bitsN m), rfl, hq, ?_, fun e => ?_, fun M hMx hle => ?_⟩
    · unfold Pit.kvsOf
      rw [List.map_map, List.map_map]
      rfl
    · have h0 : maskN [] ∈ ms := hM.all _ (lot_nil _) (pit_nil cs)
      rw [List.map_eq_nil_iff.mp e] at h0
      exact absurd h0 List.not_mem_nil
    obtain ⟨m0, hm0, e0⟩ := List.mem_map.mp hMx
    refine k _ H2 (s1.trans s2) ⟨M, rfl, fun l hl => ?_⟩
    have a1 := hle _ (List.mem_map.mpr ⟨_, hM.all l hl.1 hl.2.1, rfl⟩)
    rw [bits_mask hl.1] at a1
    have a2 := hl.2.2 (bitsN m0) (lot_bits (hM.lt m0 hm0)) (hM.pit m0 hm0)
    have a3 : sumL ws (bitsN m0) = M := e0
    omega
abbrev s_all_best : Stmt := topS 38
theorem sc_all_best : FnScope ["ground", "worths", "pit"] ["ground", "worths"] (defScope s_all_best) :=
  ⟨rfl, rfl, rfl, by decide +kernel, rfl, by decide +kernel, by decide +kernel⟩
theorem ok_all_best {f f1 f2 f3 f4 C : Addr} {fd fd1 fd2 fd3 fd4 : FuncData} {tk : Tok} (F : Fun K "all_best" "all_best" s_all_best f fd) (T : Txt K mg C tk)
    (D_check_worths : Df P w K mg base 4 "check_worths" ["ground", "worths"] (spCkWorths C) f1 fd1) (D_in_order : Df P w K mg base 4 "in_order" ["lots"] spInOrder f2 fd2)
    (D_best_masks : Df P w K mg base 5 "best_masks" ["covers", "amounts"] spBestMs2 f3 fd3) (D_lot_of : Df P w K mg base 1 "lot_of" ["mask"] spLotOf f4 fd4) :
    FnOk P w K mg base CX0 6 f fd ["ground", "worths"] (spAsk C rAllBest) := by
  refine F.ok sc_all_best (fun vs H Q E h => ?_) (fun cdv A outer s H vs Q E hr h => ?_)
  · obtain ⟨g, p, a, cs, ws, rfl, _⟩ := h
    rfl
  · obtain ⟨g, p, a, cs, ws, rfl, hG, hW, hWO, hwl, k⟩ := h
    refine ⟨_, (pss_cons (ps_expr (pe_callD D_check_worths (hr.mono (by omega)) (pa_cons (pv 0) (pa_cons (pv 1) pa_nil))))
      (pss_one (ps_ret (pe_callD D_in_order (hr.mono (by omega)) (pa_cons (pe_lc (own := [("pit", 2)]) (g := gName 2) (tt := tYes) rfl sc_all_best.nd (pi_seq (pe_callD D_best_masks (hr.mono (by omega)) (pa_cons (pe_fld (pv 0) rfl) (pa_cons (pv 1) pa_nil)))) (blkOk_by (N := ["ground", "worths", "pit"]) (sc := defScope s_all_best) (by decide +kernel)) (fun _ _ _ _ _ => (pg_name (i := 2) sc_all_best.nd rfl (Or.inl rfl))) (fun _ _ _ _ _ => pts_nil) (fun _ _ _ _ _ => (pe_callD D_lot_of (hr.mono (by omega)) (pa_cons (pv 2) pa_nil)))) pa_nil))))), ?_⟩
    refine ⟨_, rfl, _, rfl, g, p, a, cs, ws, rfl, hG, hW, hWO, hwl, fun H0 s0 => ?_⟩
    obtain ⟨⟨dx, hg⟩, hC, hV, h1, h10⟩ := hG.same s0
    refine .inl ⟨_, rfl, g, C, dx, flds p, _, rfl, hg, T.cl, T.nC, flds_lk p, _, rfl, p, a, cs, ws, rfl, hC, hV, h10, s0 _ _ hW, hwl, fun q ms H1 s1 _ hq hM hlen => ⟨q, rfl, ⟨_, sqL hq⟩, fun D hD => ?_⟩⟩
    refine lc_it (walk_list (xs := nis ms)) (fun j H' => Same H1 H' ∧ ∃ bs : List Addr, H' D = some (.lst (bs.map V.ref)) ∧ LotsAt H' bs ((ms.take j).map bitsN))
      ⟨same_new hD, [], upd_same, rfl, fun m a l (e1 : ([] : List Addr)[m]? = some a) _ => by simp at e1⟩ (fun _ H' _ pv => sqL (pv.1 _ _ hq)) (fun j x H5 H6 hj pv y => ?_) (fun H5 pv => ?_)
    · obtain ⟨rfl, hx⟩ := y
      obtain ⟨m, hm, rfl⟩ := map_get hx
      obtain ⟨s6, bs, hD6, hB⟩ := pv
      have lbs : bs.length ≤ 1024 := by
        rw [hB.1, List.length_map, List.length_take]
        omega
      have hml := (hM.2.2.1 m (List.mem_of_getElem? hm)).1
      refine ⟨rfl, yesT ⟨_, rfl, m, rfl, Nat.lt_of_lt_of_le hml (Nat.pow_le_pow_right (by decide) (by omega)), fun t H7 s7 _ ht7 => ?_⟩⟩
      have hD7 := s7 _ _ hD6
      have ke : ∀ (b : Addr) (ys : List V), H7 b = some (.tup ys) → (upd H7 D (.lst (bs.map V.ref ++ [.ref t]))) b = some (.tup ys) := fun b ys e => by
        rw [upd_ne (ne_of e hD7 (by intro z; cases z))]
        exact e
      refine ⟨_, hD7, szl (by rw [List.length_map]; omega), same_upd (s6.trans s7) hD, bs ++ [t], ?_, ?_, ?_⟩
      · rw [upd_same, List.map_append]
        rfl
      · rw [take_snoc hm, List.map_append, List.length_append, List.length_append, hB.1]
        rfl
      · intro i b l e1 e2
        rw [take_snoc hm, List.map_append] at e2
        by_cases z : i < bs.length
        · rw [List.getElem?_append_left z] at e1
          rw [List.getElem?_append_left (by rw [← hB.1]; exact z)] at e2
          exact ke _ _ (s7 _ _ (hB.2 i b l e1 e2))
        · have zz := (List.getElem?_eq_some_iff.mp e1).1
          rw [List.length_append] at zz
          have zz2 : i < bs.length + 1 := zz
          rw [List.getElem?_append_right (by omega), show i - bs.length = 0 by omega] at e1
          rw [List.getElem?_append_right (by rw [← hB.1]; omega), ← hB.1, show i - bs.length = 0 by omega] at e2
          cases e1
          cases e2
          exact ke _ _ ht7
    · obtain ⟨s5, bs, hD5, hB⟩ := pv
      rw [nis_len, List.take_of_length_le (Nat.le_refl _)] at hB
      obtain ⟨nd, mem⟩ := best_lots hM
      refine ⟨D, bs, ms.map bitsN, rfl, hD5, hB, fun q2 as' ls' H7 s7 hq2 hq7 hA7 hperm hord => ?_⟩
      exact k _ H7 (s0.trans (s1.trans (s5.trans s7))) ⟨q2, as', ls', rfl, Same.free s0 (Same.free s1 (Same.free s5 hq2)), hq7, hA7, hord, hperm.nodup_iff.mpr nd, fun l => hperm.mem_iff.trans (mem l)⟩
abbrev s_least_best : Stmt := topS 39
theorem sc_least_best : FnScope ["ground", "worths"] ["ground", "worths"] (defScope s_least_best) :=
  ⟨rfl, rfl, rfl, by decide +kernel, rfl, by decide +kernel, by decide +kernel⟩
theorem ok_least_best {f f1 f2 f3 f4 C : Addr} {fd fd1 fd2 fd3 fd4 : FuncData} {tk : Tok} (F : Fun K "least_best" "least_best" s_least_best f fd) (T : Txt K mg C tk)
    (D_check_worths : Df P w K mg base 4 "check_worths" ["ground", "worths"] (spCkWorths C) f1 fd1) (D_common_mask : Df P w K mg base 1 "common_mask" ["masks"] (spCommon K) f2 fd2)
    (D_best_masks : Df P w K mg base 5 "best_masks" ["covers", "amounts"] spBestMs2 f3 fd3) (D_lot_of : Df P w K mg base 1 "lot_of" ["mask"] spLotOf f4 fd4) :
    FnOk P w K mg base CX0 6 f fd ["ground", "worths"] (spAsk C rLeastB) := by
  refine F.ok sc_least_best (fun vs H Q E h => ?_) (fun cdv A outer s H vs Q E hr h => ?_)
  · obtain ⟨g, p, a, cs, ws, rfl, _⟩ := h
    rfl
  · obtain ⟨g, p, a, cs, ws, rfl, hG, hW, hWO, hwl, k⟩ := h
    refine ⟨_, (pss_cons (ps_expr (pe_callD D_check_worths (hr.mono (by omega)) (pa_cons (pv 0) (pa_cons (pv 1) pa_nil))))
      (pss_one (ps_ret (pe_callD D_lot_of (hr.mono (by omega)) (pa_cons (pe_callD D_common_mask (hr.mono (by omega)) (pa_cons (pe_callD D_best_masks (hr.mono (by omega)) (pa_cons (pe_fld (pv 0) rfl) (pa_cons (pv 1) pa_nil))) pa_nil)) pa_nil))))), ?_⟩
    refine ⟨_, rfl, _, rfl, g, p, a, cs, ws, rfl, hG, hW, hWO, hwl, fun H0 s0 => ?_⟩
    obtain ⟨⟨dx, hg⟩, hC, hV, h1, h10⟩ := hG.same s0
    refine ⟨_, rfl, g, C, dx, flds p, _, rfl, hg, T.cl, T.nC, flds_lk p, _, rfl, p, a, cs, ws, rfl, hC, hV, h10, s0 _ _ hW, hwl, fun q bs H1 s1 _ hq hM hlen => ?_⟩
    have hc : commonN bs < 2 ^ cs.length := by
      cases bs with
      | nil => exact absurd rfl hM.1
      | cons x bs => exact (best_common (x :: bs) x (hM.2.2.1 x List.mem_cons_self) hM.2.2.1).1
    refine ⟨q, bs, rfl, sqL hq, hM.1, commonN bs, rfl, Nat.lt_of_lt_of_le hc (Nat.pow_le_pow_right (by decide) (by omega)), fun t H2 s2 ht ht2 => ?_⟩
    exact k _ H2 (s0.trans (s1.trans s2)) ⟨t, bs, rfl, Same.free s0 (Same.free s1 ht), ht2, hM⟩
abbrev s_greatest_best : Stmt := topS 40
theorem sc_greatest_best : FnScope ["ground", "worths"] ["ground", "worths"] (defScope s_greatest_best) :=
  ⟨rfl, rfl, rfl, by decide +kernel, rfl, by decide +kernel, by decide +kernel⟩
theorem ok_greatest_best {f f1 f2 f3 f4 C : Addr} {fd fd1 fd2 fd3 fd4 : FuncData} {tk : Tok} (F : Fun K "greatest_best" "greatest_best" s_greatest_best f fd) (T : Txt K mg C tk)
    (D_check_worths : Df P w K mg base 4 "check_worths" ["ground", "worths"] (spCkWorths C) f1 fd1) (D_joint_mask : Df P w K mg base 1 "joint_mask" ["masks"] (spJoint K) f2 fd2)
    (D_best_masks : Df P w K mg base 5 "best_masks" ["covers", "amounts"] spBestMs2 f3 fd3) (D_lot_of : Df P w K mg base 1 "lot_of" ["mask"] spLotOf f4 fd4) :
    FnOk P w K mg base CX0 6 f fd ["ground", "worths"] (spAsk C rGreatB) := by
  refine F.ok sc_greatest_best (fun vs H Q E h => ?_) (fun cdv A outer s H vs Q E hr h => ?_)
  · obtain ⟨g, p, a, cs, ws, rfl, _⟩ := h
    rfl
  · obtain ⟨g, p, a, cs, ws, rfl, hG, hW, hWO, hwl, k⟩ := h
    refine ⟨_, (pss_cons (ps_expr (pe_callD D_check_worths (hr.mono (by omega)) (pa_cons (pv 0) (pa_cons (pv 1) pa_nil))))
      (pss_one (ps_ret (pe_callD D_lot_of (hr.mono (by omega)) (pa_cons (pe_callD D_joint_mask (hr.mono (by omega)) (pa_cons (pe_callD D_best_masks (hr.mono (by omega)) (pa_cons (pe_fld (pv 0) rfl) (pa_cons (pv 1) pa_nil))) pa_nil)) pa_nil))))), ?_⟩
    refine ⟨_, rfl, _, rfl, g, p, a, cs, ws, rfl, hG, hW, hWO, hwl, fun H0 s0 => ?_⟩
    obtain ⟨⟨dx, hg⟩, hC, hV, h1, h10⟩ := hG.same s0
    refine ⟨_, rfl, g, C, dx, flds p, _, rfl, hg, T.cl, T.nC, flds_lk p, _, rfl, p, a, cs, ws, rfl, hC, hV, h10, s0 _ _ hW, hwl, fun q bs H1 s1 _ hq hM hlen => ?_⟩
    have hc : bs.foldl (fun a x => a ||| x) 0 < 2 ^ cs.length := by
      cases bs with
      | nil => exact absurd rfl hM.1
      | cons x bs =>
        rw [List.foldl_cons, Nat.zero_or]
        exact (best_joint bs x (hM.2.2.1 x List.mem_cons_self) fun y hy => hM.2.2.1 y (List.mem_cons_of_mem _ hy)).1
    refine ⟨q, bs, rfl, sqL hq, bs.foldl (fun a x => a ||| x) 0, rfl, Nat.lt_of_lt_of_le hc (Nat.pow_le_pow_right (by decide) (by omega)), fun t H2 s2 ht ht2 => ?_⟩
    exact k _ H2 (s0.trans (s1.trans s2)) ⟨t, bs, rfl, Same.free s0 (Same.free s1 ht), ht2, hM⟩
abbrev s_law_best : Stmt := topS 52
theorem sc_law_best : FnScope ["_law_covers_here", "_law_worths_here", "_law_some", "_law_most", "_law_pit"] ["_law_covers_here", "_law_worths_here"] (defScope s_law_best) :=
  ⟨rfl, rfl, rfl, by decide +kernel, rfl, by decide +kernel, by decide +kernel⟩
theorem ok_law_best {f f1 f2 : Addr} {fd fd1 fd2 : FuncData} (F : Fun K "_law_best" "_law_best" s_law_best f fd) (B : Bl mg)
    (D_pits : Df P w K mg base 2 "_law_pits" ["_law_covers_here"] spLawPits2 f1 fd1) (D_law_sum : Df P w K mg base 1 "_law_sum" ["_law_worths_here", "_law_lot"] spLawSum f2 fd2) :
    FnOk P w K mg base CX0 3 f fd ["_law_covers_here", "_law_worths_here"] spLawBest2 := by
  refine F.ok sc_law_best (fun vs H Q E h => ?_) (fun cdv A outer s H vs Q E hr h => ?_)
  · obtain ⟨p, a, cs, ws, rfl, _⟩ := h
    rfl
  · obtain ⟨p, a, cs, ws, rfl, hC, hV, h8, hW, hwl, k⟩ := h
    refine ⟨_, (pss_cons (ps_set (i := 2) sc_law_best.nd rfl (Or.inl rfl) (pe_callD D_pits (hr.mono (by omega)) (pa_cons (pv 0) pa_nil)))
      (pss_cons (ps_set (i := 3) sc_law_best.nd rfl (Or.inr rfl) (pe_callB (k_max (K := K) rfl rfl) (by rfl) B.b_max (by decide +kernel) (pa_cons (pe_lc (own := [("_law_pit", 4)]) (g := gName 4) (tt := tYes) rfl sc_law_best.nd (pi_seq (pv 2)) (blkOk_by (N := ["_law_covers_here", "_law_worths_here", "_law_some", "_law_most", "_law_pit"]) (sc := defScope s_law_best) (by decide +kernel)) (fun _ _ _ _ _ => (pg_name (i := 4) sc_law_best.nd rfl (Or.inl rfl))) (fun _ _ _ _ _ => pts_nil) (fun _ _ _ _ _ => (pe_callD D_law_sum (hr.mono (by omega)) (pa_cons (pv 1) (pa_cons (pv 4) pa_nil))))) pa_nil)))
      (pss_one (ps_ret (pe_lc (own := [("_law_pit", 4)]) (g := gName 4) rfl sc_law_best.nd (pi_seq (pv 2)) (blkOk_by (N := ["_law_covers_here", "_law_worths_here", "_law_some", "_law_most", "_law_pit"]) (sc := defScope s_law_best) (by decide +kernel)) (fun _ _ _ _ _ => (pg_name (i := 4) sc_law_best.nd rfl (Or.inl rfl))) (fun _ _ _ _ _ => (pts_one (pt_cmpR (k_eq (K := K) rfl (hu64 hr)) (pe_callD D_law_sum (hr.mono (by omega)) (pa_cons (pv 1) (pa_cons (pv 4) pa_nil))) (pv 3) (nomark _)))) (fun _ _ _ _ _ => (pv 4))))))), ?_⟩
    refine ⟨_, rfl, p, cs, rfl, hC, hV, h8, fun q as ls H1 s1 _ hq hA hP => ?_⟩
    obtain ⟨l1, l2⟩ := pitsIn_len hP
    have hlen : as.length ≤ 256 := by
      rw [hA.1]
      exact Nat.le_trans l2 (Nat.pow_le_pow_right (by decide) h8)
    have at1 : ∀ b ∈ as, H1 b = some (.tup (nis (lotAt H1 b))) ∧ lotAt H1 b ∈ ls := fun b hb => by
      obtain ⟨m, hm⟩ := List.getElem?_of_mem hb
      obtain ⟨l, hl, e⟩ := hA.get hm
      rw [lotAt_eq e]
      exact ⟨e, List.mem_of_getElem? hl⟩
    have of1 : ∀ l ∈ ls, ∃ b ∈ as, lotAt H1 b = l := fun l hl => by
      rw [hA.eq_map] at hl
      obtain ⟨b, hb, e⟩ := List.mem_map.mp hl
      exact ⟨b, hb, e⟩
    have hW1 : WAt H1 a ws := s1 _ _ hW
    refine .inl ⟨_, rfl, q, rfl, ⟨_, sqL hq⟩, fun D hD => ?_⟩
    refine lc_it (walk_list (xs := as.map V.ref)) (fun j H' => Same H1 H' ∧ H' D = some (.lst (((as.take j).map fun b => sumL ws (lotAt H1 b)).map V.int))) (same_start hD) (fun _ H' _ pv => sqL (pv.1 _ _ hq)) (fun j x H2 H3 hj pv y => ?_) (fun H2 pv => ?_)
    · obtain ⟨rfl, hx⟩ := y
      obtain ⟨b, hb, rfl⟩ := map_get hx
      obtain ⟨e, hin⟩ := at1 b (List.mem_of_getElem? hb)
      refine ⟨rfl, yesT ⟨_, rfl, _, rfl, a, b, ws, lotAt H1 b, rfl, pv.1 _ _ hW1, by omega, ?_, fun H4 s4 => lc_push (pv.1.trans s4) hD (s4 _ _ pv.2) (szl ?_) ?_⟩⟩
      · rw [hwl]
        exact ⟨pv.1 _ _ e, ((pitsIn_mem hP _).mp hin).1⟩
      · rw [List.length_map, List.length_map, List.length_take]
        omega
      · rw [take_snoc hb, List.map_append, List.map_append, List.map_singleton, List.map_singleton]
    · rw [List.length_map, List.take_of_length_le (Nat.le_refl _)] at pv
      obtain ⟨s2, hD2⟩ := pv
      refine ⟨D, _, rfl, sqL hD2, by rw [List.length_map, hA.1]; exact l1, fun M hM hle => ?_⟩
      obtain ⟨bm, hbm, eM⟩ := List.mem_map.mp hM
      have hq2 := s2 _ _ hq
      refine .inl ⟨_, rfl, q, rfl, ⟨_, sqL hq2⟩, fun D3 hD3 => ?_⟩
      refine lc_it (walk_list (xs := as.map V.ref)) (fun j H' => Same H2 H' ∧ H' D3 = some (.lst (((as.take j).filter fun b => decide (sumL ws (lotAt H1 b) = M)).map V.ref))) (same_start hD3) (fun _ H' _ pv => sqL (pv.1 _ _ hq2)) (fun j x H3 H4 hj pv y => ?_) (fun H3 pv => ?_)
      · obtain ⟨rfl, hx⟩ := y
        obtain ⟨b, hb, rfl⟩ := map_get hx
        obtain ⟨e0, hin⟩ := at1 b (List.mem_of_getElem? hb)
        have s13 := s2.trans pv.1
        refine ⟨rfl, _, rfl, _, rfl, a, b, ws, lotAt H1 b, rfl, s13 _ _ hW1, by omega, ?_, fun H5 s5 => ⟨_, rfl, .inl ⟨rfl, _, rfl, ?_⟩⟩⟩
        · rw [hwl]
          exact ⟨s13 _ _ e0, ((pitsIn_mem hP _).mp hin).1⟩
        have e : decide (V.int (sumL ws (lotAt H1 b)) = V.int M) = decide (sumL ws (lotAt H1 b) = M) := by
          by_cases z : sumL ws (lotAt H1 b) = M
          · rw [decide_eq_true z, decide_eq_true (by rw [z])]
          · rw [decide_eq_false z, decide_eq_false fun y => z (V.int.inj y)]
        rw [take_snoc hb, List.filter_append, List.filter_cons]
        cases z : decide (sumL ws (lotAt H1 b) = M) with
        | false =>
          refine itF (e.trans z) ⟨pv.1.trans s5, ?_⟩
          rw [s5 _ _ pv.2]
          simp
        | true =>
          refine itT (e.trans z) ⟨_, rfl, lc_push (pv.1.trans s5) hD3 (s5 _ _ pv.2) (szl ?_) ?_⟩
          · have y := List.length_filter_le (fun b => decide (sumL ws (lotAt H1 b) = M)) (as.take j)
            rw [List.length_take] at y
            rw [List.length_map]
            omega
          · rw [List.map_append]
            rfl
      · rw [List.length_map, List.take_of_length_le (Nat.le_refl _)] at pv
        obtain ⟨s3, hD33⟩ := pv
        have s13 := s2.trans s3
        have sumM : ∀ l, Lot cs.length l → PitL cs l → sumL ws l ≤ M := fun l hl hp => by
          obtain ⟨b, hb, e⟩ := of1 l ((pitsIn_mem hP l).mpr ⟨hl, hp⟩)
          have := hle _ (List.mem_map.mpr ⟨b, hb, rfl⟩)
          rw [e] at this
          exact this
        obtain ⟨lm1, lm2⟩ := (pitsIn_mem hP _).mp (at1 bm hbm).2
        have eM2 : sumL ws (lotAt H1 bm) = M := eM
        have els : ls.filter (fun l => decide (sumL ws l = M)) = (as.filter fun b => decide (sumL ws (lotAt H1 b) = M)).map (lotAt H1) := by
          rw [hA.eq_map, List.filter_map]
          rfl
        refine k D3 _ (ls.filter fun l => decide (sumL ws l = M)) H3 (s1.trans s13) (Same.free s1 (Same.free s2 hD3)) hD33 ?_ ⟨hP.1.filter _, ?_, fun l => ?_⟩
        · rw [els]
          exact (lotsAt_map (H := H1) (f := lotAt H1) fun b hb => (at1 b (List.mem_filter.mp hb).1).1).same s13
        · exact (hP.2.nodup_iff.mpr ((allL_nodup _).filter _)).filter _
        · rw [List.mem_filter, pitsIn_mem hP, decide_eq_true_iff]
          constructor
          · rintro ⟨⟨a1, a2⟩, a3⟩
            exact ⟨a1, a2, fun q hq hpq => by rw [a3]; exact sumM q hq hpq⟩
          · intro hl
            refine ⟨⟨hl.1, hl.2.1⟩, ?_⟩
            have h1 := sumM l hl.1 hl.2.1
            have h2 := hl.2.2 _ lm1 lm2
            omega
end
end K08

set_option Elab.async false
set_option linter.all false
set_option maxRecDepth 100000
set_option maxHeartbeats 4000000
namespace K08
open PySem PySem.Spec PyProof.Rows L2 Pit
section
variable {P : Program} {w : World} {K : PySem.W.Frag} {mg : Str → Option Value} {base : Heap}
def spLaw (K : PySem.W.Frag) : Sp := fun vs H Q _ => ∃ (a : Addr) (ns : List Int), vs = [.ref a] ∧ SqL K H a (ns.map V.int) ∧ ∀ H', Q (.bl true) H'
theorem alk_i {H : Hp} {i : Int} {n : Nat} : Alk K H n (.int i) (.int i) := by
  cases n with
  | zero => exact ⟨rfl, .inr (.inr (.inl ⟨_, rfl⟩))⟩
  | succ n => exact .inl ⟨rfl, .inr (.inr (.inl ⟨_, rfl⟩))⟩
theorem alk_pair {H : Hp} {a b : Addr} {x y u v : V} {n : Nat} (ha : H a = some (.lst [x, y])) (hb : H b = some (.lst [u, v])) (h1 : Alk K H n x u) (h2 : Alk K H n y v) : Alk K H (n + 1) (.ref a) (.ref b) := by
  refine .inr ⟨a, b, _, _, rfl, rfl, .inl ⟨ha, hb⟩, (show 2 ≤ 100000 by decide), rfl, fun i s t e1 e2 => ?_⟩
  match i, e1, e2 with
  | 0, e1, e2 => cases e1; cases e2; exact h1
  | 1, e1, e2 => cases e1; cases e2; exact h2
  | i + 2, e1, e2 => cases e1
theorem best_exists (cs : List (List Nat)) (ws : List Int) : ∃ l, BestL cs ws l := by
  have ne : (((allL cs.length).filter (pitB cs)).map fun l => sumL ws l) ≠ [] := fun e => by
    have := List.filter_eq_nil_iff.mp (List.map_eq_nil_iff.mp e) [] ((allL_mem _ _).mpr (lot_nil _))
    exact this (pitB_iff.mpr (pit_nil cs))
  obtain ⟨M, h1, h2⟩ := max_of ne
  obtain ⟨l, hl, rfl⟩ := List.mem_map.mp h1
  obtain ⟨a1, a2⟩ := List.mem_filter.mp hl
  exact ⟨l, (allL_mem _ l).mp a1, pitB_iff.mp a2, fun p hp hpp => h2 _ (List.mem_map.mpr ⟨p, List.mem_filter.mpr ⟨(allL_mem _ p).mpr hp, pitB_iff.mpr hpp⟩, rfl⟩)⟩
abbrev s_law : Stmt := topS 53
theorem sc_law : FnScope ["_law_script", "_law_row", "_law_covers_here", "_law_ground", "_law_many", "_law_turn", "_law_worths_here", "_law_due", "_law_lot"] ["_law_script"] (defScope s_law) :=
  ⟨rfl, rfl, rfl, by decide +kernel, rfl, by decide +kernel, by decide +kernel⟩
theorem ok_law {f f1 f2 f3 f4 f5 f6 f7 f8 f9 f10 f11 f12 C : Addr} {fd fd1 fd2 fd3 fd4 fd5 fd6 fd7 fd8 fd9 fd10 fd11 fd12 : FuncData} {tk : Tok} (F : Fun K "law" "law" s_law f fd) (B : Bl mg) (T : Txt K mg C tk)
    (D_covers : Df P w K mg base 2 "_law_covers" ["_law_row", "_law_most"] (spCovers K) f1 fd1) (D_Ground : Dc P w K mg base 5 "Ground" ["self", "covers"] (spGround C) C f2 fd2)
    (D_law_worths : Df P w K mg base 2 "_law_worths" ["_law_row", "_law_many"] (spWorths K) f3 fd3) (D_law_best : Df P w K mg base 3 "_law_best" ["_law_covers_here", "_law_worths_here"] spLawBest2 f4 fd4)
    (D_alike : Df P w K mg base 5 "_law_alike" ["_law_found", "_law_due"] (spAk K 4) f5 fd5) (D_best_worth : Df P w K mg base 5 "best_worth" ["ground", "worths"] (spAsk C rWorth) f6 fd6)
    (D_all_best : Df P w K mg base 6 "all_best" ["ground", "worths"] (spAsk C rAllBest) f7 fd7) (D_law_sum : Df P w K mg base 1 "_law_sum" ["_law_worths_here", "_law_lot"] spLawSum f8 fd8)
    (D_least_best : Df P w K mg base 6 "least_best" ["ground", "worths"] (spAsk C rLeastB) f9 fd9) (D_greatest_best : Df P w K mg base 6 "greatest_best" ["ground", "worths"] (spAsk C rGreatB) f10 fd10)
    (D_mixed_lot : Df P w K mg base 2 "_law_mixed_lot" ["_law_row", "_law_many"] (spMixedLot K) f11 fd11) (D_worth_of : Df P w K mg base 6 "worth_of" ["ground", "worths", "lot"] (spWorthOf C) f12 fd12) :
    FnOk P w K mg base CX0 7 f fd ["_law_script"] (spLaw K) := by
  refine F.ok sc_law (fun vs H Q E h => ?_) (fun cdv A outer s H vs Q E hr h => ?_)
  · obtain ⟨a, ns, rfl, _⟩ := h
    rfl
  · obtain ⟨a, ns, rfl, hS, k⟩ := h
    refine ⟨_, (pss_cons (ps_set (i := 1) sc_law.nd rfl (Or.inl rfl) (pe_lst (pa_cons (pv 0) (pa_cons pe_int (pa_cons pe_int (pa_cons pe_int pa_nil))))))
      (pss_cons (ps_set (i := 2) sc_law.nd rfl (Or.inl rfl) (pe_callD D_covers (hr.mono (by omega)) (pa_cons (pv 1) (pa_cons pe_int pa_nil))))
      (pss_cons (ps_par (i := 3) (j := 4) rfl sc_law.nd rfl rfl (by decide) rfl rfl (pa_cons (pe_makeD D_Ground (hr.mono (by omega)) (pa_cons (pv 2) pa_nil)) (pa_cons (pe_callB (k_len (K := K) rfl) (by rfl) B.b_len (by decide +kernel) (pa_cons (pv 2) pa_nil)) pa_nil)) (by rfl))
      (pss_cons (ps_for PassesOwn.never rfl (pi_range1 (by rfl) B.b_range (pa_cons pe_int pa_nil)) (pg_name (i := 5) sc_law.nd rfl (Or.inl rfl))
      (pss_cons (ps_set (i := 6) sc_law.nd rfl (Or.inl rfl) (pe_callD D_law_worths (hr.mono (by omega)) (pa_cons (pv 1) (pa_cons (pv 4) pa_nil))))
      (pss_cons (ps_set (i := 7) sc_law.nd rfl (Or.inl rfl) (pe_callD D_law_best (hr.mono (by omega)) (pa_cons (pv 2) (pa_cons (pv 6) pa_nil))))
      (pss_cons (ps_if (pt_not (pt_val (pe_callD D_alike (hr.mono (by omega)) (pa_cons (pe_lst (pa_cons (pe_callD D_best_worth (hr.mono (by omega)) (pa_cons (pv 3) (pa_cons (pv 6) pa_nil))) (pa_cons (pe_callD D_all_best (hr.mono (by omega)) (pa_cons (pv 3) (pa_cons (pv 6) pa_nil))) pa_nil))) (pa_cons (pe_lst (pa_cons (pe_callD D_law_sum (hr.mono (by omega)) (pa_cons (pv 6) (pa_cons (pe_ix (k_ix (K := K) rfl) (pv 7) pe_int (fun _ _ => rfl)) pa_nil))) (pa_cons (pv 7) pa_nil))) pa_nil))))) (pss_one (ps_ret pe_bl)) pss_nil)
      (pss_cons (ps_if (pt_not (pt_val (pe_callD D_alike (hr.mono (by omega)) (pa_cons (pe_lst (pa_cons (pe_callD D_least_best (hr.mono (by omega)) (pa_cons (pv 3) (pa_cons (pv 6) pa_nil))) (pa_cons (pe_callD D_greatest_best (hr.mono (by omega)) (pa_cons (pv 3) (pa_cons (pv 6) pa_nil))) pa_nil))) (pa_cons (pe_lst (pa_cons (pe_ix (k_ix (K := K) rfl) (pv 7) pe_int (fun _ _ => rfl)) (pa_cons (pe_ix (k_ix (K := K) rfl) (pv 7) (pe_op op_sub (pe_callB (k_len (K := K) rfl) (by rfl) B.b_len (by decide +kernel) (pa_cons (pv 7) pa_nil)) pe_int) (fun _ _ => rfl)) pa_nil))) pa_nil))))) (pss_one (ps_ret pe_bl)) pss_nil)
      (pss_cons (ps_set (i := 8) sc_law.nd rfl (Or.inl rfl) (pe_callD D_mixed_lot (hr.mono (by omega)) (pa_cons (pv 1) (pa_cons (pv 4) pa_nil))))
      (pss_one (ps_if (pt_not (pt_val (pe_callD D_alike (hr.mono (by omega)) (pa_cons (pe_callD D_worth_of (hr.mono (by omega)) (pa_cons (pv 3) (pa_cons (pv 6) (pa_cons (pv 8) pa_nil)))) (pa_cons (pe_callD D_law_sum (hr.mono (by omega)) (pa_cons (pv 6) (pa_cons (pv 8) pa_nil))) pa_nil))))) (pss_one (ps_ret pe_bl)) pss_nil))))))))
      (pss_one (ps_ret pe_bl)))))), ?_⟩
    refine ⟨_, rfl, (show 4 ≤ sizeLine by decide), fun r hr0 => ?_⟩
    have hrow : RowAt K (upd H r (.lst [.ref a, .int 0, .int 1508, .int 0])) r a ns := rowAt_upd (by decide) hS (sqL_new hS hr0)
    refine ⟨_, rfl, r, a, ns, 8, rfl, hrow, by omega, by omega, fun p cs H1 hrow1 fx1 hC hV h1 h8 => ?_⟩
    obtain ⟨xs, hp, hx, hget⟩ := hC.get
    refine ⟨_, rfl, fun g dx hg hdx hne => ?_⟩
    have s1 : Same H1 (upd (upd H1 dx (.own g)) g (.ins C dx [])) := same_upd (same_new hdx) hg
    refine ⟨g, dx, p, cs, rfl, upd_same, hC.same s1, hV, h1, by omega, fun H2 keep hG => ⟨rfl, ?_⟩⟩
    have s2 : Same H1 H2 := fun b o e => keep b o (ne_of_none e hg) (s1 b o e)
    have hC2 : CovAt H2 p cs := hC.same s2
    have hp2 : H2 p = some (.tup xs) := s2 _ _ hp
    have hrow2 : RowAt K H2 r a ns := hrow1.same s2
    obtain ⟨rs, hr2⟩ := hrow2.lst
    refine ⟨_, rfl, p, xs, rfl, .inr (sqT hp2), _, _, rfl, ?_⟩
    rw [hx]
    refine ⟨_, rfl, by decide, by decide, ?_⟩
    refine for_it walk_rg (fun i σ H' => RowAt K H' r a ns ∧ Fx r H2 H' ∧ ∃ v5 v6 v7 v8 : Option V, σ = [some (.ref a), some (.ref r), some (.ref p), some (.ref g), some (ni cs.length), v5, v6, v7, v8])
      ⟨hrow2, Fx.refl _ _, _, _, _, _, rfl⟩ (fun _ _ _ _ _ => trivial) (fun i x σ H3 H4 hi pv y => ?_) (fun σ H3 pv => k _)
    obtain ⟨rfl, rfl⟩ := y
    obtain ⟨hrow4, fx4, v5, v6, v7, v8, rfl⟩ := pv
    refine ⟨_, rfl, _, rfl, r, a, ns, cs.length, rfl, hrow4, by omega, fun wq ws H5 hrow5 fx5 _ hW hWO hwl => ?_⟩
    have fx25 := fx4.trans fx5
    have hC5 := hC2.fx hr2 fx25
    have hG5 : GrAt C H5 g p cs := hG.fx hr2 fx25
    refine ⟨_, rfl, _, rfl, p, wq, cs, ws, rfl, hC5, hV, h8, hW, hwl, fun q as ls H6 s6 _ hq hA hB => ?_⟩
    have hl := bests_len hB
    have hpow : 2 ^ cs.length ≤ 256 := Nat.pow_le_pow_right (by decide) h8
    have hsml : ∀ l ∈ ls, l.length ≤ 100000 := fun l hl => by
      have := ((hB.2.2 l).mp hl).1.len
      omega
    have hG6 := hG5.same s6
    have hW6 : WAt H6 wq ws := s6 _ _ hW
    -- the best worth, and all best pits
    refine ⟨_, rfl, _, rfl, g, p, wq, cs, ws, rfl, hG6, hW6, hWO, hwl, fun v H7 s7 hR7 => ?_⟩
    obtain ⟨M, rfl, hM⟩ := hR7
    refine ⟨_, rfl, _, rfl, g, p, wq, cs, ws, rfl, hG6.same s7, s7 _ _ hW6, hWO, hwl, fun v H8 s8 hR8 => ?_⟩
    obtain ⟨q2, as2, ls2, rfl, _, hq2, hA2, hB2⟩ := hR8
    have els := bests_one hB2 hB
    subst els
    have s68 := s7.trans s8
    -- there is a first and a last one
    have hne := best_exists cs ws
    obtain ⟨l9, hl9⟩ := hne
    have pos : 0 < as.length := by
      rw [hA.1]
      exact List.length_pos_iff.mpr fun e => by
        have := (hB.2.2 l9).mpr hl9
        rw [e] at this
        exact absurd this List.not_mem_nil
    have a0 : as[0]? = some as[0] := List.getElem?_eq_getElem pos
    obtain ⟨l0, hl0, hal0⟩ := hA.get a0
    have hb0 := (hB.2.2 l0).mp (List.mem_of_getElem? hl0)
    have ix0 : atI (as.map V.ref) ((0 : Nat) : Int) = some (V.ref as[0]) := atI_nat (by rw [List.getElem?_map, a0]; rfl)
    refine ⟨(show 2 ≤ sizeLine by decide), fun t1 ht1 => ?_⟩
    have s9 : Same H8 (upd H8 t1 (.lst [.int M, .ref q2])) := same_new ht1
    have ht19 : (upd H8 t1 (.lst [.int M, .ref q2])) t1 = some (.lst [.int M, .ref q2]) := upd_same
    generalize (upd H8 t1 (.lst [V.int M, V.ref q2])) = H9 at s9 ht19 ⊢
    have s69 := s68.trans s9
    refine ⟨_, rfl, _, rfl, .inl ⟨q, as.map V.ref, 0, .ref as[0], rfl, rfl, sqL (s69 _ _ hq), ix0, ?_⟩⟩
    refine ⟨wq, as[0], ws, l0, rfl, s69 _ _ hW6, by omega, ⟨s69 _ _ hal0, by rw [hwl]; exact hb0.1⟩, fun H10 s10 => ?_⟩
    refine ⟨_, rfl, (show 2 ≤ sizeLine by decide), fun t2 ht2 => ?_⟩
    rw [hM l0 hb0]
    have s11 : Same H10 (upd H10 t2 (.lst [.int M, .ref q])) := same_new ht2
    have hq11 := s11 _ _ (s10 _ _ (s69 _ _ hq))
    have hq211 := s11 _ _ (s10 _ _ (s9 _ _ hq2))
    have hA11 := hA.same (s69.trans (s10.trans s11))
    have hA211 := hA2.same (s9.trans (s10.trans s11))
    refine ⟨_, _, rfl, alk_pair (s11 _ _ (s10 _ _ ht19)) upd_same alk_i (alk_lots hq211 hq11 hA211 hA11 (by omega) hsml), fun H12 s12 => ⟨_, rfl, iteF ?_⟩⟩
    have s612 := s69.trans (s10.trans (s11.trans s12))
    have hG12 := hG6.same s612
    have hW12 := s612 _ _ hW6
    have hq12 := s612 _ _ hq
    have hA12 := hA.same s612
    -- the least and the greatest
    refine ⟨_, rfl, _, rfl, g, p, wq, cs, ws, rfl, hG12, hW12, hWO, hwl, fun v H13 s13 hR13 => ?_⟩
    obtain ⟨tl, bs, rfl, _, htl, hbs⟩ := hR13
    refine ⟨_, rfl, _, rfl, g, p, wq, cs, ws, rfl, hG12.same s13, s13 _ _ hW12, hWO, hwl, fun v H14 s14 hR14 => ?_⟩
    obtain ⟨tg, bs2, rfl, _, htg, hbs2⟩ := hR14
    obtain ⟨r1, e1⟩ := first_best hB hbs
    obtain ⟨r2, e2⟩ := last_best hB hbs2
    have lenr : as.length = r2.length + 1 := by
      rw [hA.1, e2, List.length_append]
      rfl
    have al : as[r2.length]? = some as[r2.length] := List.getElem?_eq_getElem (by omega)
    obtain ⟨ll, hll, hall⟩ := hA.get al
    have ell : ll = bitsN (bs2.foldl (fun a x => a ||| x) 0) := by
      rw [e2, List.getElem?_append_right (Nat.le_refl _), Nat.sub_self] at hll
      exact (Option.some.inj hll).symm
    have el0 : l0 = bitsN (commonN bs) := by
      rw [e1] at hl0
      exact (Option.some.inj hl0).symm
    refine ⟨(show 2 ≤ sizeLine by decide), fun t3 ht3 => ?_⟩
    have s15 : Same H14 (upd H14 t3 (.lst [.ref tl, .ref tg])) := same_new ht3
    have ht315 : (upd H14 t3 (.lst [.ref tl, .ref tg])) t3 = some (.lst [.ref tl, .ref tg]) := upd_same
    generalize (upd H14 t3 (.lst [V.ref tl, V.ref tg])) = H15 at s15 ht315 ⊢
    have s1215 := s13.trans (s14.trans s15)
    have hq15 := s1215 _ _ hq12
    refine ⟨_, rfl, .inl ⟨q, as.map V.ref, 0, .ref as[0], rfl, rfl, sqL hq15, ix0, ?_⟩⟩
    refine ⟨_, rfl, _, rfl, q, _, rfl, .inl (sqL hq15), _, 1, rfl, rfl, .inl ⟨q, as.map V.ref, (r2.length : Int), .ref as[r2.length], rfl, ?_, sqL hq15, atI_nat (by rw [List.getElem?_map, al]; rfl), ?_⟩⟩
    · rw [List.length_map, lenr]
      show V.int (((r2.length + 1 : Nat) : Int) - 1) = _
      rw [show ((r2.length + 1 : Nat) : Int) - 1 = (r2.length : Int) by omega]
    refine ⟨(show 2 ≤ sizeLine by decide), fun t4 ht4 => ?_⟩
    have s16 : Same H15 (upd H15 t4 (.lst [.ref as[0], .ref as[r2.length]])) := same_new ht4
    have s616 := s612.trans (s1215.trans s16)
    have b0 : (upd H15 t4 (.lst [.ref as[0], .ref as[r2.length]])) as[0] = some (.tup (nis l0)) := s616 _ _ hal0
    have bl : (upd H15 t4 (.lst [.ref as[0], .ref as[r2.length]])) as[r2.length] = some (.tup (nis ll)) := s616 _ _ hall
    have c0 : (upd H15 t4 (.lst [.ref as[0], .ref as[r2.length]])) tl = some (.tup (nis l0)) := by
      rw [el0]
      exact s16 _ _ (s15 _ _ (s14 _ _ htl))
    have cl : (upd H15 t4 (.lst [.ref as[0], .ref as[r2.length]])) tg = some (.tup (nis ll)) := by
      rw [ell]
      exact s16 _ _ (s15 _ _ htg)
    refine ⟨_, _, rfl, alk_pair (s16 _ _ ht315) upd_same (alk_nis c0 b0 (hsml l0 (List.mem_of_getElem? hl0))) (alk_nis cl bl (hsml ll (List.mem_of_getElem? hll))), fun H17 s17 => ⟨_, rfl, iteF ?_⟩⟩
    have s617 := s616.trans s17
    have hrow17 : RowAt K H17 r a ns := (hrow5.same s6).same s617
    have fx17 : Fx r H2 H17 := fx25.trans (same_fx r (s6.trans s617))
    have hwr : H17 wq = some (.tup (ws.map V.int)) := s617 _ _ hW6
    obtain ⟨rs17, hr17⟩ := hrow17.lst
    -- what a lot is worth
    refine ⟨_, rfl, _, rfl, r, a, ns, cs.length, rfl, hrow17, by omega, fun ql l H18 hrow18 fx18 _ hL => ?_⟩
    have hG18 : GrAt C H18 g p cs := (hG6.same s617).fx hr17 fx18
    have hW18 : WAt H18 wq ws := tup_fx hwr hr17 fx18
    refine ⟨_, rfl, _, rfl, _, rfl, g, p, wq, ql, cs, ws, l, rfl, hG18, hW18, hWO, hwl, hL, fun H19 s19 => ?_⟩
    refine ⟨_, rfl, _, rfl, wq, ql, ws, l, rfl, s19 _ _ hW18, by omega, by rw [hwl]; exact hL.same s19, fun H20 s20 => ?_⟩
    refine ⟨_, _, rfl, alk_i, fun H21 s21 => ⟨_, rfl, iteF ?_⟩⟩
    have s1821 := s19.trans (s20.trans s21)
    exact ⟨hrow18.same s1821, (fx17.trans fx18).trans (same_fx r s1821), _, _, _, _, rfl⟩
end
end K08

set_option Elab.async false
set_option linter.all false
set_option maxRecDepth 100000
set_option maxHeartbeats 4000000
namespace K08
open PySem PySem.Spec PyProof.Rows L2 Pit
theorem all_mk {l : PySem.W.OpenLaw} {w : World} {K : PySem.W.Frag} {h : Heap} {mg : Str → Option Value} {fa C : Addr} {tk : Tok} (X : K.In h) (G : h.Ns mainGlobals mg) (hfa : mg "law" = some (.ref fa))
    (aC : PySem.W.nsIn K mainGlobals "Ground" = some (some (.ref C)))
    (aM : PySem.W.nsIn K mainGlobals "MOST_BLOCKS" = some (some (.int 10 tk)))
    (pg : PySem.W.plainGet K C Str.empty = true) (hd : PySem.W.hasDictIn K C = true) (po : PySem.W.plainOver K C = true)
    (sa : PySem.W.findIn K (.ref C) "__setattr__" = some (some (.builtin "object.__setattr__"))) (mk : PySem.W.makesIn K C = true) (kc : PySem.W.keepIn K (.ref C) = true)
    (nC : PySem.W.findIn K (.ref C) "covers" = some none)
    (ha : PySem.W.findIn K (.ref C) "__class__" = some (some (.builtin "object.__class__")))
    (hn : PySem.W.specialIn K (.builtin "object.__class__") "__get__" = some (some (.builtin "getset_descriptor.__get__")))
    (htk : PySem.W.takesIn K (.builtin "object.__class__") = some true) (hm : PySem.W.mroIn K C (.type "object") = some true)
    {tk_GREATEST_WORTH : Tok} (aK_GREATEST_WORTH : PySem.W.nsIn K mainGlobals "GREATEST_WORTH" = some (some (.int 50 tk_GREATEST_WORTH)))
    {f_mask_of : Addr} {od_mask_of an_mask_of : Option Addr} {sl_mask_of : Array (Option Value)} {oc_mask_of kV_mask_of dc_mask_of pm_mask_of cd_mask_of ct_mask_of : Value}
    (a_mask_of : PySem.W.nsIn K mainGlobals "mask_of" = some (some (.ref f_mask_of)))
    (l_mask_of : K.lookup f_mask_of = some ⟨oc_mask_of, od_mask_of, .func (PySem.W.fnOf "mask_of" "mask_of" (defArgs s_mask_of) (defBody s_mask_of) (defScope s_mask_of) .none kV_mask_of dc_mask_of pm_mask_of an_mask_of cd_mask_of ct_mask_of), sl_mask_of⟩)
    (c_mask_of : PySem.W.codeIn K cd_mask_of "mask_of" = true) (k_mask_of : PySem.W.keepIn K (.ref f_mask_of) = true)
    {f_lot_of : Addr} {od_lot_of an_lot_of : Option Addr} {sl_lot_of : Array (Option Value)} {oc_lot_of kV_lot_of dc_lot_of pm_lot_of cd_lot_of ct_lot_of : Value}
    (a_lot_of : PySem.W.nsIn K mainGlobals "lot_of" = some (some (.ref f_lot_of)))
    (l_lot_of : K.lookup f_lot_of = some ⟨oc_lot_of, od_lot_of, .func (PySem.W.fnOf "lot_of" "lot_of" (defArgs s_lot_of) (defBody s_lot_of) (defScope s_lot_of) .none kV_lot_of dc_lot_of pm_lot_of an_lot_of cd_lot_of ct_lot_of), sl_lot_of⟩)
    (c_lot_of : PySem.W.codeIn K cd_lot_of "lot_of" = true) (k_lot_of : PySem.W.keepIn K (.ref f_lot_of) = true)
    {f_first_masks : Addr} {od_first_masks an_first_masks : Option Addr} {sl_first_masks : Array (Option Value)} {oc_first_masks kV_first_masks dc_first_masks pm_first_masks cd_first_masks ct_first_masks : Value}
    (a_first_masks : PySem.W.nsIn K mainGlobals "first_masks" = some (some (.ref f_first_masks)))
    (l_first_masks : K.lookup f_first_masks = some ⟨oc_first_masks, od_first_masks, .func (PySem.W.fnOf "first_masks" "first_masks" (defArgs s_first_masks) (defBody s_first_masks) (defScope s_first_masks) .none kV_first_masks dc_first_masks pm_first_masks an_first_masks cd_first_masks ct_first_masks), sl_first_masks⟩)
    (c_first_masks : PySem.W.codeIn K cd_first_masks "first_masks" = true) (k_first_masks : PySem.W.keepIn K (.ref f_first_masks) = true)
    {f_pit_masks : Addr} {od_pit_masks an_pit_masks : Option Addr} {sl_pit_masks : Array (Option Value)} {oc_pit_masks kV_pit_masks dc_pit_masks pm_pit_masks cd_pit_masks ct_pit_masks : Value}
    (a_pit_masks : PySem.W.nsIn K mainGlobals "pit_masks" = some (some (.ref f_pit_masks)))
    (l_pit_masks : K.lookup f_pit_masks = some ⟨oc_pit_masks, od_pit_masks, .func (PySem.W.fnOf "pit_masks" "pit_masks" (defArgs s_pit_masks) (defBody s_pit_masks) (defScope s_pit_masks) .none kV_pit_masks dc_pit_masks pm_pit_masks an_pit_masks cd_pit_masks ct_pit_masks), sl_pit_masks⟩)
    (c_pit_masks : PySem.W.codeIn K cd_pit_masks "pit_masks" = true) (k_pit_masks : PySem.W.keepIn K (.ref f_pit_masks) = true)
    {f_order_key : Addr} {od_order_key an_order_key : Option Addr} {sl_order_key : Array (Option Value)} {oc_order_key kV_order_key dc_order_key pm_order_key cd_order_key ct_order_key : Value}
    (a_order_key : PySem.W.nsIn K mainGlobals "order_key" = some (some (.ref f_order_key)))
    (l_order_key : K.lookup f_order_key = some ⟨oc_order_key, od_order_key, .func (PySem.W.fnOf "order_key" "order_key" (defArgs s_order_key) (defBody s_order_key) (defScope s_order_key) .none kV_order_key dc_order_key pm_order_key an_order_key cd_order_key ct_order_key), sl_order_key⟩)
    (c_order_key : PySem.W.codeIn K cd_order_key "order_key" = true) (k_order_key : PySem.W.keepIn K (.ref f_order_key) = true)
    {f_in_order : Addr} {od_in_order an_in_order : Option Addr} {sl_in_order : Array (Option Value)} {oc_in_order kV_in_order dc_in_order pm_in_order cd_in_order ct_in_order : Value}
    (a_in_order : PySem.W.nsIn K mainGlobals "in_order" = some (some (.ref f_in_order)))
    (l_in_order : K.lookup f_in_order = some ⟨oc_in_order, od_in_order, .func (PySem.W.fnOf "in_order" "in_order" (defArgs s_in_order) (defBody s_in_order) (defScope s_in_order) .none kV_in_order dc_in_order pm_in_order an_in_order cd_in_order ct_in_order), sl_in_order⟩)
    (c_in_order : PySem.W.codeIn K cd_in_order "in_order" = true) (k_in_order : PySem.W.keepIn K (.ref f_in_order) = true)
    {f_sum_of : Addr} {od_sum_of an_sum_of : Option Addr} {sl_sum_of : Array (Option Value)} {oc_sum_of kV_sum_of dc_sum_of pm_sum_of cd_sum_of ct_sum_of : Value}
    (a_sum_of : PySem.W.nsIn K mainGlobals "sum_of" = some (some (.ref f_sum_of)))
    (l_sum_of : K.lookup f_sum_of = some ⟨oc_sum_of, od_sum_of, .func (PySem.W.fnOf "sum_of" "sum_of" (defArgs s_sum_of) (defBody s_sum_of) (defScope s_sum_of) .none kV_sum_of dc_sum_of pm_sum_of an_sum_of cd_sum_of ct_sum_of), sl_sum_of⟩)
    (c_sum_of : PySem.W.codeIn K cd_sum_of "sum_of" = true) (k_sum_of : PySem.W.keepIn K (.ref f_sum_of) = true)
    {f_pit_sums : Addr} {od_pit_sums an_pit_sums : Option Addr} {sl_pit_sums : Array (Option Value)} {oc_pit_sums kV_pit_sums dc_pit_sums pm_pit_sums cd_pit_sums ct_pit_sums : Value}
    (a_pit_sums : PySem.W.nsIn K mainGlobals "pit_sums" = some (some (.ref f_pit_sums)))
    (l_pit_sums : K.lookup f_pit_sums = some ⟨oc_pit_sums, od_pit_sums, .func (PySem.W.fnOf "pit_sums" "pit_sums" (defArgs s_pit_sums) (defBody s_pit_sums) (defScope s_pit_sums) .none kV_pit_sums dc_pit_sums pm_pit_sums an_pit_sums cd_pit_sums ct_pit_sums), sl_pit_sums⟩)
    (c_pit_sums : PySem.W.codeIn K cd_pit_sums "pit_sums" = true) (k_pit_sums : PySem.W.keepIn K (.ref f_pit_sums) = true)
    {f_best_masks : Addr} {od_best_masks an_best_masks : Option Addr} {sl_best_masks : Array (Option Value)} {oc_best_masks kV_best_masks dc_best_masks pm_best_masks cd_best_masks ct_best_masks : Value}
    (a_best_masks : PySem.W.nsIn K mainGlobals "best_masks" = some (some (.ref f_best_masks)))
    (l_best_masks : K.lookup f_best_masks = some ⟨oc_best_masks, od_best_masks, .func (PySem.W.fnOf "best_masks" "best_masks" (defArgs s_best_masks) (defBody s_best_masks) (defScope s_best_masks) .none kV_best_masks dc_best_masks pm_best_masks an_best_masks cd_best_masks ct_best_masks), sl_best_masks⟩)
    (c_best_masks : PySem.W.codeIn K cd_best_masks "best_masks" = true) (k_best_masks : PySem.W.keepIn K (.ref f_best_masks) = true)
    {f_common_mask : Addr} {od_common_mask an_common_mask : Option Addr} {sl_common_mask : Array (Option Value)} {oc_common_mask kV_common_mask dc_common_mask pm_common_mask cd_common_mask ct_common_mask : Value}
    (a_common_mask : PySem.W.nsIn K mainGlobals "common_mask" = some (some (.ref f_common_mask)))
    (l_common_mask : K.lookup f_common_mask = some ⟨oc_common_mask, od_common_mask, .func (PySem.W.fnOf "common_mask" "common_mask" (defArgs s_common_mask) (defBody s_common_mask) (defScope s_common_mask) .none kV_common_mask dc_common_mask pm_common_mask an_common_mask cd_common_mask ct_common_mask), sl_common_mask⟩)
    (c_common_mask : PySem.W.codeIn K cd_common_mask "common_mask" = true) (k_common_mask : PySem.W.keepIn K (.ref f_common_mask) = true)
    {f_joint_mask : Addr} {od_joint_mask an_joint_mask : Option Addr} {sl_joint_mask : Array (Option Value)} {oc_joint_mask kV_joint_mask dc_joint_mask pm_joint_mask cd_joint_mask ct_joint_mask : Value}
    (a_joint_mask : PySem.W.nsIn K mainGlobals "joint_mask" = some (some (.ref f_joint_mask)))
    (l_joint_mask : K.lookup f_joint_mask = some ⟨oc_joint_mask, od_joint_mask, .func (PySem.W.fnOf "joint_mask" "joint_mask" (defArgs s_joint_mask) (defBody s_joint_mask) (defScope s_joint_mask) .none kV_joint_mask dc_joint_mask pm_joint_mask an_joint_mask cd_joint_mask ct_joint_mask), sl_joint_mask⟩)
    (c_joint_mask : PySem.W.codeIn K cd_joint_mask "joint_mask" = true) (k_joint_mask : PySem.W.keepIn K (.ref f_joint_mask) = true)
    {f_is_whole : Addr} {od_is_whole an_is_whole : Option Addr} {sl_is_whole : Array (Option Value)} {oc_is_whole kV_is_whole dc_is_whole pm_is_whole cd_is_whole ct_is_whole : Value}
    (a_is_whole : PySem.W.nsIn K mainGlobals "is_whole" = some (some (.ref f_is_whole)))
    (l_is_whole : K.lookup f_is_whole = some ⟨oc_is_whole, od_is_whole, .func (PySem.W.fnOf "is_whole" "is_whole" (defArgs s_is_whole) (defBody s_is_whole) (defScope s_is_whole) .none kV_is_whole dc_is_whole pm_is_whole an_is_whole cd_is_whole ct_is_whole), sl_is_whole⟩)
    (c_is_whole : PySem.W.codeIn K cd_is_whole "is_whole" = true) (k_is_whole : PySem.W.keepIn K (.ref f_is_whole) = true)
    {f_is_between : Addr} {od_is_between an_is_between : Option Addr} {sl_is_between : Array (Option Value)} {oc_is_between kV_is_between dc_is_between pm_is_between cd_is_between ct_is_between : Value}
    (a_is_between : PySem.W.nsIn K mainGlobals "is_between" = some (some (.ref f_is_between)))
    (l_is_between : K.lookup f_is_between = some ⟨oc_is_between, od_is_between, .func (PySem.W.fnOf "is_between" "is_between" (defArgs s_is_between) (defBody s_is_between) (defScope s_is_between) .none kV_is_between dc_is_between pm_is_between an_is_between cd_is_between ct_is_between), sl_is_between⟩)
    (c_is_between : PySem.W.codeIn K cd_is_between "is_between" = true) (k_is_between : PySem.W.keepIn K (.ref f_is_between) = true)
    {f_is_tuple_of : Addr} {od_is_tuple_of an_is_tuple_of : Option Addr} {sl_is_tuple_of : Array (Option Value)} {oc_is_tuple_of kV_is_tuple_of dc_is_tuple_of pm_is_tuple_of cd_is_tuple_of ct_is_tuple_of : Value}
    (a_is_tuple_of : PySem.W.nsIn K mainGlobals "is_tuple_of" = some (some (.ref f_is_tuple_of)))
    (l_is_tuple_of : K.lookup f_is_tuple_of = some ⟨oc_is_tuple_of, od_is_tuple_of, .func (PySem.W.fnOf "is_tuple_of" "is_tuple_of" (defArgs s_is_tuple_of) (defBody s_is_tuple_of) (defScope s_is_tuple_of) .none kV_is_tuple_of dc_is_tuple_of pm_is_tuple_of an_is_tuple_of cd_is_tuple_of ct_is_tuple_of), sl_is_tuple_of⟩)
    (c_is_tuple_of : PySem.W.codeIn K cd_is_tuple_of "is_tuple_of" = true) (k_is_tuple_of : PySem.W.keepIn K (.ref f_is_tuple_of) = true)
    {f_are_between : Addr} {od_are_between an_are_between : Option Addr} {sl_are_between : Array (Option Value)} {oc_are_between kV_are_between dc_are_between pm_are_between cd_are_between ct_are_between : Value}
    (a_are_between : PySem.W.nsIn K mainGlobals "are_between" = some (some (.ref f_are_between)))
    (l_are_between : K.lookup f_are_between = some ⟨oc_are_between, od_are_between, .func (PySem.W.fnOf "are_between" "are_between" (defArgs s_are_between) (defBody s_are_between) (defScope s_are_between) .none kV_are_between dc_are_between pm_are_between an_are_between cd_are_between ct_are_between), sl_are_between⟩)
    (c_are_between : PySem.W.codeIn K cd_are_between "are_between" = true) (k_are_between : PySem.W.keepIn K (.ref f_are_between) = true)
    {f_is_rising : Addr} {od_is_rising an_is_rising : Option Addr} {sl_is_rising : Array (Option Value)} {oc_is_rising kV_is_rising dc_is_rising pm_is_rising cd_is_rising ct_is_rising : Value}
    (a_is_rising : PySem.W.nsIn K mainGlobals "is_rising" = some (some (.ref f_is_rising)))
    (l_is_rising : K.lookup f_is_rising = some ⟨oc_is_rising, od_is_rising, .func (PySem.W.fnOf "is_rising" "is_rising" (defArgs s_is_rising) (defBody s_is_rising) (defScope s_is_rising) .none kV_is_rising dc_is_rising pm_is_rising an_is_rising cd_is_rising ct_is_rising), sl_is_rising⟩)
    (c_is_rising : PySem.W.codeIn K cd_is_rising "is_rising" = true) (k_is_rising : PySem.W.keepIn K (.ref f_is_rising) = true)
    {f_is_lot_below : Addr} {od_is_lot_below an_is_lot_below : Option Addr} {sl_is_lot_below : Array (Option Value)} {oc_is_lot_below kV_is_lot_below dc_is_lot_below pm_is_lot_below cd_is_lot_below ct_is_lot_below : Value}
    (a_is_lot_below : PySem.W.nsIn K mainGlobals "is_lot_below" = some (some (.ref f_is_lot_below)))
    (l_is_lot_below : K.lookup f_is_lot_below = some ⟨oc_is_lot_below, od_is_lot_below, .func (PySem.W.fnOf "is_lot_below" "is_lot_below" (defArgs s_is_lot_below) (defBody s_is_lot_below) (defScope s_is_lot_below) .none kV_is_lot_below dc_is_lot_below pm_is_lot_below an_is_lot_below cd_is_lot_below ct_is_lot_below), sl_is_lot_below⟩)
    (c_is_lot_below : PySem.W.codeIn K cd_is_lot_below "is_lot_below" = true) (k_is_lot_below : PySem.W.keepIn K (.ref f_is_lot_below) = true)
    {f_check_covers : Addr} {od_check_covers an_check_covers : Option Addr} {sl_check_covers : Array (Option Value)} {oc_check_covers kV_check_covers dc_check_covers pm_check_covers cd_check_covers ct_check_covers : Value}
    (a_check_covers : PySem.W.nsIn K mainGlobals "check_covers" = some (some (.ref f_check_covers)))
    (l_check_covers : K.lookup f_check_covers = some ⟨oc_check_covers, od_check_covers, .func (PySem.W.fnOf "check_covers" "check_covers" (defArgs s_check_covers) (defBody s_check_covers) (defScope s_check_covers) .none kV_check_covers dc_check_covers pm_check_covers an_check_covers cd_check_covers ct_check_covers), sl_check_covers⟩)
    (c_check_covers : PySem.W.codeIn K cd_check_covers "check_covers" = true) (k_check_covers : PySem.W.keepIn K (.ref f_check_covers) = true)
    {f_Ground_init : Addr} {od_Ground_init an_Ground_init : Option Addr} {sl_Ground_init : Array (Option Value)} {oc_Ground_init kV_Ground_init dc_Ground_init pm_Ground_init cd_Ground_init ct_Ground_init : Value}
    (a_Ground_init : PySem.W.findIn K (.ref C) "__init__" = some (some (.ref f_Ground_init)))
    (l_Ground_init : K.lookup f_Ground_init = some ⟨oc_Ground_init, od_Ground_init, .func (PySem.W.fnOf "__init__" "Ground.__init__" (defArgs s_Ground_init) (defBody s_Ground_init) (defScope s_Ground_init) .none kV_Ground_init dc_Ground_init pm_Ground_init an_Ground_init cd_Ground_init ct_Ground_init), sl_Ground_init⟩)
    (c_Ground_init : PySem.W.codeIn K cd_Ground_init "Ground.__init__" = true) (k_Ground_init : PySem.W.keepIn K (.ref f_Ground_init) = true)
    (i_Ground_init : PySem.W.isFn K (.ref f_Ground_init) = true)
    {f_check_ground : Addr} {od_check_ground an_check_ground : Option Addr} {sl_check_ground : Array (Option Value)} {oc_check_ground kV_check_ground dc_check_ground pm_check_ground cd_check_ground ct_check_ground : Value}
    (a_check_ground : PySem.W.nsIn K mainGlobals "check_ground" = some (some (.ref f_check_ground)))
    (l_check_ground : K.lookup f_check_ground = some ⟨oc_check_ground, od_check_ground, .func (PySem.W.fnOf "check_ground" "check_ground" (defArgs s_check_ground) (defBody s_check_ground) (defScope s_check_ground) .none kV_check_ground dc_check_ground pm_check_ground an_check_ground cd_check_ground ct_check_ground), sl_check_ground⟩)
    (c_check_ground : PySem.W.codeIn K cd_check_ground "check_ground" = true) (k_check_ground : PySem.W.keepIn K (.ref f_check_ground) = true)
    {f_is_lot : Addr} {od_is_lot an_is_lot : Option Addr} {sl_is_lot : Array (Option Value)} {oc_is_lot kV_is_lot dc_is_lot pm_is_lot cd_is_lot ct_is_lot : Value}
    (a_is_lot : PySem.W.nsIn K mainGlobals "is_lot" = some (some (.ref f_is_lot)))
    (l_is_lot : K.lookup f_is_lot = some ⟨oc_is_lot, od_is_lot, .func (PySem.W.fnOf "is_lot" "is_lot" (defArgs s_is_lot) (defBody s_is_lot) (defScope s_is_lot) .none kV_is_lot dc_is_lot pm_is_lot an_is_lot cd_is_lot ct_is_lot), sl_is_lot⟩)
    (c_is_lot : PySem.W.codeIn K cd_is_lot "is_lot" = true) (k_is_lot : PySem.W.keepIn K (.ref f_is_lot) = true)
    {f_check_lot : Addr} {od_check_lot an_check_lot : Option Addr} {sl_check_lot : Array (Option Value)} {oc_check_lot kV_check_lot dc_check_lot pm_check_lot cd_check_lot ct_check_lot : Value}
    (a_check_lot : PySem.W.nsIn K mainGlobals "check_lot" = some (some (.ref f_check_lot)))
    (l_check_lot : K.lookup f_check_lot = some ⟨oc_check_lot, od_check_lot, .func (PySem.W.fnOf "check_lot" "check_lot" (defArgs s_check_lot) (defBody s_check_lot) (defScope s_check_lot) .none kV_check_lot dc_check_lot pm_check_lot an_check_lot cd_check_lot ct_check_lot), sl_check_lot⟩)
    (c_check_lot : PySem.W.codeIn K cd_check_lot "check_lot" = true) (k_check_lot : PySem.W.keepIn K (.ref f_check_lot) = true)
    {f_check_worths : Addr} {od_check_worths an_check_worths : Option Addr} {sl_check_worths : Array (Option Value)} {oc_check_worths kV_check_worths dc_check_worths pm_check_worths cd_check_worths ct_check_worths : Value}
    (a_check_worths : PySem.W.nsIn K mainGlobals "check_worths" = some (some (.ref f_check_worths)))
    (l_check_worths : K.lookup f_check_worths = some ⟨oc_check_worths, od_check_worths, .func (PySem.W.fnOf "check_worths" "check_worths" (defArgs s_check_worths) (defBody s_check_worths) (defScope s_check_worths) .none kV_check_worths dc_check_worths pm_check_worths an_check_worths cd_check_worths ct_check_worths), sl_check_worths⟩)
    (c_check_worths : PySem.W.codeIn K cd_check_worths "check_worths" = true) (k_check_worths : PySem.W.keepIn K (.ref f_check_worths) = true)
    {f_worth_of : Addr} {od_worth_of an_worth_of : Option Addr} {sl_worth_of : Array (Option Value)} {oc_worth_of kV_worth_of dc_worth_of pm_worth_of cd_worth_of ct_worth_of : Value}
    (a_worth_of : PySem.W.nsIn K mainGlobals "worth_of" = some (some (.ref f_worth_of)))
    (l_worth_of : K.lookup f_worth_of = some ⟨oc_worth_of, od_worth_of, .func (PySem.W.fnOf "worth_of" "worth_of" (defArgs s_worth_of) (defBody s_worth_of) (defScope s_worth_of) .none kV_worth_of dc_worth_of pm_worth_of an_worth_of cd_worth_of ct_worth_of), sl_worth_of⟩)
    (c_worth_of : PySem.W.codeIn K cd_worth_of "worth_of" = true) (k_worth_of : PySem.W.keepIn K (.ref f_worth_of) = true)
    {f_best_worth : Addr} {od_best_worth an_best_worth : Option Addr} {sl_best_worth : Array (Option Value)} {oc_best_worth kV_best_worth dc_best_worth pm_best_worth cd_best_worth ct_best_worth : Value}
    (a_best_worth : PySem.W.nsIn K mainGlobals "best_worth" = some (some (.ref f_best_worth)))
    (l_best_worth : K.lookup f_best_worth = some ⟨oc_best_worth, od_best_worth, .func (PySem.W.fnOf "best_worth" "best_worth" (defArgs s_best_worth) (defBody s_best_worth) (defScope s_best_worth) .none kV_best_worth dc_best_worth pm_best_worth an_best_worth cd_best_worth ct_best_worth), sl_best_worth⟩)
    (c_best_worth : PySem.W.codeIn K cd_best_worth "best_worth" = true) (k_best_worth : PySem.W.keepIn K (.ref f_best_worth) = true)
    {f_all_best : Addr} {od_all_best an_all_best : Option Addr} {sl_all_best : Array (Option Value)} {oc_all_best kV_all_best dc_all_best pm_all_best cd_all_best ct_all_best : Value}
    (a_all_best : PySem.W.nsIn K mainGlobals "all_best" = some (some (.ref f_all_best)))
    (l_all_best : K.lookup f_all_best = some ⟨oc_all_best, od_all_best, .func (PySem.W.fnOf "all_best" "all_best" (defArgs s_all_best) (defBody s_all_best) (defScope s_all_best) .none kV_all_best dc_all_best pm_all_best an_all_best cd_all_best ct_all_best), sl_all_best⟩)
    (c_all_best : PySem.W.codeIn K cd_all_best "all_best" = true) (k_all_best : PySem.W.keepIn K (.ref f_all_best) = true)
    {f_least_best : Addr} {od_least_best an_least_best : Option Addr} {sl_least_best : Array (Option Value)} {oc_least_best kV_least_best dc_least_best pm_least_best cd_least_best ct_least_best : Value}
    (a_least_best : PySem.W.nsIn K mainGlobals "least_best" = some (some (.ref f_least_best)))
    (l_least_best : K.lookup f_least_best = some ⟨oc_least_best, od_least_best, .func (PySem.W.fnOf "least_best" "least_best" (defArgs s_least_best) (defBody s_least_best) (defScope s_least_best) .none kV_least_best dc_least_best pm_least_best an_least_best cd_least_best ct_least_best), sl_least_best⟩)
    (c_least_best : PySem.W.codeIn K cd_least_best "least_best" = true) (k_least_best : PySem.W.keepIn K (.ref f_least_best) = true)
    {f_greatest_best : Addr} {od_greatest_best an_greatest_best : Option Addr} {sl_greatest_best : Array (Option Value)} {oc_greatest_best kV_greatest_best dc_greatest_best pm_greatest_best cd_greatest_best ct_greatest_best : Value}
    (a_greatest_best : PySem.W.nsIn K mainGlobals "greatest_best" = some (some (.ref f_greatest_best)))
    (l_greatest_best : K.lookup f_greatest_best = some ⟨oc_greatest_best, od_greatest_best, .func (PySem.W.fnOf "greatest_best" "greatest_best" (defArgs s_greatest_best) (defBody s_greatest_best) (defScope s_greatest_best) .none kV_greatest_best dc_greatest_best pm_greatest_best an_greatest_best cd_greatest_best ct_greatest_best), sl_greatest_best⟩)
    (c_greatest_best : PySem.W.codeIn K cd_greatest_best "greatest_best" = true) (k_greatest_best : PySem.W.keepIn K (.ref f_greatest_best) = true)
    {f_taken : Addr} {od_taken an_taken : Option Addr} {sl_taken : Array (Option Value)} {oc_taken kV_taken dc_taken pm_taken cd_taken ct_taken : Value}
    (a_taken : PySem.W.nsIn K mainGlobals "_law_taken" = some (some (.ref f_taken)))
    (l_taken : K.lookup f_taken = some ⟨oc_taken, od_taken, .func (PySem.W.fnOf "_law_taken" "_law_taken" (defArgs s_taken) (defBody s_taken) (defScope s_taken) .none kV_taken dc_taken pm_taken an_taken cd_taken ct_taken), sl_taken⟩)
    (c_taken : PySem.W.codeIn K cd_taken "_law_taken" = true) (k_taken : PySem.W.keepIn K (.ref f_taken) = true)
    {f_alike : Addr} {od_alike an_alike : Option Addr} {sl_alike : Array (Option Value)} {oc_alike kV_alike dc_alike pm_alike cd_alike ct_alike : Value}
    (a_alike : PySem.W.nsIn K mainGlobals "_law_alike" = some (some (.ref f_alike)))
    (l_alike : K.lookup f_alike = some ⟨oc_alike, od_alike, .func (PySem.W.fnOf "_law_alike" "_law_alike" (defArgs s_alike) (defBody s_alike) (defScope s_alike) .none kV_alike dc_alike pm_alike an_alike cd_alike ct_alike), sl_alike⟩)
    (c_alike : PySem.W.codeIn K cd_alike "_law_alike" = true) (k_alike : PySem.W.keepIn K (.ref f_alike) = true)
    {f_covers : Addr} {od_covers an_covers : Option Addr} {sl_covers : Array (Option Value)} {oc_covers kV_covers dc_covers pm_covers cd_covers ct_covers : Value}
    (a_covers : PySem.W.nsIn K mainGlobals "_law_covers" = some (some (.ref f_covers)))
    (l_covers : K.lookup f_covers = some ⟨oc_covers, od_covers, .func (PySem.W.fnOf "_law_covers" "_law_covers" (defArgs s_covers) (defBody s_covers) (defScope s_covers) .none kV_covers dc_covers pm_covers an_covers cd_covers ct_covers), sl_covers⟩)
    (c_covers : PySem.W.codeIn K cd_covers "_law_covers" = true) (k_covers : PySem.W.keepIn K (.ref f_covers) = true)
    {f_lots : Addr} {od_lots an_lots : Option Addr} {sl_lots : Array (Option Value)} {oc_lots kV_lots dc_lots pm_lots cd_lots ct_lots : Value}
    (a_lots : PySem.W.nsIn K mainGlobals "_law_lots" = some (some (.ref f_lots)))
    (l_lots : K.lookup f_lots = some ⟨oc_lots, od_lots, .func (PySem.W.fnOf "_law_lots" "_law_lots" (defArgs s_lots) (defBody s_lots) (defScope s_lots) .none kV_lots dc_lots pm_lots an_lots cd_lots ct_lots), sl_lots⟩)
    (c_lots : PySem.W.codeIn K cd_lots "_law_lots" = true) (k_lots : PySem.W.keepIn K (.ref f_lots) = true)
    {f_law_is_pit : Addr} {od_law_is_pit an_law_is_pit : Option Addr} {sl_law_is_pit : Array (Option Value)} {oc_law_is_pit kV_law_is_pit dc_law_is_pit pm_law_is_pit cd_law_is_pit ct_law_is_pit : Value}
    (a_law_is_pit : PySem.W.nsIn K mainGlobals "_law_is_pit" = some (some (.ref f_law_is_pit)))
    (l_law_is_pit : K.lookup f_law_is_pit = some ⟨oc_law_is_pit, od_law_is_pit, .func (PySem.W.fnOf "_law_is_pit" "_law_is_pit" (defArgs s_law_is_pit) (defBody s_law_is_pit) (defScope s_law_is_pit) .none kV_law_is_pit dc_law_is_pit pm_law_is_pit an_law_is_pit cd_law_is_pit ct_law_is_pit), sl_law_is_pit⟩)
    (c_law_is_pit : PySem.W.codeIn K cd_law_is_pit "_law_is_pit" = true) (k_law_is_pit : PySem.W.keepIn K (.ref f_law_is_pit) = true)
    {f_pits : Addr} {od_pits an_pits : Option Addr} {sl_pits : Array (Option Value)} {oc_pits kV_pits dc_pits pm_pits cd_pits ct_pits : Value}
    (a_pits : PySem.W.nsIn K mainGlobals "_law_pits" = some (some (.ref f_pits)))
    (l_pits : K.lookup f_pits = some ⟨oc_pits, od_pits, .func (PySem.W.fnOf "_law_pits" "_law_pits" (defArgs s_pits) (defBody s_pits) (defScope s_pits) .none kV_pits dc_pits pm_pits an_pits cd_pits ct_pits), sl_pits⟩)
    (c_pits : PySem.W.codeIn K cd_pits "_law_pits" = true) (k_pits : PySem.W.keepIn K (.ref f_pits) = true)
    {f_mixed_lot : Addr} {od_mixed_lot an_mixed_lot : Option Addr} {sl_mixed_lot : Array (Option Value)} {oc_mixed_lot kV_mixed_lot dc_mixed_lot pm_mixed_lot cd_mixed_lot ct_mixed_lot : Value}
    (a_mixed_lot : PySem.W.nsIn K mainGlobals "_law_mixed_lot" = some (some (.ref f_mixed_lot)))
    (l_mixed_lot : K.lookup f_mixed_lot = some ⟨oc_mixed_lot, od_mixed_lot, .func (PySem.W.fnOf "_law_mixed_lot" "_law_mixed_lot" (defArgs s_mixed_lot) (defBody s_mixed_lot) (defScope s_mixed_lot) .none kV_mixed_lot dc_mixed_lot pm_mixed_lot an_mixed_lot cd_mixed_lot ct_mixed_lot), sl_mixed_lot⟩)
    (c_mixed_lot : PySem.W.codeIn K cd_mixed_lot "_law_mixed_lot" = true) (k_mixed_lot : PySem.W.keepIn K (.ref f_mixed_lot) = true)
    {f_law_worths : Addr} {od_law_worths an_law_worths : Option Addr} {sl_law_worths : Array (Option Value)} {oc_law_worths kV_law_worths dc_law_worths pm_law_worths cd_law_worths ct_law_worths : Value}
    (a_law_worths : PySem.W.nsIn K mainGlobals "_law_worths" = some (some (.ref f_law_worths)))
    (l_law_worths : K.lookup f_law_worths = some ⟨oc_law_worths, od_law_worths, .func (PySem.W.fnOf "_law_worths" "_law_worths" (defArgs s_law_worths) (defBody s_law_worths) (defScope s_law_worths) .none kV_law_worths dc_law_worths pm_law_worths an_law_worths cd_law_worths ct_law_worths), sl_law_worths⟩)
    (c_law_worths : PySem.W.codeIn K cd_law_worths "_law_worths" = true) (k_law_worths : PySem.W.keepIn K (.ref f_law_worths) = true)
    {f_law_sum : Addr} {od_law_sum an_law_sum : Option Addr} {sl_law_sum : Array (Option Value)} {oc_law_sum kV_law_sum dc_law_sum pm_law_sum cd_law_sum ct_law_sum : Value}
    (a_law_sum : PySem.W.nsIn K mainGlobals "_law_sum" = some (some (.ref f_law_sum)))
    (l_law_sum : K.lookup f_law_sum = some ⟨oc_law_sum, od_law_sum, .func (PySem.W.fnOf "_law_sum" "_law_sum" (defArgs s_law_sum) (defBody s_law_sum) (defScope s_law_sum) .none kV_law_sum dc_law_sum pm_law_sum an_law_sum cd_law_sum ct_law_sum), sl_law_sum⟩)
    (c_law_sum : PySem.W.codeIn K cd_law_sum "_law_sum" = true) (k_law_sum : PySem.W.keepIn K (.ref f_law_sum) = true)
    {f_law_best : Addr} {od_law_best an_law_best : Option Addr} {sl_law_best : Array (Option Value)} {oc_law_best kV_law_best dc_law_best pm_law_best cd_law_best ct_law_best : Value}
    (a_law_best : PySem.W.nsIn K mainGlobals "_law_best" = some (some (.ref f_law_best)))
    (l_law_best : K.lookup f_law_best = some ⟨oc_law_best, od_law_best, .func (PySem.W.fnOf "_law_best" "_law_best" (defArgs s_law_best) (defBody s_law_best) (defScope s_law_best) .none kV_law_best dc_law_best pm_law_best an_law_best cd_law_best ct_law_best), sl_law_best⟩)
    (c_law_best : PySem.W.codeIn K cd_law_best "_law_best" = true) (k_law_best : PySem.W.keepIn K (.ref f_law_best) = true)
    {f_law : Addr} {od_law an_law : Option Addr} {sl_law : Array (Option Value)} {oc_law kV_law dc_law pm_law cd_law ct_law : Value}
    (a_law : PySem.W.nsIn K mainGlobals "law" = some (some (.ref f_law)))
    (l_law : K.lookup f_law = some ⟨oc_law, od_law, .func (PySem.W.fnOf "law" "law" (defArgs s_law) (defBody s_law) (defScope s_law) .none kV_law dc_law pm_law an_law cd_law ct_law), sl_law⟩)
    (c_law : PySem.W.codeIn K cd_law "law" = true) (k_law : PySem.W.keepIn K (.ref f_law) = true)
    (z_isinstance : PySem.W.nsIn K mainGlobals "isinstance" = some none)
    (z_int : PySem.W.nsIn K mainGlobals "int" = some none)
    (z_bool : PySem.W.nsIn K mainGlobals "bool" = some none)
    (z_tuple : PySem.W.nsIn K mainGlobals "tuple" = some none)
    (z_list : PySem.W.nsIn K mainGlobals "list" = some none)
    (z_str : PySem.W.nsIn K mainGlobals "str" = some none)
    (z_len : PySem.W.nsIn K mainGlobals "len" = some none)
    (z_all : PySem.W.nsIn K mainGlobals "all" = some none)
    (z_zip : PySem.W.nsIn K mainGlobals "zip" = some none)
    (z_range : PySem.W.nsIn K mainGlobals "range" = some none)
    (z_enumerate : PySem.W.nsIn K mainGlobals "enumerate" = some none)
    (z_max : PySem.W.nsIn K mainGlobals "max" = some none)
    (z_sorted : PySem.W.nsIn K mainGlobals "sorted" = some none)
    (z_sum : PySem.W.nsIn K mainGlobals "sum" = some none)
    (z_min : PySem.W.nsIn K mainGlobals "min" = some none)
    (z_any : PySem.W.nsIn K mainGlobals "any" = some none)
    : ∃ fd : FuncData, (∀ (s : Shared) (v : Value), BindsTo s fd ⟨[v], []⟩ [("_law_script", v)]) ∧ ∀ base : Heap, K.In base → base.Ns mainGlobals mg → FnOk l.prog w K mg base CX0 7 fa fd ["_law_script"] (spLaw K) := by
  have e := hfa.symm.trans (PySem.W.mg_of X G a_law)
  cases e
  have T : Txt K mg C tk := ⟨⟨pg, hd, po, sa⟩, nC, ⟨⟨pg, hd, po, sa⟩, ha, hn, htk, hm, if_pos (beq_self_eq_true _)⟩, PySem.W.mg_of X G aC, PySem.W.mg_of X G aM⟩
  have B : Bl mg := ⟨PySem.W.mg_none_of X G z_isinstance, PySem.W.mg_none_of X G z_int, PySem.W.mg_none_of X G z_bool, PySem.W.mg_none_of X G z_tuple, PySem.W.mg_none_of X G z_list, PySem.W.mg_none_of X G z_str, PySem.W.mg_none_of X G z_len, PySem.W.mg_none_of X G z_all, PySem.W.mg_none_of X G z_zip, PySem.W.mg_none_of X G z_range, PySem.W.mg_none_of X G z_enumerate, PySem.W.mg_none_of X G z_max, PySem.W.mg_none_of X G z_sorted, PySem.W.mg_none_of X G z_sum, PySem.W.mg_none_of X G z_min, PySem.W.mg_none_of X G z_any⟩
  have F_mask_of := fun_mk (st := s_mask_of) l_mask_of c_mask_of k_mask_of
  have b_mask_of := F_mask_of.binds (ps := ["lot"]) fun _ _ _ _ _ _ us hl => match us, hl with | [_], _ => rfl
  have g_mask_of := PySem.W.mg_of X G a_mask_of
  have F_lot_of := fun_mk (st := s_lot_of) l_lot_of c_lot_of k_lot_of
  have b_lot_of := F_lot_of.binds (ps := ["mask"]) fun _ _ _ _ _ _ us hl => match us, hl with | [_], _ => rfl
  have g_lot_of := PySem.W.mg_of X G a_lot_of
  have F_first_masks := fun_mk (st := s_first_masks) l_first_masks c_first_masks k_first_masks
  have b_first_masks := F_first_masks.binds (ps := ["covers"]) fun _ _ _ _ _ _ us hl => match us, hl with | [_], _ => rfl
  have g_first_masks := PySem.W.mg_of X G a_first_masks
  have F_pit_masks := fun_mk (st := s_pit_masks) l_pit_masks c_pit_masks k_pit_masks
  have b_pit_masks := F_pit_masks.binds (ps := ["covers"]) fun _ _ _ _ _ _ us hl => match us, hl with | [_], _ => rfl
  have g_pit_masks := PySem.W.mg_of X G a_pit_masks
  have F_order_key := fun_mk (st := s_order_key) l_order_key c_order_key k_order_key
  have b_order_key := F_order_key.binds (ps := ["lot"]) fun _ _ _ _ _ _ us hl => match us, hl with | [_], _ => rfl
  have g_order_key := PySem.W.mg_of X G a_order_key
  have F_in_order := fun_mk (st := s_in_order) l_in_order c_in_order k_in_order
  have b_in_order := F_in_order.binds (ps := ["lots"]) fun _ _ _ _ _ _ us hl => match us, hl with | [_], _ => rfl
  have g_in_order := PySem.W.mg_of X G a_in_order
  have F_sum_of := fun_mk (st := s_sum_of) l_sum_of c_sum_of k_sum_of
  have b_sum_of := F_sum_of.binds (ps := ["amounts", "mask"]) fun _ _ _ _ _ _ us hl => match us, hl with | [_, _], _ => rfl
  have g_sum_of := PySem.W.mg_of X G a_sum_of
  have F_pit_sums := fun_mk (st := s_pit_sums) l_pit_sums c_pit_sums k_pit_sums
  have b_pit_sums := F_pit_sums.binds (ps := ["covers", "amounts"]) fun _ _ _ _ _ _ us hl => match us, hl with | [_, _], _ => rfl
  have g_pit_sums := PySem.W.mg_of X G a_pit_sums
  have F_best_masks := fun_mk (st := s_best_masks) l_best_masks c_best_masks k_best_masks
  have b_best_masks := F_best_masks.binds (ps := ["covers", "amounts"]) fun _ _ _ _ _ _ us hl => match us, hl with | [_, _], _ => rfl
  have g_best_masks := PySem.W.mg_of X G a_best_masks
  have F_common_mask := fun_mk (st := s_common_mask) l_common_mask c_common_mask k_common_mask
  have b_common_mask := F_common_mask.binds (ps := ["masks"]) fun _ _ _ _ _ _ us hl => match us, hl with | [_], _ => rfl
  have g_common_mask := PySem.W.mg_of X G a_common_mask
  have F_joint_mask := fun_mk (st := s_joint_mask) l_joint_mask c_joint_mask k_joint_mask
  have b_joint_mask := F_joint_mask.binds (ps := ["masks"]) fun _ _ _ _ _ _ us hl => match us, hl with | [_], _ => rfl
  have g_joint_mask := PySem.W.mg_of X G a_joint_mask
  have F_is_whole := fun_mk (st := s_is_whole) l_is_whole c_is_whole k_is_whole
  have b_is_whole := F_is_whole.binds (ps := ["value"]) fun _ _ _ _ _ _ us hl => match us, hl with | [_], _ => rfl
  have g_is_whole := PySem.W.mg_of X G a_is_whole
  have F_is_between := fun_mk (st := s_is_between) l_is_between c_is_between k_is_between
  have b_is_between := F_is_between.binds (ps := ["value", "low", "high"]) fun _ _ _ _ _ _ us hl => match us, hl with | [_, _, _], _ => rfl
  have g_is_between := PySem.W.mg_of X G a_is_between
  have F_is_tuple_of := fun_mk (st := s_is_tuple_of) l_is_tuple_of c_is_tuple_of k_is_tuple_of
  have b_is_tuple_of := F_is_tuple_of.binds (ps := ["value", "many"]) fun _ _ _ _ _ _ us hl => match us, hl with | [_, _], _ => rfl
  have g_is_tuple_of := PySem.W.mg_of X G a_is_tuple_of
  have F_are_between := fun_mk (st := s_are_between) l_are_between c_are_between k_are_between
  have b_are_between := F_are_between.binds (ps := ["value", "many", "low", "high"]) fun _ _ _ _ _ _ us hl => match us, hl with | [_, _, _, _], _ => rfl
  have g_are_between := PySem.W.mg_of X G a_are_between
  have F_is_rising := fun_mk (st := s_is_rising) l_is_rising c_is_rising k_is_rising
  have b_is_rising := F_is_rising.binds (ps := ["row"]) fun _ _ _ _ _ _ us hl => match us, hl with | [_], _ => rfl
  have g_is_rising := PySem.W.mg_of X G a_is_rising
  have F_is_lot_below := fun_mk (st := s_is_lot_below) l_is_lot_below c_is_lot_below k_is_lot_below
  have b_is_lot_below := F_is_lot_below.binds (ps := ["value", "many"]) fun _ _ _ _ _ _ us hl => match us, hl with | [_, _], _ => rfl
  have g_is_lot_below := PySem.W.mg_of X G a_is_lot_below
  have F_check_covers := fun_mk (st := s_check_covers) l_check_covers c_check_covers k_check_covers
  have b_check_covers := F_check_covers.binds (ps := ["covers"]) fun _ _ _ _ _ _ us hl => match us, hl with | [_], _ => rfl
  have g_check_covers := PySem.W.mg_of X G a_check_covers
  have F_Ground_init := fun_mk (st := s_Ground_init) l_Ground_init c_Ground_init k_Ground_init
  have b_Ground_init := F_Ground_init.binds (ps := ["self", "covers"]) fun _ _ _ _ _ _ us hl => match us, hl with | [_, _], _ => rfl
  have F_check_ground := fun_mk (st := s_check_ground) l_check_ground c_check_ground k_check_ground
  have b_check_ground := F_check_ground.binds (ps := ["ground"]) fun _ _ _ _ _ _ us hl => match us, hl with | [_], _ => rfl
  have g_check_ground := PySem.W.mg_of X G a_check_ground
  have F_is_lot := fun_mk (st := s_is_lot) l_is_lot c_is_lot k_is_lot
  have b_is_lot := F_is_lot.binds (ps := ["ground", "value"]) fun _ _ _ _ _ _ us hl => match us, hl with | [_, _], _ => rfl
  have g_is_lot := PySem.W.mg_of X G a_is_lot
  have F_check_lot := fun_mk (st := s_check_lot) l_check_lot c_check_lot k_check_lot
  have b_check_lot := F_check_lot.binds (ps := ["ground", "lot"]) fun _ _ _ _ _ _ us hl => match us, hl with | [_, _], _ => rfl
  have g_check_lot := PySem.W.mg_of X G a_check_lot
  have F_check_worths := fun_mk (st := s_check_worths) l_check_worths c_check_worths k_check_worths
  have b_check_worths := F_check_worths.binds (ps := ["ground", "worths"]) fun _ _ _ _ _ _ us hl => match us, hl with | [_, _], _ => rfl
  have g_check_worths := PySem.W.mg_of X G a_check_worths
  have F_worth_of := fun_mk (st := s_worth_of) l_worth_of c_worth_of k_worth_of
  have b_worth_of := F_worth_of.binds (ps := ["ground", "worths", "lot"]) fun _ _ _ _ _ _ us hl => match us, hl with | [_, _, _], _ => rfl
  have g_worth_of := PySem.W.mg_of X G a_worth_of
  have F_best_worth := fun_mk (st := s_best_worth) l_best_worth c_best_worth k_best_worth
  have b_best_worth := F_best_worth.binds (ps := ["ground", "worths"]) fun _ _ _ _ _ _ us hl => match us, hl with | [_, _], _ => rfl
  have g_best_worth := PySem.W.mg_of X G a_best_worth
  have F_all_best := fun_mk (st := s_all_best) l_all_best c_all_best k_all_best
  have b_all_best := F_all_best.binds (ps := ["ground", "worths"]) fun _ _ _ _ _ _ us hl => match us, hl with | [_, _], _ => rfl
  have g_all_best := PySem.W.mg_of X G a_all_best
  have F_least_best := fun_mk (st := s_least_best) l_least_best c_least_best k_least_best
  have b_least_best := F_least_best.binds (ps := ["ground", "worths"]) fun _ _ _ _ _ _ us hl => match us, hl with | [_, _], _ => rfl
  have g_least_best := PySem.W.mg_of X G a_least_best
  have F_greatest_best := fun_mk (st := s_greatest_best) l_greatest_best c_greatest_best k_greatest_best
  have b_greatest_best := F_greatest_best.binds (ps := ["ground", "worths"]) fun _ _ _ _ _ _ us hl => match us, hl with | [_, _], _ => rfl
  have g_greatest_best := PySem.W.mg_of X G a_greatest_best
  have F_taken := fun_mk (st := s_taken) l_taken c_taken k_taken
  have b_taken := F_taken.binds (ps := ["_law_row", "_law_many"]) fun _ _ _ _ _ _ us hl => match us, hl with | [_, _], _ => rfl
  have g_taken := PySem.W.mg_of X G a_taken
  have F_alike := fun_mk (st := s_alike) l_alike c_alike k_alike
  have b_alike := F_alike.binds (ps := ["_law_found", "_law_due"]) fun _ _ _ _ _ _ us hl => match us, hl with | [_, _], _ => rfl
  have g_alike := PySem.W.mg_of X G a_alike
  have F_covers := fun_mk (st := s_covers) l_covers c_covers k_covers
  have b_covers := F_covers.binds (ps := ["_law_row", "_law_most"]) fun _ _ _ _ _ _ us hl => match us, hl with | [_, _], _ => rfl
  have g_covers := PySem.W.mg_of X G a_covers
  have F_lots := fun_mk (st := s_lots) l_lots c_lots k_lots
  have b_lots := F_lots.binds (ps := ["_law_many"]) fun _ _ _ _ _ _ us hl => match us, hl with | [_], _ => rfl
  have g_lots := PySem.W.mg_of X G a_lots
  have F_law_is_pit := fun_mk (st := s_law_is_pit) l_law_is_pit c_law_is_pit k_law_is_pit
  have b_law_is_pit := F_law_is_pit.binds (ps := ["_law_covers_here", "_law_lot"]) fun _ _ _ _ _ _ us hl => match us, hl with | [_, _], _ => rfl
  have g_law_is_pit := PySem.W.mg_of X G a_law_is_pit
  have F_pits := fun_mk (st := s_pits) l_pits c_pits k_pits
  have b_pits := F_pits.binds (ps := ["_law_covers_here"]) fun _ _ _ _ _ _ us hl => match us, hl with | [_], _ => rfl
  have g_pits := PySem.W.mg_of X G a_pits
  have F_mixed_lot := fun_mk (st := s_mixed_lot) l_mixed_lot c_mixed_lot k_mixed_lot
  have b_mixed_lot := F_mixed_lot.binds (ps := ["_law_row", "_law_many"]) fun _ _ _ _ _ _ us hl => match us, hl with | [_, _], _ => rfl
  have g_mixed_lot := PySem.W.mg_of X G a_mixed_lot
  have F_law_worths := fun_mk (st := s_law_worths) l_law_worths c_law_worths k_law_worths
  have b_law_worths := F_law_worths.binds (ps := ["_law_row", "_law_many"]) fun _ _ _ _ _ _ us hl => match us, hl with | [_, _], _ => rfl
  have g_law_worths := PySem.W.mg_of X G a_law_worths
  have F_law_sum := fun_mk (st := s_law_sum) l_law_sum c_law_sum k_law_sum
  have b_law_sum := F_law_sum.binds (ps := ["_law_worths_here", "_law_lot"]) fun _ _ _ _ _ _ us hl => match us, hl with | [_, _], _ => rfl
  have g_law_sum := PySem.W.mg_of X G a_law_sum
  have F_law_best := fun_mk (st := s_law_best) l_law_best c_law_best k_law_best
  have b_law_best := F_law_best.binds (ps := ["_law_covers_here", "_law_worths_here"]) fun _ _ _ _ _ _ us hl => match us, hl with | [_, _], _ => rfl
  have g_law_best := PySem.W.mg_of X G a_law_best
  have F_law := fun_mk (st := s_law) l_law c_law k_law
  have b_law := F_law.binds (ps := ["_law_script"]) fun _ _ _ _ _ _ us hl => match us, hl with | [_], _ => rfl
  have gc_GREATEST_WORTH := PySem.W.mg_of X G aK_GREATEST_WORTH
  refine ⟨PySem.W.fnOf "law" "law" (defArgs s_law) (defBody s_law) (defScope s_law) .none kV_law dc_law pm_law an_law cd_law ct_law, fun s v => .of_eq rfl, fun bs _ _ => ?_⟩
  have D_mask_of := Df.mk (P := l.prog) (w := w) (base := bs) (k := 1) (sp := spMaskOf K) (ok_mask_of F_mask_of) g_mask_of k_mask_of b_mask_of
  have D_lot_of := Df.mk (P := l.prog) (w := w) (base := bs) (k := 1) (sp := spLotOf) (ok_lot_of F_lot_of B) g_lot_of k_lot_of b_lot_of
  have D_first_masks := Df.mk (P := l.prog) (w := w) (base := bs) (k := 2) (sp := spFirstMs) (ok_first_masks F_first_masks D_mask_of) g_first_masks k_first_masks b_first_masks
  have D_pit_masks := Df.mk (P := l.prog) (w := w) (base := bs) (k := 3) (sp := spPitMs) (ok_pit_masks F_pit_masks B D_first_masks) g_pit_masks k_pit_masks b_pit_masks
  have D_order_key := Df.mk (P := l.prog) (w := w) (base := bs) (k := 1) (sp := spOrderKey) (ok_order_key F_order_key B) g_order_key k_order_key b_order_key
  have D_in_order := Df.mk (P := l.prog) (w := w) (base := bs) (k := 4) (sp := spInOrder) (ok_in_order F_in_order B D_order_key) g_in_order k_in_order b_in_order
  have D_sum_of := Df.mk (P := l.prog) (w := w) (base := bs) (k := 2) (sp := spSumOf) (ok_sum_of F_sum_of B D_lot_of) g_sum_of k_sum_of b_sum_of
  have D_pit_sums := Df.mk (P := l.prog) (w := w) (base := bs) (k := 4) (sp := spPitSums) (ok_pit_sums F_pit_sums D_pit_masks D_sum_of) g_pit_sums k_pit_sums b_pit_sums
  have D_best_masks := Df.mk (P := l.prog) (w := w) (base := bs) (k := 5) (sp := spBestMs2) (ok_best_masks F_best_masks B D_pit_sums) g_best_masks k_best_masks b_best_masks
  have D_common_mask := Df.mk (P := l.prog) (w := w) (base := bs) (k := 1) (sp := spCommon K) (ok_common_mask F_common_mask) g_common_mask k_common_mask b_common_mask
  have D_joint_mask := Df.mk (P := l.prog) (w := w) (base := bs) (k := 1) (sp := spJoint K) (ok_joint_mask F_joint_mask) g_joint_mask k_joint_mask b_joint_mask
  have D_is_whole := Df.mk (P := l.prog) (w := w) (base := bs) (k := 1) (sp := spWhole K) (ok_is_whole F_is_whole B) g_is_whole k_is_whole b_is_whole
  have D_is_between := Df.mk (P := l.prog) (w := w) (base := bs) (k := 2) (sp := spBetween K) (ok_is_between F_is_between D_is_whole) g_is_between k_is_between b_is_between
  have D_is_tuple_of := Df.mk (P := l.prog) (w := w) (base := bs) (k := 1) (sp := spTupOf) (ok_is_tuple_of F_is_tuple_of B) g_is_tuple_of k_is_tuple_of b_is_tuple_of
  have D_are_between := Df.mk (P := l.prog) (w := w) (base := bs) (k := 3) (sp := spAreBetw) (ok_are_between F_are_between B D_is_tuple_of D_is_between) g_are_between k_are_between b_are_between
  have D_is_rising := Df.mk (P := l.prog) (w := w) (base := bs) (k := 1) (sp := spRising K) (ok_is_rising F_is_rising B) g_is_rising k_is_rising b_is_rising
  have D_is_lot_below := Df.mk (P := l.prog) (w := w) (base := bs) (k := 3) (sp := spLotBelow K) (ok_is_lot_below F_is_lot_below B D_is_between D_is_rising) g_is_lot_below k_is_lot_below b_is_lot_below
  have D_check_covers := Df.mk (P := l.prog) (w := w) (base := bs) (k := 4) (sp := spCkCovers) (ok_check_covers F_check_covers B T D_is_lot_below) g_check_covers k_check_covers b_check_covers
  have D_Ground := Dc.mk (P := l.prog) (w := w) (base := bs) (k := 5) (sp := spGround C) ⟨mk, a_Ground_init, i_Ground_init, kc⟩ (ok_ground_init F_Ground_init T D_check_covers) T.g_Ground b_Ground_init
  have D_check_ground := Df.mk (P := l.prog) (w := w) (base := bs) (k := 1) (sp := spCkGround C) (ok_check_ground F_check_ground B T) g_check_ground k_check_ground b_check_ground
  have D_is_lot := Df.mk (P := l.prog) (w := w) (base := bs) (k := 4) (sp := spIsLot C) (ok_is_lot F_is_lot B T D_is_lot_below) g_is_lot k_is_lot b_is_lot
  have D_check_lot := Df.mk (P := l.prog) (w := w) (base := bs) (k := 5) (sp := spCkLot C) (ok_check_lot F_check_lot D_check_ground D_is_lot) g_check_lot k_check_lot b_check_lot
  have D_check_worths := Df.mk (P := l.prog) (w := w) (base := bs) (k := 4) (sp := spCkWorths C) (ok_check_worths F_check_worths B T gc_GREATEST_WORTH D_check_ground D_are_between) g_check_worths k_check_worths b_check_worths
  have D_worth_of := Df.mk (P := l.prog) (w := w) (base := bs) (k := 6) (sp := spWorthOf C) (ok_worth_of F_worth_of D_check_worths D_check_lot D_sum_of D_mask_of) g_worth_of k_worth_of b_worth_of
  have D_best_worth := Df.mk (P := l.prog) (w := w) (base := bs) (k := 5) (sp := spAsk C rWorth) (ok_best_worth F_best_worth B T D_check_worths D_pit_sums) g_best_worth k_best_worth b_best_worth
  have D_all_best := Df.mk (P := l.prog) (w := w) (base := bs) (k := 6) (sp := spAsk C rAllBest) (ok_all_best F_all_best T D_check_worths D_in_order D_best_masks D_lot_of) g_all_best k_all_best b_all_best
  have D_least_best := Df.mk (P := l.prog) (w := w) (base := bs) (k := 6) (sp := spAsk C rLeastB) (ok_least_best F_least_best T D_check_worths D_common_mask D_best_masks D_lot_of) g_least_best k_least_best b_least_best
  have D_greatest_best := Df.mk (P := l.prog) (w := w) (base := bs) (k := 6) (sp := spAsk C rGreatB) (ok_greatest_best F_greatest_best T D_check_worths D_joint_mask D_best_masks D_lot_of) g_greatest_best k_greatest_best b_greatest_best
  have D_taken := Df.mk (P := l.prog) (w := w) (base := bs) (k := 1) (sp := spTaken K) (ok_taken F_taken B) g_taken k_taken b_taken
  have D_alike := Df.mk (P := l.prog) (w := w) (base := bs) (k := 5) (sp := spAk K 4) (ok_alike F_alike B g_alike b_alike 4) g_alike k_alike b_alike
  have D_covers := Df.mk (P := l.prog) (w := w) (base := bs) (k := 2) (sp := spCovers K) (ok_covers F_covers B D_taken) g_covers k_covers b_covers
  have D_lots := Df.mk (P := l.prog) (w := w) (base := bs) (k := 1) (sp := spLots2) (ok_lots F_lots B) g_lots k_lots b_lots
  have D_law_is_pit := Df.mk (P := l.prog) (w := w) (base := bs) (k := 1) (sp := spLawPit) (ok_law_is_pit F_law_is_pit) g_law_is_pit k_law_is_pit b_law_is_pit
  have D_pits := Df.mk (P := l.prog) (w := w) (base := bs) (k := 2) (sp := spLawPits2) (ok_pits F_pits B D_lots D_law_is_pit) g_pits k_pits b_pits
  have D_mixed_lot := Df.mk (P := l.prog) (w := w) (base := bs) (k := 2) (sp := spMixedLot K) (ok_mixed_lot F_mixed_lot B D_taken) g_mixed_lot k_mixed_lot b_mixed_lot
  have D_law_worths := Df.mk (P := l.prog) (w := w) (base := bs) (k := 2) (sp := spWorths K) (ok_law_worths F_law_worths B D_taken) g_law_worths k_law_worths b_law_worths
  have D_law_sum := Df.mk (P := l.prog) (w := w) (base := bs) (k := 1) (sp := spLawSum) (ok_law_sum F_law_sum B) g_law_sum k_law_sum b_law_sum
  have D_law_best := Df.mk (P := l.prog) (w := w) (base := bs) (k := 3) (sp := spLawBest2) (ok_law_best F_law_best B D_pits D_law_sum) g_law_best k_law_best b_law_best
  exact ok_law F_law B T D_covers D_Ground D_law_worths D_law_best D_alike D_best_worth D_all_best D_law_sum D_least_best D_greatest_best D_mixed_lot D_worth_of
end K08
open PySem PySem.W PyProof.Rows
set_option maxRecDepth 100000 in
set_option maxHeartbeats 0 in
theorem PySem.Challenge.cw_pitlots_k08_whole_best_pits_holds : PySem.Challenge.rw_pitlots_k08_whole_best_pits.Holds := by
  w_on; o_law; k_head; (case hw => w_witness2)
  k_fill
  refine L2.walk_ofK (l := PySem.Challenge.rw_pitlots_k08_whole_best_pits) (n := 63) (k := 7) (x := "_law_script") (CX := L2.CX0) (sp := K08.spLaw) rfl (by decide) rfl ⟨rfl, by decide, by decide⟩ (fun w h Y => PySem.W.kIn_of Y) ?F (fun K H a ns _ _ hS => ⟨a, ns, rfl, hS, fun _ => rfl⟩) (fun _ _ _ _ z => z)
  case F =>
    intro w mg fa h KX G hmg
    refine' K08.all_mk KX G hmg ?aC ?aM ?pg ?hd ?po ?sa ?mk ?kc ?nC ?ha ?hn ?htk ?hm ?aK_GREATEST_WORTH ?a_mask_of ?l_mask_of ?c_mask_of ?k_mask_of ?a_lot_of ?l_lot_of ?c_lot_of ?k_lot_of ?a_first_masks ?l_first_masks ?c_first_masks ?k_first_masks ?a_pit_masks ?l_pit_masks ?c_pit_masks ?k_pit_masks ?a_order_key ?l_order_key ?c_order_key ?k_order_key ?a_in_order ?l_in_order ?c_in_order ?k_in_order ?a_sum_of ?l_sum_of ?c_sum_of ?k_sum_of ?a_pit_sums ?l_pit_sums ?c_pit_sums ?k_pit_sums ?a_best_masks ?l_best_masks ?c_best_masks ?k_best_masks ?a_common_mask ?l_common_mask ?c_common_mask ?k_common_mask ?a_joint_mask ?l_joint_mask ?c_joint_mask ?k_joint_mask ?a_is_whole ?l_is_whole ?c_is_whole ?k_is_whole ?a_is_between ?l_is_between ?c_is_between ?k_is_between ?a_is_tuple_of ?l_is_tuple_of ?c_is_tuple_of ?k_is_tuple_of ?a_are_between ?l_are_between ?c_are_between ?k_are_between ?a_is_rising ?l_is_rising ?c_is_rising ?k_is_rising ?a_is_lot_below ?l_is_lot_below ?c_is_lot_below ?k_is_lot_below ?a_check_covers ?l_check_covers ?c_check_covers ?k_check_covers ?a_Ground_init ?l_Ground_init ?c_Ground_init ?k_Ground_init ?i_Ground_init ?a_check_ground ?l_check_ground ?c_check_ground ?k_check_ground ?a_is_lot ?l_is_lot ?c_is_lot ?k_is_lot ?a_check_lot ?l_check_lot ?c_check_lot ?k_check_lot ?a_check_worths ?l_check_worths ?c_check_worths ?k_check_worths ?a_worth_of ?l_worth_of ?c_worth_of ?k_worth_of ?a_best_worth ?l_best_worth ?c_best_worth ?k_best_worth ?a_all_best ?l_all_best ?c_all_best ?k_all_best ?a_least_best ?l_least_best ?c_least_best ?k_least_best ?a_greatest_best ?l_greatest_best ?c_greatest_best ?k_greatest_best ?a_taken ?l_taken ?c_taken ?k_taken ?a_alike ?l_alike ?c_alike ?k_alike ?a_covers ?l_covers ?c_covers ?k_covers ?a_lots ?l_lots ?c_lots ?k_lots ?a_law_is_pit ?l_law_is_pit ?c_law_is_pit ?k_law_is_pit ?a_pits ?l_pits ?c_pits ?k_pits ?a_mixed_lot ?l_mixed_lot ?c_mixed_lot ?k_mixed_lot ?a_law_worths ?l_law_worths ?c_law_worths ?k_law_worths ?a_law_sum ?l_law_sum ?c_law_sum ?k_law_sum ?a_law_best ?l_law_best ?c_law_best ?k_law_best ?a_law ?l_law ?c_law ?k_law ?z_isinstance ?z_int ?z_bool ?z_tuple ?z_list ?z_str ?z_len ?z_all ?z_zip ?z_range ?z_enumerate ?z_max ?z_sorted ?z_sum ?z_min ?z_any
    (case aC => k_is); (case aM => k_is); (case pg => k_is); (case hd => k_is); (case po => k_is); (case sa => k_is)
    (case mk => k_is); (case kc => k_is); (case nC => k_is); (case ha => k_is); (case hn => k_is); (case htk => k_is)
    (case hm => k_is); (case aK_GREATEST_WORTH => k_is); (case a_mask_of => k_is); (case l_mask_of => k_is); (case c_mask_of => k_is); (case k_mask_of => k_is)
    (case a_lot_of => k_is); (case l_lot_of => k_is); (case c_lot_of => k_is); (case k_lot_of => k_is); (case a_first_masks => k_is); (case l_first_masks => k_is)
    (case c_first_masks => k_is); (case k_first_masks => k_is); (case a_pit_masks => k_is); (case l_pit_masks => k_is); (case c_pit_masks => k_is); (case k_pit_masks => k_is)
    (case a_order_key => k_is); (case l_order_key => k_is); (case c_order_key => k_is); (case k_order_key => k_is); (case a_in_order => k_is); (case l_in_order => k_is)
    (case c_in_order => k_is); (case k_in_order => k_is); (case a_sum_of => k_is); (case l_sum_of => k_is); (case c_sum_of => k_is); (case k_sum_of => k_is)
    (case a_pit_sums => k_is); (case l_pit_sums => k_is); (case c_pit_sums => k_is); (case k_pit_sums => k_is); (case a_best_masks => k_is); (case l_best_masks => k_is)
    (case c_best_masks => k_is); (case k_best_masks => k_is); (case a_common_mask => k_is); (case l_common_mask => k_is); (case c_common_mask => k_is); (case k_common_mask => k_is)
    (case a_joint_mask => k_is); (case l_joint_mask => k_is); (case c_joint_mask => k_is); (case k_joint_mask => k_is); (case a_is_whole => k_is); (case l_is_whole => k_is)
    (case c_is_whole => k_is); (case k_is_whole => k_is); (case a_is_between => k_is); (case l_is_between => k_is); (case c_is_between => k_is); (case k_is_between => k_is)
    (case a_is_tuple_of => k_is); (case l_is_tuple_of => k_is); (case c_is_tuple_of => k_is); (case k_is_tuple_of => k_is); (case a_are_between => k_is); (case l_are_between => k_is)
    (case c_are_between => k_is); (case k_are_between => k_is); (case a_is_rising => k_is); (case l_is_rising => k_is); (case c_is_rising => k_is); (case k_is_rising => k_is)
    (case a_is_lot_below => k_is); (case l_is_lot_below => k_is); (case c_is_lot_below => k_is); (case k_is_lot_below => k_is); (case a_check_covers => k_is); (case l_check_covers => k_is)
    (case c_check_covers => k_is); (case k_check_covers => k_is); (case a_Ground_init => k_is); (case l_Ground_init => k_is); (case c_Ground_init => k_is); (case k_Ground_init => k_is)
    (case i_Ground_init => k_is); (case a_check_ground => k_is); (case l_check_ground => k_is); (case c_check_ground => k_is); (case k_check_ground => k_is); (case a_is_lot => k_is)
    (case l_is_lot => k_is); (case c_is_lot => k_is); (case k_is_lot => k_is); (case a_check_lot => k_is); (case l_check_lot => k_is); (case c_check_lot => k_is)
    (case k_check_lot => k_is); (case a_check_worths => k_is); (case l_check_worths => k_is); (case c_check_worths => k_is); (case k_check_worths => k_is); (case a_worth_of => k_is)
    (case l_worth_of => k_is); (case c_worth_of => k_is); (case k_worth_of => k_is); (case a_best_worth => k_is); (case l_best_worth => k_is); (case c_best_worth => k_is)
    (case k_best_worth => k_is); (case a_all_best => k_is); (case l_all_best => k_is); (case c_all_best => k_is); (case k_all_best => k_is); (case a_least_best => k_is)
    (case l_least_best => k_is); (case c_least_best => k_is); (case k_least_best => k_is); (case a_greatest_best => k_is); (case l_greatest_best => k_is); (case c_greatest_best => k_is)
    (case k_greatest_best => k_is); (case a_taken => k_is); (case l_taken => k_is); (case c_taken => k_is); (case k_taken => k_is); (case a_alike => k_is)
    (case l_alike => k_is); (case c_alike => k_is); (case k_alike => k_is); (case a_covers => k_is); (case l_covers => k_is); (case c_covers => k_is)
    (case k_covers => k_is); (case a_lots => k_is); (case l_lots => k_is); (case c_lots => k_is); (case k_lots => k_is); (case a_law_is_pit => k_is)
    (case l_law_is_pit => k_is); (case c_law_is_pit => k_is); (case k_law_is_pit => k_is); (case a_pits => k_is); (case l_pits => k_is); (case c_pits => k_is)
    (case k_pits => k_is); (case a_mixed_lot => k_is); (case l_mixed_lot => k_is); (case c_mixed_lot => k_is); (case k_mixed_lot => k_is); (case a_law_worths => k_is)
    (case l_law_worths => k_is); (case c_law_worths => k_is); (case k_law_worths => k_is); (case a_law_sum => k_is); (case l_law_sum => k_is); (case c_law_sum => k_is)
    (case k_law_sum => k_is); (case a_law_best => k_is); (case l_law_best => k_is); (case c_law_best => k_is); (case k_law_best => k_is); (case a_law => k_is)
    (case l_law => k_is); (case c_law => k_is); (case k_law => k_is); (case z_isinstance => k_is); (case z_int => k_is); (case z_bool => k_is)
    (case z_tuple => k_is); (case z_list => k_is); (case z_str => k_is); (case z_len => k_is); (case z_all => k_is); (case z_zip => k_is)
    (case z_range => k_is); (case z_enumerate => k_is); (case z_max => k_is); (case z_sorted => k_is); (case z_sum => k_is); (case z_min => k_is)
    (case z_any => k_is)

