import PyProof.Rows.All
import Wide.All
import OpenK.AllK
import Wide.FinOn
import HandS.Base
import HandS.Call
import HandS.List
import HandS.Strs
import HandS.SetKeys
import HandS.ForMost
import HandS.Walk
import HandS.ForExc
import HandS.ExcInit
import HandS.ExcField
import HandS.ExcIs
import HandS.IsInst
import KE.KExcIs
import HandS.ExcValue
import KE.KExcInit
import HandS.Words
import HandS.Ends
import HandS.Property
import PyProof.InstNe
import PyProof.FactsAll.range_iterator_1
import HandS.NamedTupSort
import PyProof.ReprRoads
import HandS.IterNext
import HandS.TryMany
import HandS.OwnEq
import HandS.OwnIter
import HandS.IterVal
import KE.KOwnIter
import HandS.EndTab
import KE.KNest
import HandS.Conv
import HandS.MakeKwOnly
import HandS.Lambda
import HandS.DictComp
import HandS.DictTup
import HandS.TupLen
import HandS.Iter
import KE.KDictWalk
import KE.KDictCopyH
import KE.KDictKeyed
import KE.KDictPairs
import KE.KDictItemsList
import PyProof.P3Eq
import PySem.Challenge.RW_ownmarks_k09_rules_changed
import HandS.TupLe
import HandS.Style
import HandS.Dict
import HandS.TupSets
import HandS.Deep
import HandS.Defaults
import KE.KTupSum
import HandS.ClsMeth
import HandS.SortKw
import KE.DatumOrd
import HandS.DeepEq
import KE.GoesMore
import KE.GoesEnum
import HandS.WordsDict
import HandS.Finally
import HandS.Codes
import HandS.Small
import KE.KDictZip
set_option Elab.async false
set_option linter.all false
set_option maxRecDepth 100000
/-! Sets made of a list or a tuple of keys of any kind, however many: what is in them and how many there are. -/
namespace Km
open PySem PySem.Spec PyProof.Rows
section
variable {K : Type} [DecidableEq K]
def addU (l : List K) (k : K) : List K := if k ∈ l then l else l ++ [k]
def uniq (ks : List K) : List K := ks.foldl addU []
theorem uniq_snoc (ks : List K) (k : K) : uniq (ks ++ [k]) = addU (uniq ks) k := by
  unfold uniq
  rw [List.foldl_append]
  rfl
theorem mem_addU {l : List K} {k j : K} : j ∈ addU l k ↔ j ∈ l ∨ j = k := by
  unfold addU
  split
  · constructor
    · exact .inl
    · rintro (h | rfl) <;> assumption
  · simp
theorem rev_ind {P : List K → Prop} (h0 : P []) (h1 : ∀ l k, P l → P (l ++ [k])) (l : List K) : P l := by
  have h : ∀ r : List K, P r.reverse := by
    intro r
    induction r with
    | nil => exact h0
    | cons a r ih =>
      rw [List.reverse_cons]
      exact h1 _ _ ih
  have := h l.reverse
  rwa [List.reverse_reverse] at this
theorem mem_uniq (ks : List K) (j : K) : j ∈ uniq ks ↔ j ∈ ks := by
  induction ks using rev_ind with
  | h0 => simp [uniq]
  | h1 l k ih => rw [uniq_snoc, mem_addU, ih, List.mem_append, List.mem_singleton]
theorem uniq_le (ks : List K) : (uniq ks).length ≤ ks.length := by
  induction ks using rev_ind with
  | h0 => exact Nat.le_refl _
  | h1 l k ih =>
    rw [uniq_snoc, List.length_append, List.length_singleton]
    unfold addU
    split
    · omega
    · rw [List.length_append, List.length_singleton]
      omega
theorem uniq_full (ks : List K) : (uniq ks).length = ks.length ↔ ks.Nodup := by
  induction ks using rev_ind with
  | h0 => simp [uniq]
  | h1 l k ih =>
    have h2 := uniq_le l
    rw [uniq_snoc, List.length_append, List.length_singleton, List.nodup_append, ← ih]
    unfold addU
    by_cases h : k ∈ uniq l
    · rw [if_pos h]
      have h' := (mem_uniq l k).mp h
      constructor
      · intro e
        omega
      · rintro ⟨_, _, z⟩
        exact absurd rfl (z k h' k (List.mem_singleton.mpr rfl))
    · rw [if_neg h, List.length_append, List.length_singleton]
      have h' : k ∉ l := fun z => h ((mem_uniq l k).mpr z)
      constructor
      · intro e
        refine ⟨by omega, by simp, fun a ha b hb z => ?_⟩
        rw [List.mem_singleton.mp hb] at z
        exact h' (z ▸ ha)
      · rintro ⟨z, _⟩
        omega
theorem addU_len (l : List K) (k : K) : (addU l k).length = if decide (k ∈ l) = true then l.length else l.length + 1 := by
  unfold addU
  by_cases h : k ∈ l
  · rw [if_pos h, if_pos (decide_eq_true h)]
  · rw [if_neg h, if_neg (by simpa using h), List.length_append, List.length_singleton]
end
section
variable {prog : Program} {w : World} {K : Type} [DecidableEq K] {knd : KeyKind prog w K}
theorem setOf_eq {h : Heap} {a : Addr} {S T : K → Bool} {n m : Nat} (z : h.SetOf knd a S n) (e1 : ∀ k, S k = T k) (e2 : n = m) : h.SetOf knd a T m := by
  rw [← funext e1, ← e2]
  exact z
variable {A : Around} {R : Result → Shared → Prop} {I S : Addr} {fp wr : List Addr} {G : Array GenState → Array GenState → Prop} {n : Nat} {P : Nat → Value → Prop} {St : Nat → Shared → Prop}
def inU (ks : List K) (i : Nat) : K → Bool := fun k => decide (k ∈ uniq (ks.take i))
theorem inU_next {ks : List K} {i : Nat} {k : K} (hk : ks[i]? = some k) (j : K) : (inU ks i j || decide (j = k)) = inU ks (i + 1) j := by
  unfold inU
  rw [List.take_add_one, hk]
  show _ = decide (j ∈ uniq (ks.take i ++ [k]))
  rw [uniq_snoc, ← Bool.decide_or]
  exact decide_eq_decide.mpr mem_addU.symm
theorem cnt_next {ks : List K} {i : Nat} {k : K} (hk : ks[i]? = some k) : (if inU ks i k = true then (uniq (ks.take i)).length else (uniq (ks.take i)).length + 1) = (uniq (ks.take (i + 1))).length := by
  rw [List.take_add_one, hk]
  show _ = (uniq (ks.take i ++ [k])).length
  rw [uniq_snoc, addU_len]
  rfl
/-- the filling of a fresh set, from turn i on -/
theorem fill (W : WalksS prog w A.in1 I fp wr G n P St) (hS : S ∉ fp) (ks : List K) (hn : ks.length = n) (hroom : n + 1 < scanBound)
    (hval : ∀ i v, P i v → ∃ k, ks[i]? = some k ∧ knd.is k v = true ∧ v.scannable = true) :
    ∀ (left i : Nat) (s : Shared), left = n - i → i ≤ n → St i s → s.heap.SetOf knd S (inU ks i) (uniq (ks.take i)).length →
      (∀ s2, Moved (S :: wr) G s s2 → s2.heap.SetOf knd S (inU ks n) (uniq (ks.take n)).length → R (.ok (.ret .none)) s2) →
      codeAny (model prog w) A (.builtin "set.update.loop" ⟨[.ref S, .ref I], []⟩) R s
  | 0, i, s, hl, hi, st, z, hR => by
    have e : i = n := by omega
    rw [e] at st z
    refine codeAny_builtin PyProof.Rows.F.entry_set_update_loop ?_
    rw [Around.under_plainId PyProof.Rows.F.plain_set_update_loop _]
    refine wpAny_bind (W.done s _ _ st fun s2 mv => ?_)
    have hw : S ∉ wr := fun q => hS (W.sub _ q)
    refine wpAny_pure (hR s2 (mv.mono fun b hb => List.mem_cons_of_mem _ hb) ?_)
    obtain ⟨o, es, ep, t, ho, r⟩ := z
    exact ⟨o, es, ep, t, mv.heap S _ hw ho, r⟩
  | left + 1, i, s, hl, hi, st, z, hR => by
    have lt : i < n := by omega
    have hw : S ∉ wr := fun q => hS (W.sub _ q)
    refine codeAny_builtin PyProof.Rows.F.entry_set_update_loop ?_
    rw [Around.under_plainId PyProof.Rows.F.plain_set_update_loop _]
    refine wpAny_bind (W.item i s _ _ lt st fun v s1 hv st1 mv => ?_)
    obtain ⟨k, hk, his, hsc⟩ := hval i v hv
    have z1 : s1.heap.SetOf knd S (inU ks i) (uniq (ks.take i)).length := by
      obtain ⟨o, es, ep, t, ho, r⟩ := z
      exact ⟨o, es, ep, t, mv.heap S _ hw ho, r⟩
    refine wpAny_bind (wpAny_holding ?_)
    unfold setAdd
    refine wpAny_holding (wpAny_bind (knd.pyHash his ?_))
    have room : (uniq (ks.take i)).length + 1 < scanBound := by
      have h1 := uniq_le (ks.take i)
      have h2 : (ks.take i).length ≤ i := by
        rw [List.length_take]
        omega
      omega
    refine wpAny_setAddHashed_of (s := { s1 with toks := s1.toks + 1 }) his hsc z1 room fun h2 sb z2 => ?_
    have z3 : h2.SetOf knd S (inU ks (i + 1)) (uniq (ks.take (i + 1))).length := setOf_eq z2 (inU_next hk) (cnt_next hk)
    refine wpAny_pure ⟨plainId_quiet PyProof.Rows.F.plain_set_update_loop _, fill W hS ks hn hroom hval left (i + 1) _ (by omega) lt (W.frame _ s1 _ _ st1 (Nat.le_succ _) fun b hb o e => ?_) z3 fun s3 mv3 z4 => ?_⟩
    · have nb : b ≠ S := fun q => hS (q ▸ hb)
      rw [sb.2 b nb]
      exact e
    · refine hR s3 (Moved.trans W.gtrans ((mv.mono fun b hb => List.mem_cons_of_mem _ hb).then_heap (Nat.le_succ _) fun b o hb e => ?_) mv3) z4
      have nb : b ≠ S := fun q => hb (q ▸ List.mem_cons_self)
      rw [sb.2 b nb]
      exact e
end
end Km
namespace Km
open PySem PySem.Spec PyProof.Rows
section
variable {prog : Program} {w : World} {A : Around} {E : Value → Shared → Prop} {s : Shared} {K : Type} [DecidableEq K] {knd : KeyKind prog w K}
def fresh (led : Bool) : Obj := { cls := .type "set", dict := none, data := .set #[] 0 (.fresh 0 0 led) }
/-- what __init__ is to leave: all of keys in the set at D, what stood before stands -/
def Left (knd : KeyKind prog w K) (s : Shared) (ks : List K) (s2 : Shared) : Prop :=
  ∃ h2 tk, s2 = { s with heap := h2, toks := tk } ∧ h2.SetOf knd s.heap.objs.size (inU ks ks.length) (uniq ks).length ∧ ∀ b o, s.heap.get? b = some o → h2.get? b = some o
/-- set(x), given what its __init__ does with the fresh set -/
theorem set_of_init {x : Value} {ks : List K} {Q : Value → Shared → Prop}
    (hinit : ∀ (led : Bool) (B : Around), (A.handled = none → B.handled = none) → wpAny (model prog w) B (Builtin.«set.__init__» ⟨[.ref s.heap.objs.size, x], []⟩)
      (fun r s2 => r = .done (.ret .none) ∧ Left knd s ks s2) E { s with heap := s.heap.push (fresh led) })
    (h : ∀ s2, Left knd s ks s2 → Q (.ref s.heap.objs.size) s2) : wpAny (model prog w) A (call (.type "set") [x]) Q E s := by
  obtain ⟨c, tl, hmro⟩ := PySem.F.called_set.mro
  have a1 := PySem.F.called_set.made
  have a2 := PySem.F.called_set.sub
  refine wpAny_call (codeAny_of_tree ?_)
  refine wpAny_pure ⟨Code.quiet_builtin _ (by decide +kernel), codeAny_builtin PySem.F.entry_type_call ?_⟩
  rw [Around.under_plain (weight_type_call_type "set" [x] []) rfl]
  have a3 := PySem.F.called_set.notType
  have a4 := PySem.F.called_set.canCreate
  have a5 := PySem.F.typeCall_set_1 x
  repeat (any_goals (first | assumption | wp_step))
  refine codeAny_mono (code_set_new_1 x (E := E) (Q₁ := fun o s1 => ∃ led : Bool, o = .ref s.heap.objs.size ∧ s1 = { s with heap := s.heap.push (fresh led) }) fun led => ⟨led, rfl, rfl⟩) fun r s1 hr => ?_
  cases r with
  | error e => exact hr
  | ok fl =>
    cases fl with
    | ret o =>
      obtain ⟨led, rfl, rfl⟩ := hr
      have at1 : (s.heap.push (fresh led)).get? s.heap.objs.size = some (fresh led) := Heap.get?_push_size _ rfl
      have ty1 : Shared.TypeIs { s with heap := s.heap.push (fresh led) } (.ref s.heap.objs.size) "set" := ⟨_, at1, rfl⟩
      have a6 := PySem.F.called_set.init.lookup
      have a7 := PySem.F.called_set.init.bind (.ref s.heap.objs.size)
      repeat (any_goals (first | assumption | wp_step))
      refine codeAny_mono (codeAny_call_builtin (R := wants (fun r s2 => r = .none ∧ Left knd s ks s2) E) PySem.F.called_set.init.plain PySem.F.entry_set_init (check_set_init_1 ty1 ?_)) fun r2 s2 hr2 => ?_
      · refine wpAny_mono (hinit led _ fun q => ?_) (fun r s2 z => ?_) (fun _ _ z => z)
        · simp [q]
        · obtain ⟨rfl, z⟩ := z
          exact ⟨rfl, z⟩
      · cases r2 with
        | error e => exact hr2
        | ok f2 =>
          cases f2 with
          | ret r =>
            obtain ⟨rfl, z⟩ := hr2
            repeat (any_goals (first | assumption | wp_step))
            exact h _ z
          | _ => exact hr2.elim
    | _ => exact hr.elim
/-- set.__init__ over a list -/
theorem init_list {l : Addr} {items : Array Value} {ks : List K} (led : Bool) (hh : A.handled = none) (hl : s.heap.IsList l items) (hn : ks.length = items.size) (hroom : items.size + 1 < scanBound)
    (hval : ∀ (i : Nat) (v : Value), items[i]? = some v → ∃ k, ks[i]? = some k ∧ knd.is k v = true ∧ v.scannable = true) :
    wpAny (model prog w) A (Builtin.«set.__init__» ⟨[.ref s.heap.objs.size, .ref l], []⟩) (fun r s2 => r = .done (.ret .none) ∧ Left knd s ks s2) E { s with heap := s.heap.push (fresh led) } := by
  have at1 : (s.heap.push (fresh led)).get? s.heap.objs.size = some (fresh led) := Heap.get?_push_size _ rfl
  have ty1 : Shared.TypeIs { s with heap := s.heap.push (fresh led) } (.ref s.heap.objs.size) "set" := ⟨_, at1, rfl⟩
  obtain ⟨⟨oc, odict, od, osl⟩, ho, hc, nl, hd⟩ := hl
  simp only at hc hd
  subst hc hd
  have ho1 : (s.heap.push (fresh led)).get? l = some { cls := .type "list", dict := odict, data := .seq items nl, slots := osl } := Heap.get?_push_of_some _ ho
  have b1 := PySem.F.sub_list_set
  have b2 := PySem.F.sub_list_frozenset
  have b3 : (Value.type "list" == Value.type "dict") = false := by decide
  have hl1 : (s.heap.push (fresh led)).IsList l items := ⟨_, ho1, rfl, nl, rfl⟩
  unfold Builtin.«set.__init__» noKeywords Builtin.Frozenset.updateFrom
  generalize hPI : pyIter = PI
  wp_walk
  subst hPI
  refine wpAny_pyIter_list hl1 ?_
  refine wpAny_bind (wpAny_runValue ?_)
  have lS : l < s.heap.objs.size := Heap.lt_size ho
  have h1 : A.in1.handled = none := by simp [hh]
  have sz : (s.heap.push (fresh led)).objs.size = s.heap.objs.size + 1 := Heap.size_push ..
  have nI : l ≠ (s.heap.push (fresh led)).objs.size := by
    rw [sz]
    exact Nat.ne_of_lt (Nat.lt_succ_of_lt lS)
  have nf : s.heap.objs.size ∉ [(s.heap.push (fresh led)).objs.size, l] := by
    rw [sz]
    intro q
    rcases List.mem_cons.mp q with q | q
    · exact absurd q (Nat.ne_of_lt (Nat.lt_succ_self _))
    · exact absurd (List.mem_singleton.mp q) (Nat.ne_of_gt lS)
  refine fill (knd := knd) ((Walks.list h1 _ l nI items).toS) nf ks hn hroom hval (items.size - 0) 0 _ rfl (Nat.zero_le _) ⟨⟨_, Heap.get?_push_size _ rfl, rfl, rfl⟩, hl1.push _⟩ ?_ ?_
  · have at2 : ((s.heap.push (fresh led)).push { cls := .type "list_iterator", data := .fields #[.ref l, .int 0 0] }).get? s.heap.objs.size = some (fresh led) := Heap.get?_push_of_some _ at1
    exact setOf_eq ((PyProof.Rows.setObjOf_fresh (knd := knd) led).setOf at2 (by unfold scanBound; omega)) (fun _ => by simp [inU, uniq]) (by simp [uniq])
  · intro s2 mv z
    obtain ⟨h2, g2, d2, t2, o2⟩ := s2
    obtain rfl : g2 = s.gens := mv.gens
    obtain rfl : d2 = s.drawn := mv.drawn
    obtain rfl : o2 = s.os := mv.os
    refine wpAny_pure (wpAny_pure ⟨rfl, h2, t2, rfl, ?_, fun b o e => ?_⟩)
    · rw [← hn, List.take_length] at z
      exact z
    · have bS : b < s.heap.objs.size := Heap.lt_size e
      refine mv.heap b o (fun q => ?_) (Heap.get?_push_of_some _ (Heap.get?_push_of_some _ e))
      rcases List.mem_cons.mp q with q | q
      · exact absurd q (Nat.ne_of_lt bS)
      · have q' := List.mem_singleton.mp q
        rw [sz] at q'
        exact absurd q' (Nat.ne_of_lt (Nat.lt_succ_of_lt bS))
/-- set.__init__ over a tuple -/
theorem init_tuple {l : Addr} {items : Array Value} {ks : List K} (led : Bool) (hh : A.handled = none) (hl : s.heap.IsTuple l items) (hn : ks.length = items.size) (hroom : items.size + 1 < scanBound)
    (hval : ∀ (i : Nat) (v : Value), items[i]? = some v → ∃ k, ks[i]? = some k ∧ knd.is k v = true ∧ v.scannable = true) :
    wpAny (model prog w) A (Builtin.«set.__init__» ⟨[.ref s.heap.objs.size, .ref l], []⟩) (fun r s2 => r = .done (.ret .none) ∧ Left knd s ks s2) E { s with heap := s.heap.push (fresh led) } := by
  have at1 : (s.heap.push (fresh led)).get? s.heap.objs.size = some (fresh led) := Heap.get?_push_size _ rfl
  have ty1 : Shared.TypeIs { s with heap := s.heap.push (fresh led) } (.ref s.heap.objs.size) "set" := ⟨_, at1, rfl⟩
  obtain ⟨⟨oc, odict, od, osl⟩, ho, hc, nl, hd⟩ := hl
  simp only at hc hd
  subst hc hd
  have ho1 : (s.heap.push (fresh led)).get? l = some { cls := .type "tuple", dict := odict, data := .seq items nl, slots := osl } := Heap.get?_push_of_some _ ho
  have b1 := PySem.F.sub_tuple_set
  have b2 := PySem.F.sub_tuple_frozenset
  have b3 : (Value.type "tuple" == Value.type "dict") = false := by decide
  have hl1 : (s.heap.push (fresh led)).IsTuple l items := ⟨_, ho1, rfl, nl, rfl⟩
  unfold Builtin.«set.__init__» noKeywords Builtin.Frozenset.updateFrom
  generalize hPI : pyIter = PI
  wp_walk
  subst hPI
  refine wpAny_pyIter_tuple hl1 ?_
  refine wpAny_bind (wpAny_runValue ?_)
  have lS : l < s.heap.objs.size := Heap.lt_size ho
  have h1 : A.in1.handled = none := by simp [hh]
  have sz : (s.heap.push (fresh led)).objs.size = s.heap.objs.size + 1 := Heap.size_push ..
  have nI : l ≠ (s.heap.push (fresh led)).objs.size := by
    rw [sz]
    exact Nat.ne_of_lt (Nat.lt_succ_of_lt lS)
  have nf : s.heap.objs.size ∉ [(s.heap.push (fresh led)).objs.size, l] := by
    rw [sz]
    intro q
    rcases List.mem_cons.mp q with q | q
    · exact absurd q (Nat.ne_of_lt (Nat.lt_succ_self _))
    · exact absurd (List.mem_singleton.mp q) (Nat.ne_of_gt lS)
  refine fill (knd := knd) ((Walks.tuple h1 _ l nI items).toS) nf ks hn hroom hval (items.size - 0) 0 _ rfl (Nat.zero_le _) ⟨⟨_, Heap.get?_push_size _ rfl, rfl, rfl⟩, hl1.push _⟩ ?_ ?_
  · have at2 : ((s.heap.push (fresh led)).push { cls := .type "tuple_iterator", data := .fields #[.ref l, .int 0 0] }).get? s.heap.objs.size = some (fresh led) := Heap.get?_push_of_some _ at1
    exact setOf_eq ((PyProof.Rows.setObjOf_fresh (knd := knd) led).setOf at2 (by unfold scanBound; omega)) (fun _ => by simp [inU, uniq]) (by simp [uniq])
  · intro s2 mv z
    obtain ⟨h2, g2, d2, t2, o2⟩ := s2
    obtain rfl : g2 = s.gens := mv.gens
    obtain rfl : d2 = s.drawn := mv.drawn
    obtain rfl : o2 = s.os := mv.os
    refine wpAny_pure (wpAny_pure ⟨rfl, h2, t2, rfl, ?_, fun b o e => ?_⟩)
    · rw [← hn, List.take_length] at z
      exact z
    · have bS : b < s.heap.objs.size := Heap.lt_size e
      refine mv.heap b o (fun q => ?_) (Heap.get?_push_of_some _ (Heap.get?_push_of_some _ e))
      rcases List.mem_cons.mp q with q | q
      · exact absurd q (Nat.ne_of_lt bS)
      · have q' := List.mem_singleton.mp q
        rw [sz] at q'
        exact absurd q' (Nat.ne_of_lt (Nat.lt_succ_of_lt bS))
end
end Km

set_option Elab.async false
set_option linter.all false
set_option maxRecDepth 100000
set_option maxHeartbeats 2000000
namespace L2
open PySem PySem.Spec PyProof.Rows
/-- set(x), x a list or a tuple of ints and texts -/
def rSetK (P : Program) (w : World) (K : PySem.W.Frag) : List V → Hp → VK → Prop := fun xs H Q => ∃ (l : Addr) (ks : List Key), xs = [.ref l] ∧ (SqL K H l (ks.map kV) ∨ SqT K H l (ks.map kV)) ∧ ks.length ≤ 1000 ∧
  ∀ p, H p = none → Q (.ref p) (upd H p (SetK P w p (Km.inU ks ks.length) (Km.uniq ks).length))
section
variable {X : Cx}
theorem km_keys_at {P : Program} {w : World} {ks : List Key} {its : List Value} (r : Vals (ks.map kV) its) (i : Nat) (v : Value) (h : its.toArray[i]? = some v) : ∃ k, ks[i]? = some k ∧ (mixKind P w).is k v = true ∧ v.scannable = true := by
  have h2 : its[i]? = some v := by simpa using h
  have hl : i < ks.length := by
    have e := r.length
    rw [List.length_map] at e
    rw [e]
    exact (List.getElem?_eq_some_iff.mp h2).1
  obtain ⟨u, hu, ru⟩ := r.get (i := i) (x := kV ks[i]) (by simp [hl])
  rw [h2] at hu
  cases hu
  exact ⟨ks[i], List.getElem?_eq_getElem hl, kV_is ru, key_scan ru⟩
theorem cr_setK (hc : X.calm = true) : CallR X (.type "set") (rSetK X.prog X.w X.K) := by
  intro pins s σ H xs us Q I r h
  obtain ⟨l, ks, rfl, hq, hroom, q⟩ := h
  rw [Vals.ref1 r]
  have hd := I.ok.hd hc
  have fin : ∀ s2, Km.Left (mixKind X.prog X.w) s ks s2 → EP X pins σ Q (.ref s.heap.objs.size) s2 := fun s2 ⟨h2, tk, e, z, k⟩ => by
    subst e
    exact ⟨.ref _, _, I.laid (t' := tk) k (Nat.le_refl _) (setK_new z), rfl, q _ (I.hok.fresh (Nat.le_refl _))⟩
  rcases hq with hq | hq
  · obtain ⟨its, rr, pl, hz⟩ := I.list hq
    have hn : ks.length = its.toArray.size := by rw [List.size_toArray, ← rr.length, List.length_map]
    exact Km.set_of_init (knd := mixKind X.prog X.w) (ks := ks) (fun led B hB => Km.init_list led (hB hd) pl.isList hn (by unfold scanBound; omega) (km_keys_at rr)) fin
  · obtain ⟨its, rr, pl, hz⟩ := I.tuple hq
    have hn : ks.length = its.toArray.size := by rw [List.size_toArray, ← rr.length, List.length_map]
    exact Km.set_of_init (knd := mixKind X.prog X.w) (ks := ks) (fun led B hB => Km.init_tuple led (hB hd) pl hn (by unfold scanBound; omega) (km_keys_at rr)) fin
/-- len(S) -/
def rLenK (P : Program) (w : World) : List V → Hp → VK → Prop := fun xs H Q => ∃ (a : Addr) (S : Key → Bool) (n : Nat), xs = [.ref a] ∧ H a = some (SetK P w a S n) ∧ n ≤ 1000 ∧ Q (.int n) H
theorem cr_lenK : CallR X (.builtin "len") (rLenK X.prog X.w) := by
  intro pins s σ H xs us Q I r h
  obtain ⟨a, S, n, rfl, ha, hn, q⟩ := h
  rw [Vals.ref1 r]
  obtain ⟨o, es, ep, t, ho, hex, hd, _, _, _, hf, hz⟩ := setK_get I ha
  refine call_len_set ho hex hd hf (by rw [hz]; omega) ⟨.int n, H, I.tok _, ⟨_, by rw [hz]⟩, q⟩
end
end L2
namespace L2
open PySem PySem.Spec PyProof.Rows
theorem same_new {H : Hp} {p : Addr} {o : HO} (h : H p = none) : Same H (upd H p o) := fun b x e => by
  rw [upd_ne (ne_of_none e h)]
  exact e
/-- a new object: from then on the heap is a letter -/
theorem newH {H : Hp} {p : Addr} {o : HO} (n : H p = none) {P : Hp → Prop} (h : ∀ H2, Same H H2 → H2 p = some o → P H2) : P (upd H p o) := h _ (same_new n) upd_same
section
variable {J : It} {n : Nat} {G : Hp → Prop}
/-- a comprehension without a test whose element keeps what was tracked -/
theorem lc_map {xs ys : List V} (w : Walk J n G (YAt xs)) (hy : ys.length = n) (hsz : n < sizeLine) {slot : Nat} {te : TE} {vs : List Nat} {σ : St} {H1 : Hp} {D : Addr} {Qd : Hp → Prop} (hD : H1 D = none)
    (hG : ∀ H, Same H1 H → G H) (hw : ∀ x, wipe ((wipe σ vs).set slot (some x)) vs = wipe σ vs)
    (hs : ∀ (i : Nat) (x y : V) (H : Hp) (Q : VK), xs[i]? = some x → ys[i]? = some y → Same H1 H → (∀ H4, Same H H4 → Q y H4) → te ((wipe σ vs).set slot (some x)) H Q)
    (hd : ∀ H, Same H1 H → H D = some (.lst ys) → Qd H) :
    ∃ W : Nat → Nat → Hp → Prop, (∃ m, W 0 m (upd H1 D (.lst []))) ∧ ∀ i m H, W i m H →
      (J.stop i H ∧ Qd H) ∨ (J.go i H ∧ ∃ Nx : Hp → Prop, (∀ H', Nx H' → ∃ m', m' < m ∧ W (i + 1) m' H') ∧ ∀ x H', J.yld i H x H' → gName slot x (wipe σ vs) H' fun σ2 H2 => wipe σ2 vs = wipe σ vs ∧ tYes σ2 H2 fun b H3 =>
        if b = true then te σ2 H3 fun y H4 => ∃ acc, H4 D = some (.lst acc) ∧ acc.length < sizeLine ∧ Nx (upd H4 D (.lst (acc ++ [y]))) else Nx H3) := by
  refine lc_it w (fun i H => Same H1 H ∧ H D = some (.lst (ys.take i))) ⟨same_new hD, upd_same⟩ (fun i H _ h => hG H h.1) (fun i x H H' hi h y => ?_) (fun H h => hd H h.1 (by rw [h.2, ← hy, List.take_length]))
  obtain ⟨s1, hl⟩ := h
  obtain ⟨rfl, hx⟩ := y
  have hyi : ys[i]? = some (ys[i]'(by omega)) := List.getElem?_eq_getElem (by omega)
  refine ⟨hw x, ?_⟩
  unfold tYes
  dsimp only
  rw [if_pos rfl]
  refine hs i x _ H' _ hx hyi s1 fun H4 s4 => ⟨ys.take i, s4 _ _ hl, ?_, ?_, ?_⟩
  · rw [List.length_take]
    omega
  · intro b o e
    rw [upd_ne (ne_of_none e hD)]
    exact s4 _ _ (s1 _ _ e)
  · rw [upd_same, List.take_add_one, hyi]
    rfl
end
section
variable {X : Cx} {CX : CXT} {k : Nat} {f C : Addr} {fd : FuncData} {ps : List Str} {sp : Sp} {E : St → XK} {x : Str} {p pos : Pos} {e : Expr} {es : List Expr} {t : TA}
/-- C(e, ..) where what its __init__ raises is wished for at the caller's slots -/
def tMakeS (C : Addr) (sp : Sp) (E : St → XK) (t : TA) : TE := fun σ H Q => t σ H fun vs H1 => ∀ x dx, H1 x = none → H1 dx = none → dx ≠ x → sp (.ref x :: vs) (upd (upd H1 dx (.own x)) x (.ins C dx [])) (fun v H2 => v = .non ∧ Q (.ref x) H2) (E σ)
theorem pe_makeS (M : Mk X.K C f) (F : FnOk X.prog X.w X.K X.mg X.base CX k f fd ps sp) (hr : Room (k + 1) X.A) (hg : Gl X x) (hm : X.mg x = some (.ref C)) (hb : Binds X.K fd ps []) (hx : ∀ σ, PassesAt CX X σ (E σ))
    (ha : PA X (e :: es) t) (hdb : (x == ("__debug__" : Str)) = false := by decide) (he : starEach (e :: es) X.env = (false, eval e X.env) :: starEach es X.env := by rfl) (hpl : (backTo pos (starEach es X.env)).any (·.1) = false := by rfl) :
    PE X (.Call (.Name x p) (e :: es) [] pos) (tMakeS C sp E t) := by
  constructor
  intro pins s σ H Q I h
  refine wpAny_Call_Name_kw (ld_glob I hg hm ?_ hdb)
  refine PySem.W.callWith_K (h₀ := X.base) I.ok.mod.kin M.kp (thn (ha.run pos pins s σ H _ I h) fun us s1 q0 => ?_) he hpl
  obtain ⟨vs, H1, I1, r, q⟩ := q0
  refine ⟨I1.kIn, ?_⟩
  have q1 := q (s1.heap.objs.size + 1) s1.heap.objs.size (I1.hok.fresh (Nat.le_succ _)) (I1.hok.fresh (Nat.le_refl _)) (Nat.ne_of_lt (Nat.lt_succ_self _))
  have I2 := Inv.made (C := C) I1
  have r2 : Vals (V.ref (s1.heap.objs.size + 1) :: vs) (Value.ref (s1.heap.objs.size + 1) :: us) := .cons rfl r
  have hl : (Value.ref (s1.heap.objs.size + 1) :: us).length = ps.length := by
    rw [← r2.length]
    exact F.len _ _ _ _ q1
  have b := hb _ (Value.ref (s1.heap.objs.size + 1) :: us) I2.kIn (by rw [List.append_nil]; exact hl)
  rw [List.append_nil] at b
  refine wpAny_call (make_map (f := f) I1.kIn M.makes M.init (beq_iff_eq.mp M.fn) (codeAny_mono (F.run _ X.stack _ _ ⟨_ :: us, []⟩ _ _ _ (E σ) (hr.make C us []) (I2.env0.make C us []) b r2 q1) fun z s2 hz => ?_))
  cases z with
  | error err => exact hx σ pins _ _ err s2 I2 hz
  | ok fl =>
    cases fl with
    | ret u =>
      obtain ⟨v, H3, I3, rv, ev, q3⟩ := I2.after hz
      subst ev
      exact ⟨rv, V.ref _, H3, I3, rfl, q3⟩
    | next => exact False.elim hz
    | brk => exact False.elim hz
    | cont => exact False.elim hz
end
/-- isinstance(e, c), e the exception that the suite holds, with its own dict or without -/
def rIsX (K : PySem.W.Frag) (D a : Addr) (cls : Value) (d : Option Addr) : List V → Hp → VK → Prop := fun xs H Q => ∃ (c : V) (cv : Value) (b : Bool), xs = [.ref a, c] ∧ (∀ u, RelV c u → u = cv) ∧ cls = .ref D ∧ (∀ dx, d = some dx → ∃ fs, H dx = some (.xd fs)) ∧ PySem.W.kitOne K (.ref D) cv = some b ∧ Q (.bl b) H
theorem call_isX {X : Cx} {a D : Addr} {oe : Obj} {cls : Value} {d : Option Addr} {pn : List (Addr × Obj)} (C : ExcC X.K D) (hz : Zc cls d oe) (hf : ∃ vs, oe.data = .fields vs) :
    CallR (X.suite a ((a, oe) :: pn)) (.builtin "isinstance") (rIsX X.K D a cls d) := by
  intro pins s σ H xs us Q I r h
  obtain ⟨c, cv, b, rfl, hcv, ecl, hd, e, q⟩ := h
  obtain ⟨u1, u2, rfl, r1, r2⟩ := vals2 r
  cases r1
  obtain rfl := hcv _ r2
  obtain ⟨hget, _⟩ := I.pin (a, oe) (List.mem_append.mpr (.inl List.mem_cons_self))
  obtain ⟨vs, hv⟩ := hf
  obtain ⟨h1, h2⟩ := hz
  have hcl : (PySem.W.clsIn X.K D).isSome = true := by
    obtain ⟨cd, hc, _⟩ := PySem.W.any_some C.hd
    rw [hc] <;> rfl
  have nc : PySem.W.notCls oe = true := by
    unfold PySem.W.notCls
    rw [hv] <;> rfl
  rw [ecl] at h1
  have J : ∃ od, PySem.W.InstAt s.heap a oe D od := by
    cases d with
    | none => exact ⟨none, hget, h1, nc, by rw [h2]; trivial⟩
    | some dx =>
      obtain ⟨fs, hx⟩ := hd dx rfl
      have z : ObjOk X.prog X.w H s.heap dx (.xd fs) := I.hok dx _ hx
      obtain ⟨mA, hns, _⟩ := z
      obtain ⟨od, ho, _⟩ := lookIn_ns hns
      exact ⟨some od, hget, h1, nc, by rw [h2]; exact ho⟩
  obtain ⟨od, J⟩ := J
  exact PySem.W.kia_one (PySem.W.kitx_exc hcl C.hg C.hk C.hs C.ha C.hn C.ht C.hm) I.kIn J e (fun z => nomatch z) fun tk => ⟨.bl b, H, I.kept (t' := tk) fun _ _ z => z, rfl, q⟩
end L2
namespace L2
open PySem PySem.Spec PyProof.Rows
section
variable {X : Cx} {e : Expr} {t : TE} {st : Stmt} {u : TS}
/-- an expression by a contract: ways meet -/
def tCut (P : St → Hp → V → Hp → Prop) (t : TE) : TE := fun σ H Q => t σ H (P σ H) ∧ ∀ v H', P σ H v H' → Q v H'
theorem pe_cut (P : St → Hp → V → Hp → Prop) (h : PE X e t) : PE X e (tCut P t) := ⟨fun pins s σ H Q I z => thn (h.run pins s σ H _ I z.1) fun _ _ q => by
  obtain ⟨x, H1, I1, r, p⟩ := q
  exact ⟨x, H1, I1, r, z.2 x H1 p⟩⟩
end
/-! the pool of the laws: two numbers -/
def Pool (H : Hp) (a : Addr) : Prop := ∃ g q : Int, H a = some (.lst [.int g, .int q]) ∧ 0 ≤ g ∧ 0 ≤ q ∧ q < 2147483647
/-- all but what stands at a is as it was -/
def But (a : Addr) (H H' : Hp) : Prop := ∀ b o, b ≠ a → H b = some o → H' b = some o
theorem But.of_same {a : Addr} {H H' : Hp} (s : Same H H') : But a H H' := fun b o _ e => s b o e
theorem But.upd {a : Addr} {H : Hp} {o : HO} : But a H (upd H a o) := fun b _ n e => by
  rw [upd_ne n]
  exact e
theorem But.trans {a : Addr} {H H1 H2 : Hp} (x : But a H H1) (y : But a H1 H2) : But a H H2 := fun b o n e => y b o n (x b o n e)
theorem But.same {a : Addr} {H H1 : Hp} (x : But a H H1) (n : H a = none) : Same H H1 := fun b o e => x b o (ne_of_none e n) e
theorem perm_pop {α : Type} : ∀ {l : List α} {k : Nat} {y : α}, l[k]? = some y → (y :: l.eraseIdx k).Perm l
  | [], _, _, h => by simp at h
  | a :: l, 0, y, h => by
    have e : a = y := Option.some.inj h
    rw [e]
    exact .refl _
  | a :: l, k + 1, y, h => (List.Perm.swap a y _).trans ((perm_pop (l := l) h).cons a)
theorem eraseIdx_map {α β : Type} (f : α → β) : ∀ (l : List α) (k : Nat), (l.map f).eraseIdx k = (l.eraseIdx k).map f
  | [], _ => rfl
  | _ :: _, 0 => rfl
  | a :: l, k + 1 => congrArg (f a :: ·) (eraseIdx_map f l k)
def names8 : List Str := ["ann", "bo", "cy", "dee", "eve", "fay", "gus", "z"]
theorem names8_nd : names8.Nodup := by decide +kernel
def spOpened (K : PySem.W.Frag) : Sp := fun vs H Q _ => ∃ (a : Addr) (ns : List Int) (k : Nat), vs = [.ref a, .int k] ∧ SqL K H a (ns.map V.int) ∧ k ≤ 62 ∧
  ∀ H' p, Same H H' → H p = none → Pool H' p → Q (.ref p) H'
def spDraw : Sp := fun vs H Q _ => ∃ (a : Addr) (m : Int), vs = [.ref a, .int m] ∧ Pool H a ∧ 1 ≤ m ∧ m ≤ 1000 ∧ ∀ (r : Int) H', 0 ≤ r → r < m → Pool H' a → But a H H' → Q (.int r) H'
def spPeople : Sp := fun vs H Q _ => ∃ (a : Addr) (m : Nat), vs = [.ref a, .int m] ∧ Pool H a ∧ m ≤ 8 ∧
  ∀ H' p (xs : List Str), Pool H' a → But a H H' → H p = none → H' p = some (.lst (xs.map V.str)) → xs.length = m → xs.Nodup → (∀ x ∈ xs, x ∈ names8) → Q (.ref p) H'
end L2
namespace L2
open PySem PySem.Spec PyProof.Rows
/-! types of any values -/
def knownT : List String := ["NoneType", "bool", "int", "str", "list", "tuple", "dict"]
def TyN (K : PySem.W.Frag) (H : Hp) (v : V) (T : String) : Prop := TyX K H v (.type T) ∧ T ∈ knownT
section
variable {K : PySem.W.Frag} {H H' : Hp} {v : V} {T : String}
theorem TyX.same {t : Value} (s : Same H H') (h : TyX K H v t) : TyX K H' v t := by
  cases h with
  | base b =>
    refine .base ?_
    cases b with
    | non => exact .non
    | bl x => exact .bl x
    | int i => exact .int i
    | str x => exact .str x
    | flt x => exact .flt x
    | lst e => exact .lst (s _ _ e)
    | frz e => exact .frz (s _ _ e)
    | tup e => exact .tup (s _ _ e)
    | dK e => exact .dK (s _ _ e)
    | dT e => exact .dT (s _ _ e)
    | ins e cl ha hn htk hm => exact .ins (s _ _ e) cl ha hn htk hm
  | byt b => exact .byt b
  | set e => exact .set (s _ _ e)
  | kList e c => exact .kList e c
  | kTuple e c => exact .kTuple e c
  | kDict e c => exact .kDict e c
  | fTuple e => exact .fTuple (s _ _ e)
  | fDict e => exact .fDict (s _ _ e)
theorem TyN.same (s : Same H H') (h : TyN K H v T) : TyN K H' v T := ⟨TyX.same s h.1, h.2⟩
theorem kit_str (h : T ∈ knownT) : kitB T "str" = some (decide (T = "str")) := by
  simp only [knownT, List.mem_cons, List.not_mem_nil, or_false] at h
  rcases h with rfl | rfl | rfl | rfl | rfl | rfl | rfl <;> decide +kernel
theorem kit_bool (h : T ∈ knownT) : kitB T "bool" = some (decide (T = "bool")) := by
  simp only [knownT, List.mem_cons, List.not_mem_nil, or_false] at h
  rcases h with rfl | rfl | rfl | rfl | rfl | rfl | rfl <;> decide +kernel
theorem kit_int (h : T ∈ knownT) : kitB T "int" = some (decide (T = "int") || decide (T = "bool")) := by
  simp only [knownT, List.mem_cons, List.not_mem_nil, or_false] at h
  rcases h with rfl | rfl | rfl | rfl | rfl | rfl | rfl <;> decide +kernel
theorem kit_list (h : T ∈ knownT) : kitB T "list" = some (decide (T = "list")) := by
  simp only [knownT, List.mem_cons, List.not_mem_nil, or_false] at h
  rcases h with rfl | rfl | rfl | rfl | rfl | rfl | rfl <;> decide +kernel
theorem kit_tuple (h : T ∈ knownT) : kitB T "tuple" = some (decide (T = "tuple")) := by
  simp only [knownT, List.mem_cons, List.not_mem_nil, or_false] at h
  rcases h with rfl | rfl | rfl | rfl | rfl | rfl | rfl <;> decide +kernel
theorem kit_listTuple (h : T ∈ knownT) : PySem.W.kitAny K (.type T) [.type "list", .type "tuple"] = some (decide (T = "list") || decide (T = "tuple")) := by
  refine kitAny_cons (kit_ty (kit_list h)) (fun e => ?_) fun e => ?_
  · rw [e, Bool.false_or]
    exact kitAny_cons (kit_ty (kit_tuple h)) (fun e => by rw [e]; exact kitAny_nil) fun e => e
  · rw [e]
    rfl
theorem ty_str' {t : Value} (h : TyX K H v t) (e : t = .type "str") : ∃ z, v = .str z := by
  cases h with
  | base b =>
    cases b with
    | str x => exact ⟨x, rfl⟩
    | ins e2 cl ha hn htk hm => cases e
    | _ =>
      injection e with e
      exact absurd e (by decide)
  | _ =>
    injection e with e
    exact absurd e (by decide)
theorem ty_str (h : TyX K H v (.type "str")) : ∃ z, v = .str z := ty_str' h rfl
theorem ty_int' {t : Value} (h : TyX K H v t) (e : t = .type "int") : ∃ z, v = .int z := by
  cases h with
  | base b =>
    cases b with
    | int x => exact ⟨x, rfl⟩
    | ins e2 cl ha hn htk hm => cases e
    | _ =>
      injection e with e
      exact absurd e (by decide)
  | _ =>
    injection e with e
    exact absurd e (by decide)
theorem ty_int (h : TyX K H v (.type "int")) : ∃ z, v = .int z := ty_int' h rfl
theorem str_ty {z : Str} (h : TyX K H (.str z) (.type T)) : T = "str" := by
  cases h with
  | base b => cases b with
    | str x => rfl
theorem int_ty {i : Int} (h : TyX K H (.int i) (.type T)) : T = "int" := by
  cases h with
  | base b => cases b with
    | int x => rfl
end
/-! words -/
def letters : Str := "abcdefghijklmnopqrstuvwxyz"
def wordB (z : Str) : Bool := (decide (1 ≤ z.length) && decide (z.length ≤ 8)) && z.cps.toList.all fun c => decide (c ∈ letters.cps.toList)
def isW : V → Bool
  | .str z => wordB z
  | _ => false
def peopleB (xs : List V) : Bool := (decide (1 ≤ xs.length) && decide (xs.length ≤ 8)) && (xs.all isW && decide xs.Nodup)
def markB (lo hi : Int) : V → Bool
  | .int i => decide (lo ≤ i) && decide (i ≤ hi)
  | _ => false
/-- an item that may stand in what is given for people -/
def ItemOk (K : PySem.W.Frag) (H : Hp) (x : V) : Prop := (∃ T, TyN K H x T) ∧ ∀ z, x = .str z → z.length ≤ 1000
theorem ItemOk.same {K : PySem.W.Frag} {H H' : Hp} {x : V} (s : Same H H') (h : ItemOk K H x) : ItemOk K H' x := by
  obtain ⟨⟨T, t⟩, z⟩ := h
  exact ⟨⟨T, t.same s⟩, z⟩
/-- any value given for people: whether it is people, and its items -/
inductive ArgP (K : PySem.W.Frag) (H : Hp) : V → Bool → List V → Prop where
  | no {v : V} {T : String} (t : TyN K H v T) (h1 : T ≠ "list") (h2 : T ≠ "tuple") : ArgP K H v false []
  | lst {a : Addr} {xs : List V} (e : H a = some (.lst xs)) (h : ∀ x ∈ xs, ItemOk K H x) (hl : xs.length ≤ 1000) : ArgP K H (.ref a) (peopleB xs) xs
  | tup {a : Addr} {xs : List V} (e : H a = some (.tup xs)) (h : ∀ x ∈ xs, ItemOk K H x) (hl : xs.length ≤ 1000) : ArgP K H (.ref a) (peopleB xs) xs
theorem ArgP.same {K : PySem.W.Frag} {H H' : Hp} {v : V} {b : Bool} {xs : List V} (s : Same H H') (h : ArgP K H v b xs) : ArgP K H' v b xs := by
  cases h with
  | no t h1 h2 => exact .no (t.same s) h1 h2
  | lst e h hl => exact .lst (s _ _ e) (fun x hx => (h x hx).same s) hl
  | tup e h hl => exact .tup (s _ _ e) (fun x hx => (h x hx).same s) hl
def spIsInteger (K : PySem.W.Frag) : Sp := fun vs H Q _ => ∃ (v : V) (T : String), vs = [v] ∧ TyN K H v T ∧ Q (.bl (decide (T = "int"))) H
def spWithin (K : PySem.W.Frag) : Sp := fun vs H Q _ => ∃ (v : V) (lo hi : Int), vs = [v, .int lo, .int hi] ∧ (∃ T, TyN K H v T) ∧ Q (.bl (markB lo hi v)) H
def spIsWord (K : PySem.W.Frag) : Sp := fun vs H Q _ => ∃ v : V, vs = [v] ∧ ItemOk K H v ∧ ∀ H', Same H H' → Q (.bl (isW v)) H'
def spArePeople (K : PySem.W.Frag) : Sp := fun vs H Q _ => ∃ (v : V) (b : Bool) (xs : List V), vs = [v] ∧ ArgP K H v b xs ∧ ∀ H', Same H H' → Q (.bl b) H'
end L2
namespace L2
open PySem PySem.Spec PyProof.Rows
def kmSigns (z : Str) : List V := z.cps.toList.map fun c => V.str ⟨#[c]⟩
theorem walk_kmSigns {z : Str} : Walk (Its z) (kmSigns z).length (fun _ => True) (YAt (kmSigns z)) := by
  have e : (kmSigns z).length = z.cps.size := by
    unfold kmSigns
    rw [List.length_map, Array.length_toList]
  rw [e]
  refine walk_str.mono (fun _ h => h) fun i H x H' _ _ y => ?_
  obtain ⟨h, c, hc, hx⟩ := y
  refine ⟨h, ?_⟩
  unfold kmSigns
  rw [List.getElem?_map, Array.getElem?_toList, hc, hx]
  rfl
theorem all_bl (bs : List Bool) : (bs.map V.bl).length = bs.length := List.length_map ..
end L2
namespace L2
open PySem PySem.Spec PyProof.Rows
/-! an own error with one field -/
structure Er (K : PySem.W.Frag) (mg : Str → Option Value) (x : Str) (C : Addr) : Prop where
  g : mg x = some (.ref C)
  ox : OexC K C
  xf : XfC K C
  ec : ExcC K C
  exm : PySem.W.exmOne K (.ref C) (.ref C) = some true
def spErrInit (K : PySem.W.Frag) (C : Addr) (f : Str) : Sp := fun vs H Q _ => ∃ (a : Addr) (v : V), vs = [.ref a, v] ∧ OexC K C ∧ PySem.W.findIn K (.ref C) f = some none ∧ H a = some (exo a C none) ∧
  ∀ d, H d = none → d ≠ a → Q .non (upd (upd H d (exd d [(f, v)])) a (exo a C (some d)))
/-- what a raise of such an error leaves -/
def Raised (H H' : Hp) (d : Addr) (f : Str) (v : V) : Prop := Same H H' ∧ H d = none ∧ H' d = some (.xd [(f, v)])
theorem raised_mk {H : Hp} {a d C : Addr} {f : Str} {v : V} (na : H a = none) (nd : H d = none) (nda : d ≠ a) :
    Raised H (upd (del (upd (upd (upd H a (exo a C none)) d (exd d [(f, v)])) a (exo a C (some d))) a) d (.xd [(f, v)])) d f v := by
  refine ⟨fun b o e => ?_, nd, upd_same⟩
  rw [upd_ne (ne_of_none e nd), del_ne (ne_of_none e na), upd_ne (ne_of_none e na), upd_ne (ne_of_none e nd), upd_ne (ne_of_none e na)]
  exact e
theorem strs_of_isW : ∀ {xs : List V}, xs.all isW = true → ∃ zs : List Str, xs = zs.map V.str
  | [], _ => ⟨[], rfl⟩
  | x :: xs, h => by
    rw [List.all_cons, Bool.and_eq_true] at h
    obtain ⟨zs, rfl⟩ := strs_of_isW h.2
    cases x with
    | str z => exact ⟨z :: zs, rfl⟩
    | _ => cases h.1
theorem keys_of_strs (zs : List Str) : zs.map V.str = (zs.map (Sum.inr : Str → Key)).map kV := by
  rw [List.map_map]
  rfl
theorem nodup_map_inj {α β : Type} {f : α → β} (hf : ∀ a b, f a = f b → a = b) {l : List α} : (l.map f).Nodup ↔ l.Nodup := by
  induction l with
  | nil => simp
  | cons a l ih =>
    rw [List.map_cons, List.nodup_cons, List.nodup_cons, ih, List.mem_map]
    constructor
    · rintro ⟨h1, h2⟩
      exact ⟨fun h => h1 ⟨a, h, rfl⟩, h2⟩
    · rintro ⟨h1, h2⟩
      exact ⟨fun ⟨b, hb, e⟩ => h1 (hf _ _ e ▸ hb), h2⟩
theorem uniq_strs (zs : List Str) : decide (V.int ((Km.uniq (zs.map (Sum.inr : Str → Key))).length : Nat) = V.int ((zs.map V.str).length : Nat)) = decide (zs.map V.str).Nodup := by
  refine decide_eq_decide.mpr ?_
  have h1 := Km.uniq_full (zs.map (Sum.inr : Str → Key))
  rw [nodup_map_inj (f := (Sum.inr : Str → Key)) (fun _ _ e => Sum.inr.inj e), List.length_map] at h1
  rw [nodup_map_inj (f := V.str) (fun _ _ e => V.str.inj e), ← h1, List.length_map]
  constructor
  · intro e
    have := V.int.inj e
    omega
  · intro e
    rw [e]
end L2
namespace L2
open PySem PySem.Spec PyProof.Rows
/-- what a crowd's instance holds -/
def crowdFs (p : Addr) (m : Int) : List (Str × V) := [("_people", V.ref p), ("most", V.int m)]
def CrowdAt (H : Hp) (C x : Addr) (xs : List V) (m : Int) : Prop := ∃ dx p, H x = some (.ins C dx (crowdFs p m)) ∧ H p = some (.lst xs)
theorem CrowdAt.same {H H' : Hp} {C x : Addr} {xs : List V} {m : Int} (s : Same H H') (h : CrowdAt H C x xs m) : CrowdAt H' C x xs m := by
  obtain ⟨dx, p, h1, h2⟩ := h
  exact ⟨dx, p, s _ _ h1, s _ _ h2⟩
def spCrowdInit (K : PySem.W.Frag) (C CB : Addr) : Sp := fun vs H Q E => ∃ (x dx : Addr) (v m : V) (b : Bool) (xs : List V), vs = [.ref x, v, m] ∧ H x = some (.ins C dx []) ∧ ArgP K H v b xs ∧ (∃ T, TyN K H m T) ∧
  (b = false → ∀ H' d, Raised H H' d "part" (.str "people") → E (.ref CB) (some d) H') ∧
  (b = true → markB 1 10 m = false → ∀ H' d, Raised H H' d "part" (.str "most") → E (.ref CB) (some d) H') ∧
  (b = true → ∀ i, m = .int i → markB 1 10 m = true → ∀ H', But x H H' → CrowdAt H' C x xs i → Q .non H')
theorem putF_new {f : Str} {v : V} : putF f v [] = [(f, v)] := rfl
theorem crowd_put {p : Addr} {m : Int} : putF "most" (.int m) [(("_people" : Str), V.ref p)] = crowdFs p m := by
  show (if (("_people" : Str)) = "most" then _ else _) = _
  rw [if_neg (by decide +kernel)]
  rfl
end L2
namespace L2
open PySem PySem.Spec PyProof.Rows
theorem ArgP.seq {K : PySem.W.Frag} {H : Hp} {v : V} {b : Bool} {xs : List V} (h : ArgP K H v b xs) (e : b = true) : ∃ l, v = .ref l ∧ (SqL K H l xs ∨ SqT K H l xs) := by
  cases h with
  | no t h1 h2 => cases e
  | lst e1 h hl => exact ⟨_, rfl, .inl (SqL.of e1)⟩
  | tup e1 h hl => exact ⟨_, rfl, .inr (SqT.of e1)⟩
/-- what the law's own look at a making tells: taken, or the part -/
def toldP (b m : Bool) : Option Str := if b = false then some "people" else if m = false then some "most" else none
def spTold (K : PySem.W.Frag) : Sp := fun vs H Q _ => ∃ (v m : V) (b : Bool) (xs : List V), vs = [v, m] ∧ ArgP K H v b xs ∧ (∃ T, TyN K H m T) ∧
  (∀ H' p z, toldP b (markB 1 10 m) = some z → Same H H' → H' p = some (.lst [.str z, .bl true]) → Q (.ref p) H') ∧
  (toldP b (markB 1 10 m) = none → ∀ H', Same H H' → Q (.str "taken") H')
end L2
namespace L2
open PySem PySem.Spec PyProof.Rows
theorem rng_le (l c : Int) (hc : 1 ≤ c) : 1 ≤ (if (if c < l then c else l) > 1 then (if c < l then c else l) else (1 : Int)) ∧ (if (if c < l then c else l) > 1 then (if c < l then c else l) else (1 : Int)) ≤ c := by
  by_cases h : c < l
  · rw [if_pos h]
    split <;> omega
  · rw [if_neg h]
    split <;> omega
theorem names8_ok : ∀ z ∈ names8, wordB z = true ∧ z.length ≤ 8 := by decide +kernel
abbrev BadP (K : PySem.W.Frag) (H : Hp) (v : V) : Prop := ∃ xs, ArgP K H v false xs
theorem BadP.same {K : PySem.W.Frag} {H H' : Hp} {v : V} (s : Same H H') (h : BadP K H v) : BadP K H' v := by
  obtain ⟨xs, h⟩ := h
  exact ⟨xs, h.same s⟩
theorem ArgP.lst' {K : PySem.W.Frag} {H : Hp} {a : Addr} {xs : List V} {b : Bool} (e : H a = some (.lst xs)) (h : ∀ x ∈ xs, ItemOk K H x) (hl : xs.length ≤ 1000) (hb : peopleB xs = b) : ArgP K H (.ref a) b xs := by
  subst hb
  exact .lst e h hl
theorem ArgP.tup' {K : PySem.W.Frag} {H : Hp} {a : Addr} {xs : List V} {b : Bool} (e : H a = some (.tup xs)) (h : ∀ x ∈ xs, ItemOk K H x) (hl : xs.length ≤ 1000) (hb : peopleB xs = b) : ArgP K H (.ref a) b xs := by
  subst hb
  exact .tup e h hl
section
variable {K : PySem.W.Frag} {H : Hp}
theorem item_str {z : Str} (h : z.length ≤ 1000) : ItemOk K H (.str z) := ⟨⟨"str", .base (.str z), by decide⟩, fun y e => by
  rw [← V.str.inj e]
  exact h⟩
theorem item_non : ItemOk K H .non := ⟨⟨"NoneType", .base .non, by decide⟩, fun y e => by cases e⟩
theorem item_int {i : Int} : ItemOk K H (.int i) := ⟨⟨"int", .base (.int i), by decide⟩, fun y e => by cases e⟩
theorem item_bl {i : Bool} : ItemOk K H (.bl i) := ⟨⟨"bool", .base (.bl i), by decide⟩, fun y e => by cases e⟩
theorem item_lst {a : Addr} {xs : List V} (h : H a = some (.lst xs)) : ItemOk K H (.ref a) := ⟨⟨"list", .base (.lst h), by decide⟩, fun y e => by cases e⟩
/-- people as the laws draw them -/
structure Drawn8 (zs : List Str) : Prop where
  nd : zs.Nodup
  mem : ∀ z ∈ zs, z ∈ names8
theorem Drawn8.items {zs : List Str} (d : Drawn8 zs) : ∀ x ∈ zs.map V.str, ItemOk K H x := by
  intro x hx
  obtain ⟨z, hz, rfl⟩ := List.mem_map.mp hx
  exact item_str (Nat.le_trans (names8_ok z (d.mem z hz)).2 (by decide))
theorem Drawn8.allW {zs : List Str} (d : Drawn8 zs) : (zs.map V.str).all isW = true := by
  rw [List.all_eq_true]
  intro x hx
  obtain ⟨z, hz, rfl⟩ := List.mem_map.mp hx
  exact (names8_ok z (d.mem z hz)).1
theorem Drawn8.people {zs : List Str} (d : Drawn8 zs) (h1 : 1 ≤ zs.length) (h2 : zs.length ≤ 8) : peopleB (zs.map V.str) = true := by
  show ((decide (1 ≤ (zs.map V.str).length) && decide ((zs.map V.str).length ≤ 8)) && ((zs.map V.str).all isW && decide (zs.map V.str).Nodup)) = true
  rw [d.allW, List.length_map, decide_eq_true h1, decide_eq_true h2, decide_eq_true ((nodup_map_inj (f := V.str) (fun _ _ e => V.str.inj e)).mpr d.nd)]
  rfl
theorem not_people_of_isW {xs : List V} {y : V} (h : isW y = false) : peopleB (xs ++ [y]) = false := by
  show (_ && ((xs ++ [y]).all isW && _)) = false
  rw [List.all_append, List.all_cons, h, Bool.false_and, Bool.and_false, Bool.false_and, Bool.and_false]
theorem not_people_of_twice {x : V} {xs : List V} : peopleB ((x :: xs) ++ [x]) = false := by
  show (_ && (_ && decide ((x :: xs) ++ [x]).Nodup)) = false
  have : ¬ ((x :: xs) ++ [x]).Nodup := fun h => by
    rw [List.cons_append, List.nodup_cons] at h
    exact h.1 (List.mem_append_right _ (List.mem_singleton.mpr rfl))
  rw [decide_eq_false this, Bool.and_false, Bool.and_false]
theorem bad_append {a : Addr} {xs : List V} {y : V} (e : H a = some (.lst (xs ++ [y]))) (hx : ∀ x ∈ xs, ItemOk K H x) (hl : xs.length ≤ 8) (hy : ItemOk K H y) (h : isW y = false) : BadP K H (.ref a) :=
  ⟨_, .lst' e (fun x hm => by
    rcases List.mem_append.mp hm with hm | hm
    · exact hx x hm
    · rw [List.mem_singleton.mp hm]
      exact hy) (by rw [List.length_append, List.length_singleton]; omega) (not_people_of_isW h)⟩
end
section
variable {σ : St} {H : Hp} {Q : VK}
/-- l + [e] -/
theorem rd_cat1 {i : Nat} {l : Addr} {xs : List V} {te : TE} (y : V) (h : σ[i]? = some (some (.ref l))) (hl : H l = some (.lst xs)) (hx : xs.length ≤ 8)
    (hte : ∀ Q' : VK, (∀ H1, Same H H1 → Q' y H1) → te σ H Q') (k : ∀ H' p, Same H H' → H' p = some (.lst (xs ++ [y])) → Q (.ref p) H') : tOp rCat (tVar i) (tLst (tCons te tNil)) σ H Q := by
  refine ⟨_, h, hte _ fun H1 s1 => ⟨(by show 1 ≤ sizeLine; decide), fun b nb => ⟨l, b, xs, [y], rfl, rfl, same_new nb _ _ (s1 _ _ hl), upd_same, ?_, fun p np => ?_⟩⟩⟩
  · rw [List.length_singleton]
    exact Nat.le_of_lt (small1000 (by omega))
  · exact k _ p ((s1.trans (same_new nb)).trans (same_new np)) upd_same
theorem dp_told {K : PySem.W.Frag} {p : Addr} {z : Str} (h : H p = some (.lst [.str z, .bl true])) : Dp K H (.ref p) (.list [.str z, .bool true]) := .lst (SqL.of h) (.cons (.str z) (.cons (.bl true) .nil))
end
end L2
namespace L2
open PySem PySem.Spec PyProof.Rows
theorem shaped_taken : SeqAt.shaped (.str "taken") = true := by decide +kernel
theorem eqv_taken : PyData.eqv (.str "taken") (.str "taken") = true := by decide +kernel
theorem shaped_people : SeqAt.shaped (.list [.str "people", .bool true]) = true := by decide +kernel
theorem shaped_most : SeqAt.shaped (.list [.str "most", .bool true]) = true := by decide +kernel
theorem eqv_people : PyData.eqv (.list [.str "people", .bool true]) (.list [.str "people", .bool true]) = true := by decide +kernel
theorem eqv_most : PyData.eqv (.list [.str "most", .bool true]) (.list [.str "most", .bool true]) = true := by decide +kernel
end L2
namespace L2
open PySem PySem.Spec PyProof.Rows
theorem toldP_most {m : Bool} (h : m = false) : toldP true m = some "most" := by
  rw [h]
  rfl
theorem toldP_taken {m : Bool} (h : m = true) : toldP true m = none := by
  rw [h]
  rfl
end L2

set_option Elab.async false
set_option linter.all false
set_option maxRecDepth 100000
set_option maxHeartbeats 4000000
/-! Own errors over any built-in base, with an own __init__ that stores: made as values or raised, their fields. -/
namespace L2
open PySem PySem.Spec PyProof.Rows
structure EcC (K : PySem.W.Frag) (C : Addr) : Prop where
  base : ∃ (B newId initId : String) (bmB : List Value), PySem.ExcBaseFacts B newId initId bmB ∧ PySem.StoreFacts B bmB "object.__setattr__" "object" ∧ PySem.W.excInitIn K C bmB newId = true ∧ PySem.W.excOver K C bmB = true
  sa : PySem.W.findIn K (.ref C) "__setattr__" = some (some (.builtin "object.__setattr__"))
  hd : PySem.W.hasDictIn K C = true
  exC : PySem.W.subIn K (.ref C) (.type "BaseException") = some true
  tyC : PySem.W.typeIn K (.ref C) = some (.type "type")
  kC : PySem.W.keepIn K (.ref C) = true
section
variable {X : Cx} {pins : List (Addr × Obj)} {σ : St} {H : Hp} {s : Shared} {a C : Addr} {f : Str} {y : V} {u : Value} {Q : Unit → Shared → Prop} {E : Value → Shared → Prop} {A : Around}
/-- self.f = y, the first field -/
theorem ec_store (T : EcC X.K C) (I : Inv X pins σ H s) (e : H a = some (exo a C none)) (hno : PySem.W.findIn X.K (.ref C) f = some none) (ry : RelV y u)
    (h : ∀ dx s', H dx = none → dx ≠ a → Inv X pins σ (upd (upd H dx (exd dx [(f, y)])) a (exo a C (some dx))) s' → Q () s') : wpAny (model X.prog X.w) A (setAttr (.ref a) f u) Q E s := by
  obtain ⟨B, newId, initId, bmB, FB, SF, hin, hov⟩ := T.base
  obtain ⟨t1, ho⟩ := exo_at I.hok e
  obtain ⟨hp, g, d, t, os⟩ := s
  have J0 : PySem.W.InstAt hp a { cls := .ref C, dict := none, data := .fields #[.ref t1, .none, .none, .none, .bool false, .none] } C none := ⟨ho, rfl, rfl, trivial⟩
  have tk : PySem.W.takerIn X.K C f = some none := by
    unfold PySem.W.takerIn
    rw [hno]
    rfl
  have lt : a < hp.objs.size := Heap.lt_size ho
  refine PySem.W.set_plain I.kIn J0 T.sa ?_
  refine PySem.W.osa_openX SF I.kIn J0 hov tk fun b => ?_
  obtain ⟨cd, hcd, hhd⟩ := PySem.W.any_some T.hd
  have L := PySem.W.looks_clsIn (M := model X.prog X.w) I.kIn hcd
  show wpAny _ _ (Builtin.ObjectAttr.storeInOwnDict (.ref a) (.ref C) (.str f _) f u b) _ _ _
  unfold Builtin.ObjectAttr.storeInOwnDict Builtin.ObjectAttr.ownDictForStores
  obtain ⟨cnm, cbs, cmro, cns, cqn, chd, csn, csb, cab, ccol, cdel⟩ := cd
  dsimp only at hhd
  subst hhd
  have xs : a ≠ hp.objs.size := Nat.ne_of_lt lt
  repeat (first
    | with_reducible refine PySem.HandSPX.store_in_new ?_ ?_
    | with_reducible refine wpAny_loadPart_at ho ?_
    | with_reducible refine L.at ?_
    | wp_step)
  · exact ⟨_, #[], _, (Heap.get?_update_ne _ _ _ _ xs.symm).trans (Heap.get?_push_at rfl rfl), rfl, fun e he => absurd he (by simp), fun _ => rfl⟩
  intro h' tk' hn hsb
  have old : ∀ b o, b ≠ a → hp.get? b = some o → h'.get? b = some o := fun b o nb q => by
    rw [hsb.2 b (Nat.ne_of_lt (Heap.lt_size q)), Heap.get?_update_ne _ _ _ _ nb]
    exact Heap.get?_push_of_some _ q
  have own : h'.get? a = some { cls := .ref C, dict := some hp.objs.size, data := .fields #[.ref t1, .none, .none, .none, .bool false, .none] } := by
    rw [hsb.2 a xs]
    exact Heap.get?_update_self _ (Heap.get?_push_of_some _ ho) rfl
  have nd : H hp.objs.size = none := I.hok.fresh (Nat.le_refl _)
  have lts : ∀ {b o}, hp.get? b = some o → b ≠ hp.objs.size := fun q => Nat.ne_of_lt (Heap.lt_size q)
  have free1 : ∀ {b}, H b = none → b ≠ a := fun n z => by
    rw [z, e] at n
    cases n
  have un : Un X.fs [] H (upd (upd H hp.objs.size (exd hp.objs.size [(f, y)])) a (exo a C (some hp.objs.size))) hp h' := by
    refine ⟨fun b o q n _ _ => old b o (free1 n) q, fun b o q n _ _ => ⟨o.slots, old b o (free1 n) q⟩, fun b o q n _ => ?_, fun b o q _ => ?_, fun b xs q => ?_, fun b o v q => ?_, fun b ps q => ?_⟩
    · rw [upd_ne (free1 n), upd_ne (lts q)]
      exact n
    · by_cases z : b = a
      · rw [z]
        exact ⟨_, own⟩
      · exact ⟨o, old b o z q⟩
    · rw [upd_ne (at_ne e q exo_tup), upd_ne (ne_of_none q nd)]
      exact q
    · rw [upd_ne (at_ne e q exo_frz), upd_ne (ne_of_none q nd)]
      exact q
    · refine ⟨#[], ?_⟩
      rw [upd_ne (at_ne e q exo_tbl), upd_ne (ne_of_none q nd), q]
      simp
  refine h hp.objs.size _ nd xs.symm (I.un (t' := tk') un fun b o q => ?_)
  by_cases z : b = a
  · rw [z, upd_same] at q
    rw [z, ← Option.some.inj q]
    exact exo_ok own
  · rw [upd_ne z] at q
    by_cases z2 : b = hp.objs.size
    · rw [z2, upd_same] at q
      rw [z2, ← Option.some.inj q]
      exact exd_ok hn (relO_put (fs := []) ry fun _ => trivial)
    · rw [upd_ne z2] at q
      refine (I.hok b o q).stay (fun c v hc k => old c v ?_ k) (fun c hc => ?_) fun c xs hc => ?_
      · rcases hc with hc | hc
        · rw [hc]
          exact z
        · exact at_ne e hc exo_own
      · rw [upd_ne (at_ne e hc exo_own), upd_ne (ne_of_none hc nd)]
        exact hc
      · rw [upd_ne (at_ne e hc exo_tup), upd_ne (ne_of_none hc nd)]
        exact hc
end
end L2
namespace L2
open PySem PySem.Spec PyProof.Rows
/-- self.f = e in an error's own __init__ -/
def tEcS (K : PySem.W.Frag) (f : Str) (to te : TE) : TS := fun D σ H => te σ H fun y H1 => to σ H1 fun x H2 => ∃ a C : Addr, x = .ref a ∧ EcC K C ∧ PySem.W.findIn K (.ref C) f = some none ∧ H2 a = some (exo a C none) ∧
  ∀ dx, H2 dx = none → dx ≠ a → D.nx σ (upd (upd H2 dx (exd dx [(f, y)])) a (exo a C (some dx)))
section
variable {X : Cx} {o e : Expr} {es : List Expr} {to te : TE} {ta : TA} {f : Str} {p p' pos : Pos}
theorem ps_ec (ho : PE X o to) (he : PE X e te) (hs : swapsWith e (some (.Attribute o f p')) pos.line X.env = pure false := by rfl) : PS X (.Assign [.Attribute o f p'] e pos) (tEcS X.K f to te) := by
  constructor
  intro pins s σ H D I h
  refine plainObj_wpAny_Assign_Attribute (thn (he.run pins s σ H _ I h) fun v s1 q0 => ?_) hs
  obtain ⟨y, H1, I1, r1, q1⟩ := q0
  refine thn (ho.run pins s1 σ H1 _ I1 q1) fun u s2 q2 => ?_
  obtain ⟨x, H2, I2, r2, a, C, ex, T, hno, ea, q⟩ := q2
  subst ex
  obtain rfl : u = Value.ref a := r2
  exact ec_store T I2 ea hno r1 fun dx s3 n ne J => ⟨σ, _, J, q dx n ne⟩
def spEcInit (K : PySem.W.Frag) (C : Addr) (f : Str) : Sp := fun vs H Q _ => ∃ (a : Addr) (v : V), vs = [.ref a, v] ∧ EcC K C ∧ PySem.W.findIn K (.ref C) f = some none ∧ H a = some (exo a C none) ∧
  ∀ d, H d = none → d ≠ a → Q .non (upd (upd H d (exd d [(f, v)])) a (exo a C (some d)))
/-- the call C(u, ..) of such a class: its __init__ at the fresh error -/
theorem ec_call {CX : CXT} {C fI : Addr} {k : Nat} {fd : FuncData} {ps : List Str} {sp : Sp} {pins : List (Addr × Obj)} {s : Shared} {σ : St} {H : Hp} {us : List Value} {vs : List V} {E : XK} {Q : Addr → VK} {R : Value → Shared → Prop} (T : EcC X.K C)
    (iC : PySem.W.findIn X.K (.ref C) "__init__" = some (some (.ref fI))) (tI : PySem.W.typeIn X.K (.ref fI) = some (.type "function")) (F : FnOk X.prog X.w X.K X.mg X.base CX k fI fd ps sp) (hr : Room (k + 1) X.A) (hb : Binds X.K fd ps []) (hx : Passes CX X E)
    (I : Inv X pins σ H s) (r : Vals vs us) (hl : vs.length ≤ 1000) (q : ∀ a, H a = none → sp (.ref a :: vs) (upd H a (exo a C none)) (Q a) E)
    (fin : ∀ (a : Addr) (hp2 : Heap) (v : V) (H2 : Hp) (s2 : Shared), s.heap.objs.size ≤ a → (∀ b o, s.heap.get? b = some o → hp2.get? b = some o) → Inv X pins σ H2 s2 → Un (frs X.stack) [] (upd H a (exo a C none)) H2 hp2 s2.heap →
      HOk X.prog X.w H2 s2.heap → s2.os = s.os → AllBare s2.gens → Q a v H2 → v = .non ∧ R (.ref a) s2) : wpAny (model X.prog X.w) X.A (call (.ref C) us) R X.xe s := by
  obtain ⟨B, newId, initId, bmB, FB, SF, hin, hov⟩ := T.base
  obtain ⟨nm, N, qn, bs, bm, hdct, sn, sub, ab, col, dd, k0, k1, k2, k3, k5, hC, hT⟩ := PySem.W.excInit_of I.kIn hin
  obtain ⟨hp, g, dr, tk, os⟩ := s
  have fresh1 : H (hp.objs.size + 1) = none := I.hok.fresh (Nat.le_succ _)
  have q1 := q _ fresh1
  have kept : ∀ b o, hp.get? b = some o → ((hp.push (PySem.W.kdv_tup us)).push (PySem.HandSPX.excO C hp.objs.size)).get? b = some o := fun b o z => Heap.get?_push_of_some _ (Heap.get?_push_of_some _ z)
  have there : ((hp.push (PySem.W.kdv_tup us)).push (PySem.HandSPX.excO C hp.objs.size)).get? (hp.objs.size + 1) = some (PySem.HandSPX.excO C hp.objs.size) := by heap_get
  have J : Inv X pins σ (upd H (hp.objs.size + 1) (exo (hp.objs.size + 1) C none)) ⟨(hp.push (PySem.W.kdv_tup us)).push (PySem.HandSPX.excO C hp.objs.size), g, dr, tk, os⟩ :=
    I.laid (t' := tk) (a := hp.objs.size + 1) (h' := (hp.push (PySem.W.kdv_tup us)).push (PySem.HandSPX.excO C hp.objs.size)) kept (Nat.le_succ _) (exo_ok there)
  have r2 : Vals (V.ref (hp.objs.size + 1) :: vs) (Value.ref (hp.objs.size + 1) :: us) := .cons rfl r
  have len2 : (Value.ref (hp.objs.size + 1) :: us).length = ps.length := by
    rw [← r2.length]
    exact F.len _ _ _ _ q1
  have b := hb ⟨_, g, dr, tk, os⟩ (Value.ref (hp.objs.size + 1) :: us) J.kIn (by rw [List.append_nil]; exact len2)
  rw [List.append_nil] at b
  have room : us.length ≤ sizeLine := by
    rw [← r.length, sizeLine_eq]
    omega
  refine wpAny_call (PySem.HandSPX.call_own FB hT hC (PySem.W.looks_findIn I.kIn iC) (fun self => PySem.W.bind_fn I.kIn self tI) room (codeAny_mono (F.run _ X.stack _ _ ⟨_ :: us, []⟩ _ _ _ E (hr.make C us []) (J.env0.make C us []) b r2 q1) fun z s2 hz => ?_))
  cases z with
  | error er => exact hx pins σ _ _ er s2 J hz
  | ok fl =>
    cases fl with
    | ret u =>
      obtain ⟨v, H2, os2, bare2, un2, hok2, rv, q2⟩ := hz
      obtain ⟨hh, g2, d2, t2, o2⟩ := s2
      obtain rfl : o2 = os := os2
      have I2 : Inv X pins σ H2 ⟨hh, g2, d2, t2, o2⟩ := J.call (h' := hh) (g' := g2) (d' := d2) (t' := t2) (ch := []) un2 hok2 bare2 (fun b z => absurd z (by simp))
      obtain ⟨ev, z⟩ := fin (hp.objs.size + 1) _ v H2 ⟨hh, g2, d2, t2, o2⟩ (Nat.le_succ _) kept I2 un2 hok2 rfl bare2 q2
      subst ev
      exact ⟨rv, z⟩
    | next => exact False.elim hz
    | brk => exact False.elim hz
    | cont => exact False.elim hz
/-- C(e, ..) as a value -/
def tEcV (C : Addr) (sp : Sp) (E : XK) (ta : TA) : TE := fun σ H Q => ta σ H fun vs H1 => vs.length ≤ 1000 ∧ ∀ a, H1 a = none → sp (.ref a :: vs) (upd H1 a (exo a C none)) (fun v H2 => v = .non ∧ Q (.ref a) H2) E
variable {CX : CXT} {x : Str} {C fI : Addr} {k : Nat} {fd : FuncData} {ps : List Str} {sp : Sp} {E : XK}
theorem pe_ecv (T : EcC X.K C) (iC : PySem.W.findIn X.K (.ref C) "__init__" = some (some (.ref fI))) (tI : PySem.W.typeIn X.K (.ref fI) = some (.type "function")) (F : FnOk X.prog X.w X.K X.mg X.base CX k fI fd ps sp) (hr : Room (k + 1) X.A)
    (hb : Binds X.K fd ps []) (hx : Passes CX X E) (hg : Gl X x) (hm : X.mg x = some (.ref C)) (ha : PA X (e :: es) ta) (hdb : (x == ("__debug__" : Str)) = false := by decide)
    (he : starEach (e :: es) X.env = (false, eval e X.env) :: starEach es X.env := by rfl) (hpl : (backTo pos (starEach es X.env)).any (·.1) = false := by rfl) : PE X (.Call (.Name x p) (e :: es) [] pos) (tEcV C sp E ta) := by
  constructor
  intro pins s σ H Q I h
  refine wpAny_Call_Name_kw (ld_glob I hg hm ?_ hdb)
  refine PySem.W.callWith_K (h₀ := X.base) I.ok.mod.kin T.kC (thn (ha.run pos pins s σ H _ I h) fun us s1 q0 => ?_) he hpl
  obtain ⟨vs, H1, I1, r1, hl, q1⟩ := q0
  refine ⟨I1.kIn, ec_call (Q := fun a v H2 => v = .non ∧ Q (.ref a) H2) T iC tI F hr hb hx I1 r1 hl q1 fun a hp2 v H2 s2 _ _ I2 _ _ _ _ q2 => ⟨q2.1, ?_⟩⟩
  exact ⟨.ref a, H2, I2, rfl, q2.2⟩
/-- C(e, ..) to be raised -/
def tEcR (C : Addr) (sp : Sp) (ta : TA) : St → Hp → XK → Prop := fun σ H Q => ta σ H fun vs H1 => vs.length ≤ 1000 ∧ ∀ a, H1 a = none → sp (.ref a :: vs) (upd H1 a (exo a C none))
  (fun v H2 => v = .non ∧ ∃ (d : Addr) (fs : List (Str × V)), H2 a = some (exo a C (some d)) ∧ H2 d = some (exd d fs) ∧ H1 d = none ∧ Q (.ref C) (some d) (upd (del H2 a) d (.xd fs))) (fun _ _ _ => False)
theorem pmk_ec (T : EcC X.K C) (iC : PySem.W.findIn X.K (.ref C) "__init__" = some (some (.ref fI))) (tI : PySem.W.typeIn X.K (.ref fI) = some (.type "function")) (F : FnOk X.prog X.w X.K X.mg X.base CX k fI fd ps sp) (hr : Room (k + 1) X.A)
    (hb : Binds X.K fd ps []) (hx : Passes CX X (fun _ _ _ => False)) (hg : Gl X x) (hm : X.mg x = some (.ref C)) (ha : PA X (e :: es) ta) (hdb : (x == ("__debug__" : Str)) = false := by decide)
    (he : starEach (e :: es) X.env = (false, eval e X.env) :: starEach es X.env := by rfl) (hpl : (backTo pos (starEach es X.env)).any (·.1) = false := by rfl) : PMk X (.Call (.Name x p) (e :: es) [] pos) (tEcR C sp ta) := by
  intro pins s σ H Q I h
  refine wpAny_Call_Name_kw (ld_glob I hg hm ?_ hdb)
  refine PySem.W.callWith_K (h₀ := X.base) I.ok.mod.kin T.kC (thn (ha.run pos pins s σ H _ I h) fun us s1 q0 => ?_) he hpl
  obtain ⟨vs, H1, I1, r1, hl, q1⟩ := q0
  obtain ⟨hp, g, dr, tk, os⟩ := s1
  refine ⟨I1.kIn, ec_call (Q := fun a v H2 => v = .non ∧ ∃ (d : Addr) (fs : List (Str × V)), H2 a = some (exo a C (some d)) ∧ H2 d = some (exd d fs) ∧ H1 d = none ∧ Q (.ref C) (some d) (upd (del H2 a) d (.xd fs))) T iC tI F hr hb hx I1 r1 hl q1
    fun a hp2 v H2 s2 ha2 kept I2 un hok ho bare q2 => ⟨q2.1, ?_⟩⟩
  obtain ⟨_, d, fs, ea, ed, hd1, q3⟩ := q2
  obtain ⟨h2, g2, d2, t2, o2⟩ := s2
  exact mk_end (raises_own T.exC T.tyC) I1 ha2 kept un hok ho bare ea ed hd1 q3
/-- e.f, e an error that is held as a value -/
def tEcF (K : PySem.W.Frag) (te : TE) (f : Str) : TE := fun σ H Q => te σ H fun x H1 => ∃ (a C d : Addr) (fs : List (Str × V)) (v : V), x = .ref a ∧ XfC K C ∧ PySem.W.findIn K (.ref C) f = some none ∧ H1 a = some (exo a C (some d)) ∧ H1 d = some (exd d fs) ∧ fs.lookup f = some v ∧ Q v H1
theorem pe_ecf (he : PE X e te) (hb : attributeBase e f X.env (eval e X.env) = eval e X.env := by rfl) : PE X (.Attribute e f pos) (tEcF X.K te f) := by
  constructor
  intro pins s σ H Q I h
  refine attr_of hb (thn (he.run pins s σ H _ I h) fun u s1 q0 => ?_)
  obtain ⟨y, H1, I1, r1, a, C, d, fs, v, rfl, T, no, ea, ed, l, q⟩ := q0
  obtain rfl : u = Value.ref a := r1
  obtain ⟨t1, ho⟩ := exo_at I1.hok ea
  obtain ⟨mA, hns, rel⟩ := exd_at I1.hok ed
  obtain ⟨od, hod, hl⟩ := lookIn_ns hns
  have rr := rel f
  rw [l] at rr
  obtain ⟨w, hw, rw'⟩ := RelO.some_of (v := v) (o := mA f) rr
  have J : PySem.W.InstAt s1.heap a { cls := .ref C, dict := some d, data := .fields #[.ref t1, .none, .none, .none, .bool false, .none] } C (some od) := ⟨ho, rfl, rfl, hod⟩
  exact HandSPX.exc_get I1.kIn J T.ga T.gg T.exC (PySem.W.findObj_own T.hdC no rfl (by rw [hl, hw])) (handed_of rw') ⟨v, H1, I1.tok _, rw', q⟩
/-- isinstance(x, c), x an error that is held as a value -/
def rIsV (K : PySem.W.Frag) : List V → Hp → VK → Prop := fun xs H Q => ∃ (a C : Addr) (d : Option Addr) (c : V) (cv : Value) (b : Bool), xs = [.ref a, c] ∧ ClsV c cv ∧ ExcC K C ∧ H a = some (exo a C d) ∧ (∀ dx, d = some dx → ∃ fs, H dx = some (exd dx fs)) ∧ PySem.W.kitOne K (.ref C) cv = some b ∧ Q (.bl b) H
theorem call_isV : CallR X (.builtin "isinstance") (rIsV X.K) := by
  intro pins s σ H xs us Q I r h
  obtain ⟨a, C, d, c, cv, b, rfl, hc, T, ea, hd, ek, q⟩ := h
  obtain ⟨u1, u2, rfl, r1, r2⟩ := vals2 r
  cases r1
  obtain rfl := hc.eq r2
  obtain ⟨t1, ho⟩ := exo_at I.hok ea
  have hcl : (PySem.W.clsIn X.K C).isSome = true := by
    obtain ⟨cd, hc, _⟩ := PySem.W.any_some T.hd
    rw [hc] <;> rfl
  have J : ∃ od, PySem.W.InstAt s.heap a { cls := .ref C, dict := d, data := .fields #[.ref t1, .none, .none, .none, .bool false, .none] } C od := by
    cases d with
    | none => exact ⟨none, ho, rfl, rfl, trivial⟩
    | some dx =>
      obtain ⟨fs, hx⟩ := hd dx rfl
      obtain ⟨mA, hns, _⟩ := exd_at I.hok hx
      obtain ⟨od, hod, _⟩ := lookIn_ns hns
      exact ⟨some od, ho, rfl, rfl, hod⟩
  obtain ⟨od, J⟩ := J
  exact PySem.W.kia_one (PySem.W.kitx_exc hcl T.hg T.hk T.hs T.ha T.hn T.ht T.hm) I.kIn J ek (fun z => nomatch z) fun tk => ⟨.bl b, H, I.kept (t' := tk) fun _ _ z => z, rfl, q⟩
end
end L2

set_option Elab.async false
set_option linter.all false
set_option maxRecDepth 100000
set_option maxHeartbeats 4000000
/-! Promises of defs for callers beneath which no guarded built-in runs: what repr of containers asks. -/
namespace L2
open PySem PySem.Spec PyProof.Rows
structure FnG (P : Program) (w : World) (K : PySem.W.Frag) (mg : Str → Option Value) (base : Heap) (CX : CXT) (k : Nat) (f : Addr) (fd : FuncData) (ps : List Str) (sp : Sp) : Prop where
  len : ∀ vs H Q E, sp vs H Q E → vs.length = ps.length
  go : ∀ (A : Around) (outer : List Env) (s : Shared) (H : Hp) (args : Args) (us : List Value) (vs : List V) (Q : VK) (E : XK), A.guards = some [] → Room k A → Env0 P w K mg base A outer s H →
    BindsTo s fd args (ps.zip us) → Vals vs us → sp vs H Q E → codeAny (model P w) A (.call (.ref f) args) (CR CX outer P w H s Q E) s
section
variable {P : Program} {w : World} {K : PySem.W.Frag} {mg : Str → Option Value} {base : Heap} {CX : CXT} {k : Nat} {f : Addr} {fd : FuncData} {ps : List Str} {sp : Sp}
theorem FnOk.g (F : FnOk P w K mg base CX k f fd ps sp) : FnG P w K mg base CX k f fd ps sp :=
  { len := F.len, go := fun A outer s H args us vs Q E _ => F.run A outer s H args us vs Q E }
theorem FnG.up {j : Nat} (F : FnG P w K mg base CX j f fd ps sp) (h : j ≤ k) : FnG P w K mg base CX k f fd ps sp :=
  { len := F.len, go := fun A outer s H args us vs Q E hg hr => F.go A outer s H args us vs Q E hg (hr.mono h) }
theorem Fun.okG {x qual : Str} {st : Stmt} {N : List Str} (F : Fun K x qual st f fd) (S : FnScope N ps (defScope st)) (len : ∀ vs H Q E, sp vs H Q E → vs.length = ps.length)
    (body : ∀ (cdv : Value) (A : Around) (outer : List Env) (s : Shared) (H : Hp) (vs : List V) (Q : VK) (E : XK), (A.deeper (envOfC qual (defScope st) s.heap.objs.size f cdv)).guards = some [] →
      Room k (A.deeper (envOfC qual (defScope st) s.heap.objs.size f cdv)) → sp vs H Q E →
      ∃ t, PSs (cxOf CX0 P w K mg base N qual (defScope st) f cdv A outer s H E).nox (defBody st) t ∧ t { nx := fun _ H' => Q .non H', rt := Q } (start N vs) H) : FnG P w K mg base CX0 (k + 1) f fd ps sp := by
  obtain ⟨oc, od, kV, doc, pm, an, cdv, ct, osl, rfl, lk, hcd⟩ := F.ex
  refine { len := len, go := fun A outer s H args us vs Q E hg hr e0 hb r hsp => ?_ }
  have up := fun b o e => (e0.bs b o e).1
  refine Att.call_fn (e0.mod.kin.keeps up) (e0.mod.nolimit.keeps up) lk hcd hr.depth hb ?_ (fun s1 ic => ?_) S.co S.gen S.kind
  · refine List.all_eq_true.mpr fun y hy => ?_
    obtain ⟨n, v⟩ := y
    rcases S.par n (List.of_mem_zip hy).1 with q | q <;> (dsimp only; rw [q]; rfl)
  · obtain ⟨t, ht, hq⟩ := body cdv A outer s H vs Q E hg (hr.deeper _) hsp
    have I := inv_start (CX := CX0) (E := E) S hr.hd e0 (len _ _ _ _ hsp) r ic
    refine wpAny_mono (ht.nox.run [] s1 _ H _ I hq) (fun fl s2 h => ?_) fun _ _ h => h
    cases fl with
    | ret u =>
      obtain ⟨v, _, H2, J, rv, h⟩ := h
      exact ⟨v, H2, J.os, J.bare, J.base, J.hok, rv, h⟩
    | next =>
      obtain ⟨_, H2, J, h⟩ := h
      exact ⟨.non, H2, J.os, J.bare, J.base, J.hok, rfl, h⟩
    | brk => obtain ⟨_, _, _, h⟩ := h; exact h.elim
    | cont => obtain ⟨_, _, _, h⟩ := h; exact h.elim
end
/-- the abstract heap of the script alone -/
theorem script_heap {P : Program} {w : World} {K : PySem.W.Frag} {h : Heap} {a : Addr} {vs : List Value} {ns : List Int} (X : K.In h) (ha : h.get? a = some { cls := .type "list", data := .seq vs.toArray }) (hi : IntsAre vs ns) (hl : ns.length ≤ sizeLine) :
    ∃ H : Hp, SqL K H a (ns.map V.int) ∧ HOk P w H h ∧ ∀ b u, H b = some u → b = a ∧ K.lookup a = none ∧ ∃ o xs, u = .frz o (.lst xs) := by
  have rv := vals_ints hi
  by_cases n : K.lookup a = none
  · refine ⟨fun b => if b = a then some (.frz { cls := .type "list", data := .seq vs.toArray } (.lst (ns.map V.int))) else none, .inl (.inr ⟨_, if_pos rfl⟩), fun b u z => ?_, fun b u z => ?_⟩
    all_goals
      dsimp only at z
      split at z
      case isFalse => cases z
      rename_i eb
      cases z
    · subst eb
      exact ⟨ha, by rw [List.length_map]; exact hl, vs, 0, rv, ha⟩
    · exact ⟨eb, n, _, _, rfl⟩
  · obtain ⟨o, ho⟩ := Option.ne_none_iff_exists'.mp n
    have e := (X a o ho).symm.trans ha
    cases e
    exact ⟨fun _ => none, .inr ⟨_, vs.toArray, _, ho, rfl, rfl, rfl, by rw [List.size_toArray, hi.length]; exact hl, rv⟩, fun _ _ z => (nomatch z), fun _ _ z => (nomatch z)⟩
/-- the law's def, called on the script -/
theorem law_callG {P : Program} {w : World} {K : PySem.W.Frag} {mg mb : Str → Option Value} {k : Nat} {fa a : Addr} {fd : FuncData} {x : Str} {sp : Sp} {s1 : Shared} {vs : List Value} {ns : List Int} (KX : K.In s1.heap) (hns : s1.heap.Ns mainGlobals mg)
    (hb : s1.heap.Ns builtinsNs mb ∧ ∀ y : Str, y ≠ "__name__" → mb y = bootBuiltins y) (hlim : s1.heap.NoLimit) (hg : s1.gens = #[]) (ha : s1.heap.get? a = some { cls := .type "list", data := .seq vs.toArray }) (hi : IntsAre vs ns) (hl : ns.length ≤ sizeLine)
    (hr : Room k callerA) (F : ∀ b0 : Heap, K.In b0 → b0.Ns mainGlobals mg → FnG P w K mg b0 CX0 k fa fd [x] sp) (bind : ∀ (s : Shared) (u : Value), BindsTo s fd ⟨[u], []⟩ [(x, u)])
    (hsp : ∀ H : Hp, Only H → SqL K H a (ns.map V.int) → sp [.ref a] H (fun v _ => v = .bl true) fun _ _ _ => False) (noX : ∀ H e s', CX0 [] H s1 (fun _ _ _ => False) e s' → False) :
    codeAny (model P w) callerA (.call (.ref fa) ⟨[.ref a], []⟩) (fun r s' => r = .ok (.ret (.bool true)) ∧ OldK s1.heap s'.heap ∧ s'.os = s1.os ∧ AllBare s'.gens) s1 := by
  obtain ⟨H, hS, hok, hA⟩ := script_heap (P := P) (w := w) KX ha hi hl
  have tell : ∀ b, H b = none ∨ b = a ∧ K.lookup a = none ∧ ∃ o xs, H b = some (.frz o (.lst xs)) := fun b => by
    cases q : H b with
    | none => exact .inl rfl
    | some u =>
      obtain ⟨e1, e2, o, xs, e3⟩ := hA b u q
      exact .inr ⟨e1, e2, o, xs, by rw [e3]⟩
  have only : Only H := fun b => (tell b).imp id fun z => z.2.2
  have low : ∀ {b : Addr} {m : Str → Option Value}, s1.heap.Ns b m → (hidT s1.heap H).Ns b m := fun {b m} n => by
    obtain ⟨o, es, ep, e, d, r⟩ := n
    refine ⟨o, es, ep, hidT_get e ?_, d, r⟩
    rcases tell b with z | ⟨z, _⟩
    · exact z
    · rw [z, ha] at e
      cases e
      cases d
  have kin : K.In (hidT s1.heap H) := fun b o e => hidT_get (KX b o e) ((tell b).elim id fun z => by
    rw [z.1, z.2.1] at e
    cases e)
  obtain ⟨mc, l1, l2⟩ := hlim
  have e0 : Env0 P w K mg (hidT s1.heap H) callerA [] s1 H :=
    { frames := rfl, mod := { kin := kin, glob := low hns, blt := ⟨mb, low hb.1, hb.2⟩, nolimit := ⟨mc, low l1, l2⟩ }, bs := fun _ _ e => of_hidT e, bsz := Nat.le_of_eq (hidT_size _ _), funs := trivial, frf := fun _ z => (nomatch z), hok := hok, bare := .of_eq hg }
  refine codeAny_mono ((F _ kin (low hns)).go callerA [] s1 H _ [.ref a] [.ref a] _ _ rfl hr e0 (bind s1 (.ref a)) (.cons rfl .nil) (hsp H only hS)) fun r s2 h => ?_
  rcases r with e | fl
  · exact (noX H e s2 h).elim
  rcases fl with _ | _ | _ | u <;> try exact False.elim h
  obtain ⟨v, H2, os, bare, un, ok2, rv, q⟩ := h
  cases (q : v = .bl true)
  cases (rv : u = Value.bool true)
  refine ⟨rfl, OldK.of_keep fun b o e => ?_, os, bare⟩
  rcases tell b with z | ⟨_, _, ob, xs, z⟩
  · exact un.keep b o e z (fun y => by cases y) fun y => by cases y
  · have k1 := (hok b _ z).1
    rw [← e, k1] at *
    exact (ok2 b _ (un.frzs b ob _ z)).1
theorem walk_ofG {l : PySem.W.OpenLaw} {n k : Nat} {q : Program} {loose : List Str} {XP : (Str → Option Value) → Heap → Prop} {YP : World → Heap → Prop} {d : DefRec} {K : Params → PySem.W.Frag} {sp : PySem.W.Frag → Sp} {x : Str} (hn : l.most = some n) (hn2 : n ≤ sizeLine)
    (hdf : d.params.defaults = []) (hr : Room k callerA) (hY : ∀ (w : World) (h : Heap), YP w h → (K w.params).In h)
    (F : ∀ (w : World) (mg : Str → Option Value) (fa : Addr) (h : Heap), (K w.params).In h → h.Ns mainGlobals mg → mg d.name = some (.ref fa) → ∃ fd : FuncData, (∀ (s : Shared) (u : Value), BindsTo s fd ⟨[u], []⟩ [(x, u)]) ∧
      ∀ b0 : Heap, (K w.params).In b0 → b0.Ns mainGlobals mg → FnG l.prog w (K w.params) mg b0 CX0 k fa fd [x] (sp (K w.params)))
    (hsp : ∀ (K : PySem.W.Frag) (H : Hp) (a : Addr) (ns : List Int), ns.length ≤ n → Only H → SqL K H a (ns.map V.int) → sp K [.ref a] H (fun v _ => v = .bl true) fun _ _ _ => False)
    (noX : ∀ (H : Hp) (s : Shared) (e : Value) (s' : Shared), CX0 [] H s (fun _ _ _ => False) e s' → False) : PySem.W.WalkO q loose XP YP l.row.toRowW d [] (fun f vs => PySem.call f vs) := by
  refine Att.attach_call hn hdf fun w s0 s1 mg mb fa o pm cd doc a vs ns G Y _ _ _ hmg hobj hints hlen hg => ?_
  obtain ⟨fd, hb, hF⟩ := F w mg fa _ (hY w _ Y) G.T.g hmg
  exact law_callG (hY w _ Y) G.T.g ⟨G.T.b, G.T.builtins⟩ G.T.nolimit hg hobj hints (Nat.le_trans hlen hn2) hr hF hb (fun H => hsp _ H a ns hlen) fun H => noX H s1
end L2

set_option Elab.async false
set_option linter.all false
set_option maxRecDepth 100000
set_option maxHeartbeats 4000000
/-! Own `in`, `len`, `==` of an own class whose instances have a dict; calls of defs that ask for no guarded built-in beneath. -/
namespace L2
open PySem PySem.Spec PyProof.Rows
section
variable {X : Cx} {CX : CXT} {k : Nat} {f C : Addr} {fd : FuncData} {ps : List Str} {sp : Sp} {E : XK}
theorem run_in1 {pins : List (Addr × Obj)} {σ : St} {H : Hp} {s : Shared} {Q : VK} {us : List Value} {vs : List V} (F : FnOk X.prog X.w X.K X.mg X.base CX k f fd ps sp) (hr : Room (k + 1) X.A) (hb : Binds X.K fd ps []) (hx : Passes CX X E)
    (I : Inv X pins σ H s) (r : Vals vs us) (h : sp vs H Q E) : wpAny (model X.prog X.w) X.A.in1 (call (.ref f) us) (EP X pins σ Q) X.xe s := by
  have len : us.length = ps.length := r.length.symm.trans (F.len _ _ _ _ h)
  have b := hb s us I.kIn (by rw [List.append_nil]; exact len)
  rw [List.append_nil] at b
  refine wpAny_call (codeAny_mono (F.run X.A.in1 X.stack s H ⟨us, []⟩ us vs Q E hr.in1 I.env0.in1 b r h) fun z s2 q => ?_)
  rcases z with e | fl
  · exact hx pins σ H s e s2 I q
  · rcases fl with _ | _ | _ | u <;> first | exact False.elim q | exact I.after q
theorem truthy_bl {M : Model} {A : Around} {E' : Value → Shared → Prop} {s : Shared} {b : Bool} {Q : Bool → Shared → Prop} (q : Q b s) : wpAny M A (truthy (.bool b)) Q E' s := by
  wp_walk
  exact q
/-- x in o, o an instance with an own __contains__ -/
def rInOwn (C : Addr) (sp : Sp) (E : XK) (neg : Bool) : R2 := fun x y H Q => ∃ (a dx : Addr) (fs : List (Str × V)), y = .ref a ∧ H a = some (.ins C dx fs) ∧ sp [.ref a, x] H (fun v H2 => ∃ b, v = .bl b ∧ Q (.bl (b != neg)) H2) E
theorem op_inOwn (hs : PySem.W.findIn X.K (.ref C) "__contains__" = some (some (.ref f))) (hf : PySem.W.isFn X.K (.ref f) = true) (F : FnOk X.prog X.w X.K X.mg X.base CX k f fd ps sp) (hr : Room k X.A) (hb : Binds X.K fd ps []) (hx : Passes CX X E) :
    OpR X (compareOp .In) (rInOwn C sp E false) := by
  intro pins s σ H x y v u Q I rx ry h
  obtain ⟨a, dx, fs, rfl, ea, q⟩ := h
  cases ry
  obtain ⟨mA, O, _, _, _, _⟩ := ins_get I.hok ea
  obtain ⟨od, J, _⟩ := O.look
  obtain ⟨m, hF⟩ := I.fr
  refine PySem.W.in_K hF I.ok.mod.kin J hs hf (wpAny_mono (run_fn (ds := []) (dvs := []) (vs := [.ref a, x]) (us := [.ref a, v]) F hr hb .nil hx I (.cons rfl (.cons rx .nil)) q) (fun r s2 z => ?_) fun _ _ z => z)
  obtain ⟨w', H2, I2, rw', b, rfl, q2⟩ := z
  cases rw'
  rw [Bool.bne_false] at q2
  exact truthy_bl ⟨.bl b, H2, I2, rfl, q2⟩
theorem op_notInOwn (hs : PySem.W.findIn X.K (.ref C) "__contains__" = some (some (.ref f))) (hf : PySem.W.isFn X.K (.ref f) = true) (F : FnOk X.prog X.w X.K X.mg X.base CX k f fd ps sp) (hr : Room k X.A) (hb : Binds X.K fd ps []) (hx : Passes CX X E) :
    OpR X (compareOp .NotIn) (rInOwn C sp E true) := by
  intro pins s σ H x y v u Q I rx ry h
  obtain ⟨a, dx, fs, rfl, ea, q⟩ := h
  cases ry
  obtain ⟨mA, O, _, _, _, _⟩ := ins_get I.hok ea
  obtain ⟨od, J, _⟩ := O.look
  obtain ⟨m, hF⟩ := I.fr
  refine PySem.W.notIn_K hF I.ok.mod.kin J hs hf (wpAny_mono (run_fn (ds := []) (dvs := []) (vs := [.ref a, x]) (us := [.ref a, v]) F hr hb .nil hx I (.cons rfl (.cons rx .nil)) q) (fun r s2 z => ?_) fun _ _ z => z)
  obtain ⟨w', H2, I2, rw', b, rfl, q2⟩ := z
  cases rw'
  rw [Bool.bne_true] at q2
  exact truthy_bl ⟨.bl (!b), H2, I2, rfl, q2⟩
/-- len(o), o an instance with an own __len__ -/
def rLenOwn (C : Addr) (sp : Sp) (E : XK) : List V → Hp → VK → Prop := fun xs H Q => ∃ (a dx : Addr) (fs : List (Str × V)), xs = [.ref a] ∧ H a = some (.ins C dx fs) ∧ sp [.ref a] H (fun v H2 => ∃ n : Nat, v = .int n ∧ n ≤ 1000000 ∧ Q (.int n) H2) E
theorem call_lenOwn (hs : PySem.W.findIn X.K (.ref C) "__len__" = some (some (.ref f))) (hf : PySem.W.isFn X.K (.ref f) = true) (F : FnOk X.prog X.w X.K X.mg X.base CX k f fd ps sp) (hr : Room (k + 1) X.A) (hb : Binds X.K fd ps []) (hx : Passes CX X E) :
    CallR X (.builtin "len") (rLenOwn C sp E) := by
  intro pins s σ H xs us Q I r h
  obtain ⟨a, dx, fs, rfl, ea, q⟩ := h
  obtain ⟨u, rfl, ru⟩ := vals1 r
  cases ru
  obtain ⟨mA, O, _, _, _, _⟩ := ins_get I.hok ea
  obtain ⟨od, J, _⟩ := O.look
  obtain ⟨m, hF⟩ := I.fr
  refine PySem.W.len_K hF I.ok.mod.kin J hs hf (wpAny_mono (run_in1 (vs := [.ref a]) (us := [.ref a]) F hr hb hx I (.cons rfl .nil) q) (fun r s2 z => ?_) fun _ _ z => z)
  obtain ⟨w', H2, I2, rw', n, rfl, hn, q2⟩ := z
  obtain ⟨t, rfl⟩ := rw'
  exact ⟨⟨by omega, by omega⟩, .int n, H2, I2.tok _, ⟨_, rfl⟩, q2⟩
/-- how an object's class is known: an instance with a dict, or a list -/
inductive ClsOf (H : Hp) (b : Addr) : Value → Prop where
  | ins {C dx : Addr} {fs : List (Str × V)} (e : H b = some (.ins C dx fs)) : ClsOf H b (.ref C)
  | lst {xs : List V} (e : H b = some (.lst xs)) : ClsOf H b (.type "list")
theorem ClsOf.looks {pins : List (Addr × Obj)} {σ : St} {H : Hp} {s : Shared} {b : Addr} {tb : Value} (I : Inv X pins σ H s) (c : ClsOf H b tb) : PySem.W.Looks (model X.prog X.w) s.heap (typeOf (.ref b)) tb := by
  cases c with
  | ins e =>
    obtain ⟨mA, O, _, _, _, _⟩ := ins_get I.hok e
    obtain ⟨od, J, _⟩ := O.look
    exact J.type
  | lst e =>
    obtain ⟨_, its, n, _, ho⟩ := I.hok b _ e
    exact fun A Q E s k q => wpAny_typeOf_ref (k _ _ ho) q
/-- x == y, x an instance with an own __eq__ -/
def rEqOwn (K : PySem.W.Frag) (C : Addr) (sp : Sp) (E : XK) : R2 := fun x y H Q => ∃ (a dx b : Addr) (fs : List (Str × V)) (tb : Value), x = .ref a ∧ y = .ref b ∧ H a = some (.ins C dx fs) ∧ ClsOf H b tb ∧ PySem.W.notFirst K C tb = true ∧ sp [.ref a, .ref b] H (fun v H2 => ∃ c, v = .bl c ∧ Q (.bl c) H2) E
theorem op_eqOwn (hs : PySem.W.findIn X.K (.ref C) "__eq__" = some (some (.ref f))) (hf : PySem.W.isFn X.K (.ref f) = true) (F : FnOk X.prog X.w X.K X.mg X.base CX k f fd ps sp) (hr : Room k X.A) (hb : Binds X.K fd ps []) (hx : Passes CX X E) :
    OpR X (compareOp .Eq) (rEqOwn X.K C sp E) := by
  intro pins s σ H x y v u Q I rx ry h
  obtain ⟨a, dx, b, fs, tb, rfl, rfl, ea, cb, nf, q⟩ := h
  cases rx
  cases ry
  obtain ⟨mA, O, _, _, _, _⟩ := ins_get I.hok ea
  obtain ⟨od, J, _⟩ := O.look
  obtain ⟨m, hF⟩ := I.fr
  refine PySem.W.cmp_K (op := .Eq) (tb := tb) hr.units0 hF I.ok.mod.kin J (cb.looks I) nf hs hf ?_
  refine wpAny_mono (run_fn (ds := []) (dvs := []) (vs := [.ref a, .ref b]) (us := [.ref a, .ref b]) F hr hb .nil hx I (.cons rfl (.cons rfl .nil)) q) (fun w' s2 z => ?_) fun _ _ z => z
  obtain ⟨w2, H2, I2, rw', c, rfl, q2⟩ := z
  cases rw'
  exact ⟨.bl c, H2, I2, rfl, q2⟩
end
section
variable {X : Cx} {CX : CXT} {k : Nat} {f : Addr} {fd : FuncData} {ps : List Str} {sp : Sp} {E : St → XK} {x : Str} {p pos : Pos} {e : Expr} {es : List Expr} {t : TA}
/-- f(e, ..), f a def that asks that no guarded built-in runs beneath -/
def tCallG (sp : Sp) (E : St → XK) (t : TA) : TE := fun σ H Q => t σ H fun vs H1 => sp vs H1 Q (E σ)
theorem pe_callG (F : FnG X.prog X.w X.K X.mg X.base CX k f fd ps sp) (hgd : X.A.guards = some []) (hr : Room k X.A) (hg : Gl X x) (hm : X.mg x = some (.ref f)) (hk : PySem.W.keepIn X.K (.ref f) = true) (hb : Binds X.K fd ps []) (hx : ∀ σ, Passes CX X (E σ))
    (ha : PA X (e :: es) t) (hdb : (x == ("__debug__" : Str)) = false := by decide) (he : starEach (e :: es) X.env = (false, eval e X.env) :: starEach es X.env := by rfl) (hpl : (backTo pos (starEach es X.env)).any (·.1) = false := by rfl) :
    PE X (.Call (.Name x p) (e :: es) [] pos) (tCallG sp E t) := by
  constructor
  intro pins s σ H Q I h
  refine wpAny_Call_Name_kw (ld_glob I hg hm ?_ hdb)
  refine PySem.W.callWith_K (h₀ := X.base) I.ok.mod.kin hk (thn (ha.run pos pins s σ H _ I h) fun us s1 q0 => ?_) he hpl
  obtain ⟨vs, H1, I1, r, q⟩ := q0
  have len : us.length = ps.length := r.length.symm.trans (F.len _ _ _ _ q)
  have b := hb s1 us I1.kIn (by rw [List.append_nil]; exact len)
  rw [List.append_nil] at b
  refine ⟨I1.kIn, wpAny_call (codeAny_mono (F.go X.A X.stack s1 H1 ⟨us, []⟩ us vs Q (E σ) hgd hr I1.env0 b r q) fun z s2 q2 => ?_)⟩
  rcases z with er | fl
  · exact hx σ pins σ H1 s1 er s2 I1 q2
  · rcases fl with _ | _ | _ | u <;> first | exact False.elim q2 | exact I1.after q2
end
end L2
namespace L2
open PySem PySem.Spec PyProof.Rows
section
variable {X : Cx} {CX : CXT} {k : Nat} {f C : Addr} {fd : FuncData} {ps : List Str} {sp : Sp} {E : XK}
/-- object.__ne__ of an instance with an own __eq__ -/
theorem ne_entry {A : Around} {E' : Value → Shared → Prop} {s : Shared} {x : Addr} {b : Value} {ox : Obj} {od : Option Obj} {Q : Fin → Shared → Prop} (XK : X.K.In s.heap) (J : PySem.W.InstAt s.heap x ox C od) (hu : A.units < cLine)
    (hs : PySem.W.findIn X.K (.ref C) "__eq__" = some (some (.ref f))) (hf : PySem.W.isFn X.K (.ref f) = true)
    (h : wpAny (model X.prog X.w) A (call (.ref f) [.ref x, b]) (fun v s2 => ∃ c, v = .bool c ∧ Q (.done (.ret (.bool (!c)))) s2) E' s) : wpAny (model X.prog X.w) A (Builtin.«object.__ne__» ⟨[.ref x, b], []⟩) Q E' s := by
  have one : wpAny (model X.prog X.w) A (callSpecialIfBound? (.ref x) "__eq__" [b]) (fun r s2 => ∃ c, r = some (.bool c) ∧ Q (.done (.ret (.bool (!c)))) s2) E' s :=
    PySem.W.ifBound_K XK J hs hf (wpAny_mono h (fun v s2 hv => by obtain ⟨c, e, q⟩ := hv; exact ⟨c, by rw [e], q⟩) fun _ _ z => z)
  unfold Builtin.«object.__ne__»
  repeat (first
    | with_reducible refine wpAny_cRoomFor hu ?_
    | refine wpAny_bind (m := callSpecialIfBound? (.ref x) (Str.ofString "__eq__") [b]) (wpAny_mono one (fun r s2 hr => ?_) fun _ _ z => z)
    | wp_step)
  obtain ⟨c, rfl, q⟩ := hr
  repeat (first | exact q | exact wpAny_pure q | refine wpAny_bind (m := truthy (.bool _)) (truthy_bl ?_) | wp_step)
/-- x != y, two instances of a class with an own __eq__ and no own __ne__ -/
def rNeOwn (C : Addr) (sp : Sp) (E : XK) : R2 := fun x y H Q => ∃ (a dx b dy : Addr) (fs gs : List (Str × V)), x = .ref a ∧ y = .ref b ∧ H a = some (.ins C dx fs) ∧ H b = some (.ins C dy gs) ∧ sp [.ref a, .ref b] H (fun v H2 => ∃ c, v = .bl c ∧ Q (.bl (!c)) H2) E
theorem op_neOwn (hs : PySem.W.findIn X.K (.ref C) "__eq__" = some (some (.ref f))) (hn : PySem.W.findIn X.K (.ref C) "__ne__" = some (some (.builtin "object.__ne__"))) (hm : PySem.W.mroIn X.K C (.type "object") = some true)
    (hf : PySem.W.isFn X.K (.ref f) = true) (F : FnOk X.prog X.w X.K X.mg X.base CX k f fd ps sp) (hr : Room (k + 1) X.A) (hb : Binds X.K fd ps []) (hx : Passes CX X E) : OpR X (compareOp .NotEq) (rNeOwn C sp E) := by
  intro pins s σ H x y v u Q I rx ry h
  obtain ⟨a, dx, b, dy, fs, gs, rfl, rfl, ea, eb, q⟩ := h
  cases rx
  cases ry
  obtain ⟨mA, O, _, _, _, _⟩ := ins_get I.hok ea
  obtain ⟨od, J, _⟩ := O.look
  obtain ⟨mB, O2, _, _, _, _⟩ := ins_get I.hok eb
  obtain ⟨od2, J2, _⟩ := O2.look
  have un := hr.un
  have inst : PySem.W.Looks (model X.prog X.w) s.heap (isInstance (.ref a) (.type "object")) true := J.type.andThen (PySem.W.looks_mroIn I.kIn hm)
  have look : PySem.W.Looks (model X.prog X.w) s.heap (specialOf (.ref a) "__ne__") (some (.builtin "object.__ne__")) := J.type.andThen (PySem.W.looks_findIn I.kIn hn)
  have body : wpAny (model X.prog X.w) X.A (call (.builtin "object.__ne__") [.ref a, .ref b]) (fun v s2 => ∃ c, v = .bool c ∧ EP X pins σ Q (.bool c) s2) X.xe s := by
    refine wpAny_call (codeAny_call_builtin (by decide +kernel) PySem.F.cmpEntry_ne (PySem.W.check_slot PySem.F.cmpKind_ne PySem.F.cmpSplit_ne inst (PySem.F.cmpArgs_ne _ _) ?_))
    refine ne_entry (A := X.A.in1) I.kIn J (by show X.A.units + 1 < cLine; omega) hs hf (wpAny_mono (run_in1 (vs := [.ref a, .ref b]) (us := [.ref a, .ref b]) F hr hb hx I (.cons rfl (.cons rfl .nil)) q) (fun w2 s2 z => ?_) fun _ _ z => z)
    obtain ⟨w3, H2, I2, rw3, c, rfl, q2⟩ := z
    cases rw3
    exact ⟨c, rfl, !c, rfl, .bl (!c), H2, I2, rfl, q2⟩
  have asked : wpAny (model X.prog X.w) X.A (tryCompare (.ref a) "__ne__" (.ref b)) (fun r s2 => ∃ c, r = some (.bool c) ∧ EP X pins σ Q (.bool c) s2) X.xe s := by
    unfold tryCompare
    refine wpAny_bind (NtL.csib look (PySem.F.slot_range_iterator_ne.bind _) (wpAny_mono body (fun v s2 hv => ?_) fun _ _ z => z))
    obtain ⟨c, rfl, q2⟩ := hv
    exact wpAny_pure ⟨c, rfl, q2⟩
  unfold compareOp
  clear body q
  unfold richCompare
  simp only [oneThing_ref]
  refine wpAny_holding (wpAny_bind (wpAny_cRoomFor (by omega) ?_))
  rw [cmpInfo_NotEq]
  refine wpAny_bind (J.type.here (wpAny_bind (J2.type.here ?_)))
  rw [if_neg (by simp : ¬ (Value.ref C != Value.ref C) = true)]
  refine wpAny_bind (wpAny_pure ?_)
  rw [if_neg Bool.false_ne_true]
  refine wpAny_bind (wpAny_mono asked (fun r s2 hr2 => ?_) fun _ _ z => z)
  obtain ⟨c, rfl, q2⟩ := hr2
  exact wpAny_pure q2
end
end L2

set_option Elab.async false
set_option linter.all false
set_option maxRecDepth 100000
set_option maxHeartbeats 4000000
/-! repr of a list of data. -/
namespace L2
open PySem PySem.Spec PyProof.Rows
def keyD : Key → PyData
  | .inl i => .int i
  | .inr x => .str x
theorem pairs_data {P : Program} {w : World} {h : Heap} : ∀ {es : List DictEntry} {vs : List (Key × Value)} {kvs : List (Key × Int)}, Pairs (mixKind P w) es vs → KV (kvs.map fun p => (p.1, V.int p.2)) vs →
    ReadsAll h (es.map (·.key)) (kvs.map fun p => keyD p.1) [] ∧ ReadsAll h (es.map (·.val)) (kvs.map fun p => PyData.int p.2) []
  | _, _, [], p, r => by
    cases r
    cases p
    exact ⟨.nil, .nil⟩
  | _, _, (k, i) :: l, p, r => by
    cases r with
    | cons r1 r2 =>
      cases p with
      | cons p1 p2 p3 =>
        obtain ⟨e1, t, e2⟩ := r1
        obtain ⟨q1, q2⟩ := pairs_data p3 r2
        dsimp only at e1 e2
        refine ⟨.cons (as := []) (bs := []) ?_ q1, .cons (as := []) (bs := []) ?_ q2⟩
        · rw [← e1] at p1
          rcases keyIs_shape p1 with ⟨j, u, ek, ev⟩ | ⟨y, u, ek, ev⟩
          · dsimp only
            rw [ev, show k = _ from ek]
            exact .int j u
          · dsimp only
            rw [ev, show k = _ from ek]
            exact .str y u
        · dsimp only
          rw [p2, e2]
          exact .int i t
/-- data: without dicts, or one dict of whole numbers -/
def Dd (K : PySem.W.Frag) (H : Hp) (v : V) (d : PyData) : Prop := (Dp K H v d ∧ d.hasDict = false) ∨
  ∃ (b : Addr) (kvs : List (Key × Int)), v = .ref b ∧ H b = some (.dK (kvs.map fun p => (p.1, V.int p.2))) ∧ d = .dict ((kvs.map fun p => keyD p.1).zip (kvs.map fun p => PyData.int p.2))
section
variable {X : Cx} {pins : List (Addr × Obj)} {σ : St} {H : Hp} {s : Shared}
theorem Dd.reads {v : V} {d : PyData} {u : Value} (I : Inv X pins σ H s) (D : Dd X.K H v d) (r : RelV v u) : ∃ as, Reads s.heap u d as ∧ (d.hasDict = true → sysModules ∉ as) := by
  rcases D with ⟨D, n⟩ | ⟨b, kvs, rfl, e, rfl⟩
  · obtain ⟨as, q⟩ := Dp.reads I d v u D r
    exact ⟨as, q, fun z => by rw [n] at z; cases z⟩
  · cases r
    obtain ⟨_, ns, vs, kv, o, es, ep, ho, hx, hd, _, pr, _⟩ := I.hok b _ e
    obtain ⟨q1, q2⟩ := pairs_data (h := s.heap) pr kv
    refine ⟨b :: [] ++ [], Reads.dict ho hx.1 hd ?_ ?_, fun _ z => ?_⟩
    · rw [List.map_fst_zip (by simp)]
      exact q1
    · rw [List.map_snd_zip (by simp)]
      exact q2
    · simp only [List.append_nil, List.mem_singleton] at z
      rw [← z] at ns
      simp at ns
theorem dd_all {d : PyData} (I : Inv X pins σ H s) : ∀ {vs : List V} {us : List Value}, (∀ v ∈ vs, Dd X.K H v d) → Vals vs us → ∃ as, ReadsAll s.heap us (List.replicate vs.length d) as ∧ (d.hasDict = true → sysModules ∉ as)
  | _, _, _, .nil => ⟨[], .nil, fun _ z => nomatch z⟩
  | _, _, D, .cons r1 r2 => by
    obtain ⟨as, q1, n1⟩ := (D _ (List.mem_cons_self ..)).reads I r1
    obtain ⟨bs, q2, n2⟩ := dd_all I (fun v hv => D v (List.mem_cons_of_mem _ hv)) r2
    exact ⟨as ++ bs, .cons q1 q2, fun z => by rw [List.mem_append]; exact fun y => y.elim (n1 z) (n2 z)⟩
/-- repr(xs), a list whose items all are the same data -/
def rReprL (K : PySem.W.Frag) : List V → Hp → VK → Prop := fun xs H Q => ∃ (a : Addr) (ys : List V) (d : PyData), xs = [.ref a] ∧ H a = some (.lst ys) ∧ ys ≠ [] ∧ (∀ y ∈ ys, Dd K H y d) ∧ d.showable = true ∧ PyData.depthAll (List.replicate ys.length d) ≤ 100 ∧
  (listText (PyData.shownAll (List.replicate ys.length d))).length ≤ sizeLine ∧ Q (.str (listText (PyData.shownAll (List.replicate ys.length d)))) H
theorem show_rep (d : PyData) : ∀ n, PyData.showableAll (List.replicate n d) = true ∨ d.showable = false
  | 0 => .inl rfl
  | n + 1 => by
    cases e : d.showable with
    | false => exact .inr rfl
    | true =>
      rcases show_rep d n with z | z
      · exact .inl (by rw [List.replicate_succ, PyData.showableAll, e, z]; rfl)
      · rw [e] at z
        cases z
theorem dict_rep (d : PyData) : ∀ n, PyData.hasDictAll (List.replicate n d) = true → d.hasDict = true
  | 0, h => by cases h
  | n + 1, h => by
    rw [List.replicate_succ, PyData.hasDictAll, Bool.or_eq_true] at h
    exact h.elim id (dict_rep d n)
theorem call_reprL (hg : X.A.guards = some []) (hu : X.A.units + 200 < cLine) : CallR X (.builtin "repr") (rReprL X.K) := by
  intro pins s σ H xs us Q I r h
  obtain ⟨a, ys, d, rfl, e, hne, hd, hs, hdep, hz, q⟩ := h
  obtain ⟨u, rfl, ru⟩ := vals1 r
  cases ru
  obtain ⟨_, its, n, rv, ho⟩ := I.hok a _ e
  obtain ⟨as, ra, ns⟩ := dd_all I hd rv
  have sh : PyData.showableAll (List.replicate ys.length d) = true := (show_rep d _).resolve_right (by rw [hs]; simp)
  obtain ⟨bs, hb, hk⟩ := ReprAllK.of_readsAll (prog := X.prog) (w := X.w) ra sh (fun z => ns (dict_rep d _ z)) fun t ht => Nat.le_trans (listText_mem_le ht) hz
  have hna : a ∉ bs := not_mem_of_deeper (Reads.list ho rfl rfl (by exact ra)) (by simp only [PyData.depth]; omega) hb
  have ty : s.TypeIs (.ref a) "list" := ⟨_, ho, rfl⟩
  refine call_repr_slot (by omega) ty F.slot_list_repr.toG ?_
  cases its with
  | nil =>
    cases rv
    exact (hne rfl).elim
  | cons x l =>
    exact call_list_reprK ho rfl rfl hna hk.length_eq (fun i y z => hk.item i y (by simpa using z)) hg (fun b _ => Clear.nil b) (by show X.A.units + 1 + _ < cLine; omega) (fun _ _ z => z)
      (fun h' u tk k => ⟨_, _, rfl, .str _, H, I.kept (t' := tk) k, ⟨_, rfl⟩, q⟩) hz
end
end L2
namespace L2
open PySem PySem.Spec PyProof.Rows
section
variable {X : Cx}
/-- repr(x), x data without dicts -/
def rReprD (K : PySem.W.Frag) : List V → Hp → VK → Prop := fun xs H Q => ∃ (x : V) (d : PyData), xs = [x] ∧ Dp K H x d ∧ d.hasDict = false ∧ d.showable = true ∧ d.depth ≤ 100 ∧ d.shown.length ≤ sizeLine ∧ Q (.str d.shown) H
theorem call_reprD (hg : X.A.guards = some []) (hu : X.A.units + 200 < cLine) : CallR X (.builtin "repr") (rReprD X.K) := by
  intro pins s σ H xs us Q I r h
  obtain ⟨x, d, rfl, D, nd, sh, dep, hz, q⟩ := h
  obtain ⟨u, rfl, ru⟩ := vals1 r
  have whole : ∀ a, u = .ref a → wpAny (model X.prog X.w) X.A (call (.builtin "repr") [u]) (EP X pins σ Q) X.xe s := fun a e => by
    subst e
    obtain ⟨as, ra⟩ := Dp.reads I d x _ D ru
    exact repr_of_reads' ra sh (fun z => by rw [nd] at z; cases z) hg (by omega) (fun _ _ z => z) (fun h2 t tk k => ⟨.str d.shown, H, I.kept (t' := tk) k, ⟨_, rfl⟩, q⟩) hz
  cases D with
  | non =>
    cases ru
    simp only [PyData.shown] at q
    exact PySem.P.repr_of_none ⟨.str _, H, I.tok _, ⟨_, rfl⟩, q⟩
  | bl b =>
    cases ru
    simp only [PyData.shown] at q
    exact PySem.P.repr_of_bool ⟨.str _, H, I.tok _, ⟨_, rfl⟩, q⟩
  | int i =>
    obtain ⟨t, rfl⟩ := ru
    simp only [PyData.shown] at q
    exact PySem.P.repr_of_int (of_decide_eq_true (by simpa [PyData.showable] using sh)) ⟨.str _, H, I.tok _, ⟨_, rfl⟩, q⟩
  | str z =>
    obtain ⟨t, rfl⟩ := ru
    simp only [PyData.shown] at q hz
    exact PySem.P.repr_of_str ⟨.str _, H, I.tok _, ⟨_, rfl⟩, q⟩ hz
  | lst _ _ => exact whole _ ru
  | tup _ _ => exact whole _ ru
end
end L2

set_option Elab.async false
set_option linter.all false
set_option maxRecDepth 100000
set_option maxHeartbeats 4000000
/-! What the methods of a crowd promise. -/
namespace L2
open PySem PySem.Spec PyProof.Rows
def hasB (v : V) (zs : List Str) : Bool := match v with
  | .str z => decide (z ∈ zs)
  | _ => false
theorem inV_strs (z : Str) : ∀ zs : List Str, inV (.str z) (zs.map V.str) = decide (z ∈ zs)
  | [] => rfl
  | y :: zs => by
    have e := inV_strs z zs
    unfold inV at e ⊢
    rw [List.map_cons, List.any_cons, e]
    show ((y == z) || _) = _
    rw [Bool.eq_iff_iff]
    simp only [Bool.or_eq_true, beq_iff_eq, decide_eq_true_eq, List.mem_cons]
    exact or_congr_left eq_comm
theorem all_flat_strs (zs : List Str) : (zs.map V.str).all flatV = true := by
  rw [List.all_map]
  exact List.all_eq_true.mpr fun _ _ => rfl
theorem eqvAll_strs : ∀ zs ys : List Str, PyData.eqvAll (zs.map .str) (ys.map .str) = decide (zs = ys)
  | [], [] => rfl
  | [], _ :: _ => rfl
  | _ :: _, [] => rfl
  | z :: zs, y :: ys => by
    show PyData.eqvAll (PyData.str z :: _) (PyData.str y :: _) = _
    rw [PyData.eqvAll, eqvAll_strs zs ys, PyData.eqv, Bool.eq_iff_iff]
    simp
theorem eqv_strs (zs ys : List Str) : PyData.eqv (.list (zs.map .str)) (.list (ys.map .str)) = decide (zs = ys) := by
  rw [PyData.eqv, eqvAll_strs]
theorem lay_strs : ∀ {zs : List Str}, (∀ z ∈ zs, PyData.strOk z = true) → PyData.canLayAll0 (zs.map .str) = true
  | [], _ => rfl
  | z :: zs, h => by
    show PyData.canLayAll0 (PyData.str z :: _) = true
    rw [PyData.canLayAll0, PyData.canLay0, h z (List.mem_cons_self ..), lay_strs fun y hy => h y (List.mem_cons_of_mem _ hy)]
    rfl
theorem depth_strs : ∀ zs : List Str, PyData.depthAll (zs.map .str) ≤ 1
  | [] => by simp [PyData.depthAll]
  | z :: zs => by
    have := depth_strs zs
    simp only [List.map_cons, PyData.depthAll, PyData.depth]
    omega
theorem shaped_strs {zs : List Str} (h : ∀ z ∈ zs, PyData.strOk z = true) : SeqAt.shaped (.list (zs.map .str)) = true := by
  have := depth_strs zs
  unfold SeqAt.shaped
  rw [PyData.canLay0, lay_strs h, Bool.true_and]
  refine decide_eq_true ?_
  rw [PyData.depth]
  omega
theorem dp_strs {K : PySem.W.Frag} {H : Hp} : ∀ zs : List Str, DpAll K H (zs.map V.str) (zs.map PyData.str)
  | [] => .nil
  | z :: zs => .cons (.str z) (dp_strs zs)
structure Folk (zs : List Str) : Prop where
  ok : ∀ z ∈ zs, PyData.strOk z = true
  nd : zs.Nodup
  one : 1 ≤ zs.length
  most : zs.length ≤ 8
def CrowdOf (H : Hp) (C x : Addr) (zs : List Str) (m : Int) : Prop := CrowdAt H C x (zs.map V.str) m
theorem CrowdOf.same {H H2 : Hp} {C x : Addr} {zs : List Str} {m : Int} (s : Same H H2) (h : CrowdOf H C x zs m) : CrowdOf H2 C x zs m := CrowdAt.same s h
def spCrowdPeople (C : Addr) : Sp := fun vs H Q _ => ∃ (x : Addr) (zs : List Str) (m : Int), vs = [.ref x] ∧ CrowdOf H C x zs m ∧ zs.length ≤ 1000 ∧ ∀ H2 p, Same H H2 → H p = none → H2 p = some (.lst (zs.map V.str)) → Q (.ref p) H2
def spCrowdLen (C : Addr) : Sp := fun vs H Q _ => ∃ (x : Addr) (zs : List Str) (m : Int), vs = [.ref x] ∧ CrowdOf H C x zs m ∧ Q (.int zs.length) H
def spCrowdHas (K : PySem.W.Frag) (C : Addr) : Sp := fun vs H Q _ => ∃ (x : Addr) (v : V) (zs : List Str) (m : Int) (T : String), vs = [.ref x, v] ∧ CrowdOf H C x zs m ∧ TyN K H v T ∧ Q (.bl (hasB v zs)) H
def spCrowdEq (K : PySem.W.Frag) (C : Addr) : Sp := fun vs H Q _ => ∃ (x y : Addr) (zs : List Str) (m : Int), vs = [.ref x, .ref y] ∧ CrowdOf H C x zs m ∧ (∀ z ∈ zs, PyData.strOk z = true) ∧
  ((∃ ys n, CrowdOf H C y ys n ∧ (∀ z ∈ ys, PyData.strOk z = true) ∧ Q (.bl (decide (m = n) && decide (zs = ys))) H) ∨ ((∃ ys, H y = some (.lst ys)) ∧ Q (.bl false) H))
/-- a word that is asked for: it is there, or NotThere -/
def spNeed (K : PySem.W.Frag) (C CN : Addr) : Sp := fun vs H Q E => ∃ (x : Addr) (v : V) (zs : List Str) (m : Int) (T : String), vs = [.ref x, v] ∧ CrowdOf H C x zs m ∧ TyN K H v T ∧
  (hasB v zs = true → Q .non H) ∧ (hasB v zs = false → ∀ H2 d, Raised H H2 d "word" v → E (.ref CN) (some d) H2)
def spPlace (K : PySem.W.Frag) (C CN : Addr) : Sp := fun vs H Q E => ∃ (x : Addr) (v : V) (zs : List Str) (m : Int) (T : String), vs = [.ref x, v] ∧ CrowdOf H C x zs m ∧ TyN K H v T ∧
  (∀ i z, v = .str z → zs.idxOf z = i → z ∈ zs → Q (.int (i : Nat)) H) ∧ (hasB v zs = false → ∀ H2 d, Raised H H2 d "word" v → E (.ref CN) (some d) H2)
end L2
namespace L2
open PySem PySem.Spec PyProof.Rows
/-- an own class whose instances isinstance asks for -/
structure IsOwn (K : PySem.W.Frag) (C : Addr) : Prop where
  cl : Cls K C
  ha : PySem.W.findIn K (.ref C) "__class__" = some (some (.builtin "object.__class__"))
  hn : PySem.W.specialIn K (.builtin "object.__class__") "__get__" = some (some (.builtin "getset_descriptor.__get__"))
  ht : PySem.W.takesIn K (.builtin "object.__class__") = some true
  hm : PySem.W.mroIn K C (.type "object") = some true
theorem IsOwn.ty {K : PySem.W.Frag} {H : Hp} {a C dx : Addr} {fs : List (Str × V)} (i : IsOwn K C) (e : H a = some (.ins C dx fs)) : TyX K H (.ref a) (.ref C) := .base (.ins e i.cl i.ha i.hn i.ht i.hm)
theorem hasB_ty {K : PySem.W.Frag} {H : Hp} {v : V} {T : String} {zs : List Str} (t : TyN K H v T) (h : ¬ T = "str") : hasB v zs = false := by
  obtain ⟨ty, _⟩ := t
  cases v with
  | str z =>
    cases ty with
    | base b => cases b; exact absurd rfl h
  | _ => rfl
end L2
namespace L2
open PySem PySem.Spec PyProof.Rows
def isPairB (a b : V) (zs : List Str) : Bool := hasB a zs && (hasB b zs && !decide (a = b))
/-- a value that is asked whether it is a pair, and the answer -/
inductive PairArg (K : PySem.W.Frag) (H : Hp) (zs : List Str) : V → Bool → Prop where
  | no {v : V} {T : String} (t : TyN K H v T) (h : ¬ T = "tuple") : PairArg K H zs v false
  | len {p : Addr} {xs : List V} (e : H p = some (.tup xs)) (h : ¬ xs.length = 2) : PairArg K H zs (.ref p) false
  | two {p : Addr} {a b : V} {S T : String} (e : H p = some (.tup [a, b])) (s : TyN K H a S) (t : TyN K H b T) : PairArg K H zs (.ref p) (isPairB a b zs)
def spIsPair (K : PySem.W.Frag) (C : Addr) : Sp := fun vs H Q _ => ∃ (x : Addr) (v : V) (zs : List Str) (m : Int) (b : Bool), vs = [.ref x, v] ∧ CrowdOf H C x zs m ∧ PairArg K H zs v b ∧ Q (.bl b) H
end L2
namespace L2
open PySem PySem.Spec PyProof.Rows
def spCrowdIter (C : Addr) : Sp := fun vs H Q _ => ∃ (x dx l : Addr) (xs : List V) (m : Int), vs = [.ref x] ∧ H x = some (.ins C dx (crowdFs l m)) ∧ H l = some (.lst xs) ∧ ∀ it, H it = none → Q (.ref it) (upd H it (ItO l it 0))
end L2

set_option Elab.async false
set_option linter.all false
set_option maxRecDepth 100000
set_option maxHeartbeats 4000000
/-! A walk whose turns are anything, for comprehensions within comprehensions; the pairs of a crowd. -/
namespace L2
open PySem PySem.Spec PyProof.Rows
theorem nest_it {J : It} {n : Nat} {G : Hp → Prop} {Y : Nat → Hp → V → Hp → Prop} (w : Walk J n G Y) {B : V → Hp → (Hp → Prop) → Prop} {H0 : Hp} {Qd : Hp → Prop} (Pv : Nat → Hp → Prop) (h0 : Pv 0 H0) (hG : ∀ i H, i ≤ n → Pv i H → G H)
    (hs : ∀ i x H H', i < n → Pv i H → Y i H x H' → B x H' (Pv (i + 1))) (hd : ∀ H, Pv n H → Qd H) :
    ∃ W : Nat → Nat → Hp → Prop, (∃ m, W 0 m H0) ∧ ∀ i m H, W i m H → (J.stop i H ∧ Qd H) ∨ (J.go i H ∧ ∃ Nx : Hp → Prop, (∀ H', Nx H' → ∃ m', m' < m ∧ W (i + 1) m' H') ∧ ∀ x H', J.yld i H x H' → B x H' Nx) := by
  refine ⟨fun i m H => m = n - i ∧ i ≤ n ∧ Pv i H, ⟨n, rfl, Nat.zero_le _, h0⟩, fun i m H h => ?_⟩
  obtain ⟨rfl, hi, p⟩ := h
  rcases Nat.lt_or_ge i n with lt | ge
  · refine .inr ⟨w.goes i H lt (hG i H hi p), Pv (i + 1), fun H2 q => ⟨n - (i + 1), by omega, rfl, lt, q⟩, fun x H2 y => hs i x H H2 lt p (w.yields i H x H2 lt (hG i H hi p) y)⟩
  · obtain rfl : i = n := Nat.le_antisymm hi ge
    exact .inl ⟨w.stops H (hG i H hi p), hd H p⟩
def rowOf (zs : List Str) (a : Str) : List (Str × Str) := (zs.filter fun b => a ≠ b).map fun b => (a, b)
def pairsOf (zs : List Str) : List (Str × Str) := zs.flatMap (rowOf zs)
/-- a list of new tuples of two words, apart from D -/
def Tups (D : Addr) (H : Hp) (acc : List V) (ps : List (Str × Str)) : Prop := acc.length = ps.length ∧ ∀ (j : Nat) (y : V) (q : Str × Str), acc[j]? = some y → ps[j]? = some q → ∃ t, y = .ref t ∧ t ≠ D ∧ H t = some (.tup [.str q.1, .str q.2])
theorem Tups.but {D : Addr} {H H2 : Hp} {acc : List V} {ps : List (Str × Str)} (t : Tups D H acc ps) (b : But D H H2) : Tups D H2 acc ps := ⟨t.1, fun j y q h1 h2 => by
  obtain ⟨p, e, n, h⟩ := t.2 j y q h1 h2
  exact ⟨p, e, n, b _ _ n h⟩⟩
theorem Tups.add {D p : Addr} {H : Hp} {acc : List V} {ps : List (Str × Str)} {a b : Str} (t : Tups D H acc ps) (n : p ≠ D) (h : H p = some (.tup [.str a, .str b])) : Tups D H (acc ++ [.ref p]) (ps ++ [(a, b)]) := by
  refine ⟨by rw [List.length_append, List.length_append, t.1]; rfl, fun j y q h1 h2 => ?_⟩
  rcases Nat.lt_trichotomy j acc.length with c | c | c
  · rw [List.getElem?_append_left c] at h1
    rw [List.getElem?_append_left (by rw [← t.1]; exact c)] at h2
    exact t.2 j y q h1 h2
  · subst c
    rw [List.getElem?_append_right (Nat.le_refl _), Nat.sub_self] at h1
    rw [t.1, List.getElem?_append_right (Nat.le_refl _), Nat.sub_self] at h2
    cases h1
    cases h2
    exact ⟨p, rfl, n, h⟩
  · rw [List.getElem?_eq_none (by rw [List.length_append, List.length_singleton]; omega)] at h1
    cases h1
theorem pairs_take (zs : List Str) (i : Nat) (a : Str) (h : zs[i]? = some a) : (zs.take (i + 1)).flatMap (rowOf zs) = (zs.take i).flatMap (rowOf zs) ++ rowOf zs a := by
  rw [List.take_add_one, h, List.flatMap_append]
  simp
theorem row_take (zs : List Str) (a b : Str) (j : Nat) (h : zs[j]? = some b) : ((zs.take (j + 1)).filter fun c => a ≠ c) = ((zs.take j).filter fun c => a ≠ c) ++ (if a ≠ b then [b] else []) := by
  rw [List.take_add_one, h, List.filter_append]
  congr 1
  by_cases e : a = b
  · subst e
    simp
  · simp [e]
def spCrowdPairs (C : Addr) : Sp := fun vs H Q _ => ∃ (x : Addr) (zs : List Str) (m : Int), vs = [.ref x] ∧ CrowdOf H C x zs m ∧ zs.length ≤ 8 ∧ ∀ H2 p ys, Same H H2 → H p = none → H2 p = some (.lst ys) → Tups p H2 ys (pairsOf zs) → Q (.ref p) H2
theorem pairs_len {zs : List Str} (h : zs.length ≤ 8) : ∀ {ys : List Str}, ys.length ≤ 8 → (ys.flatMap (rowOf zs)).length ≤ 64 := fun {ys} hy => by
  have key : ∀ l : List Str, (l.flatMap (rowOf zs)).length ≤ 8 * l.length := fun l => by
    induction l with
    | nil => simp
    | cons a l ih =>
      rw [List.flatMap_cons, List.length_append, List.length_cons]
      have : (rowOf zs a).length ≤ 8 := by
        unfold rowOf
        rw [List.length_map]
        exact Nat.le_trans (List.length_filter_le _ _) h
      omega
  have := key ys
  omega
end L2
namespace L2
open PySem PySem.Spec PyProof.Rows
/-- a list of tuples of two words -/
def Tps (H : Hp) (acc : List V) (ps : List (Str × Str)) : Prop := acc.length = ps.length ∧ ∀ (j : Nat) (y : V) (q : Str × Str), acc[j]? = some y → ps[j]? = some q → ∃ t, y = .ref t ∧ H t = some (.tup [.str q.1, .str q.2])
theorem Tups.tps {D : Addr} {H : Hp} {acc : List V} {ps : List (Str × Str)} (t : Tups D H acc ps) : Tps H acc ps := ⟨t.1, fun j y q h1 h2 => by
  obtain ⟨p, e, _, h⟩ := t.2 j y q h1 h2
  exact ⟨p, e, h⟩⟩
theorem Tps.same {H H2 : Hp} {acc : List V} {ps : List (Str × Str)} (t : Tps H acc ps) (s : Same H H2) : Tps H2 acc ps := ⟨t.1, fun j y q h1 h2 => by
  obtain ⟨p, e, h⟩ := t.2 j y q h1 h2
  exact ⟨p, e, s _ _ h⟩⟩
theorem Tps.append {H : Hp} {a1 a2 : List V} {p1 p2 : List (Str × Str)} (t1 : Tps H a1 p1) (t2 : Tps H a2 p2) : Tps H (a1 ++ a2) (p1 ++ p2) := by
  refine ⟨by rw [List.length_append, List.length_append, t1.1, t2.1], fun j y q h1 h2 => ?_⟩
  rcases Nat.lt_or_ge j a1.length with c | c
  · rw [List.getElem?_append_left c] at h1
    rw [List.getElem?_append_left (by rw [← t1.1]; exact c)] at h2
    exact t1.2 j y q h1 h2
  · rw [List.getElem?_append_right c] at h1
    rw [List.getElem?_append_right (by rw [← t1.1]; exact c), ← t1.1] at h2
    exact t2.2 _ y q h1 h2
def spLawPairs (K : PySem.W.Frag) : Sp := fun vs H Q _ => ∃ (l : Addr) (zs : List Str), vs = [.ref l] ∧ H l = some (.lst (zs.map V.str)) ∧ zs.length ≤ 8 ∧ ∀ H2 p ys, Same H H2 → H p = none → H2 p = some (.lst ys) → Tps H2 ys (pairsOf zs) → Q (.ref p) H2
end L2

set_option Elab.async false
set_option linter.all false
set_option maxRecDepth 100000
set_option maxHeartbeats 4000000
/-! Several clauses «except X as e», all by one name. -/
namespace L2
open PySem PySem.Spec PyProof.Rows
def offEnds (i : Nat) (D : Ends) : Ends := { nx := fun σ H => D.nx (σ.set i none) H, rt := D.rt, bk := fun σ H => D.bk (σ.set i none) H, ct := fun σ H => D.ct (σ.set i none) H }
def wAll (K : PySem.W.Frag) (i : Nat) (Wout : WX) (D : Ends) : List (Value × (Addr → Value → Option Addr → TS)) → WX
  | [] => Wout
  | p :: r => fun cls d σ H => ∃ b, PySem.W.exmOne K cls p.1 = some b ∧ (b = true → ∀ a, H a = none → p.2 a cls d (offEnds i D) (σ.set i (some (.ref a))) H) ∧ (b = false → wAll K i Wout D r cls d σ H)
inductive AllAs (X : Cx) (n : Str) : List ExceptHandler → List (Value × (Addr → Value → Option Addr → TS)) → Prop
  | nil : AllAs X n [] []
  | cons {x : Str} {c : Value} {ts : Addr → Value → Option Addr → TS} {b0 : Stmt} {rest : List Stmt} {p1 p2 : Pos} {hs : List ExceptHandler} {l : List (Value × (Addr → Value → Option Addr → TS))} (names : Names X x c)
      (suite : ∀ (a : Addr) (o : Obj) (cls : Value) (d : Option Addr) (pn : List (Addr × Obj)), Zc cls d o → (∃ vs, o.data = .fields vs) → PSs (X.suite a ((a, o) :: pn)) (b0 :: rest) (ts a cls d)) (more : AllAs X n hs l) :
      AllAs X n (.ExceptHandler (some (.Name x p1)) (some n) (b0 :: rest) p2 :: hs) ((c, ts) :: l)
section
variable {X : Cx} {n : Str} {i : Nat} {Wout : WX} {D : Ends} {pins : List (Addr × Obj)} {σ : St} {H : Hp} {sI : Shared} {a : Addr} {B : Heap} {cls : Value} {d : Option Addr}
theorem no_frame {L : List Env} {h : Heap} {o : Obj} {vs : Array Value} (ff : h.FunFrames B L) (e : h.get? a = some o) (q : o.data = .fields vs) : a ∉ frs L := fun m => by
  obtain ⟨_, o2, e2, no⟩ := ff.mem m
  cases e.symm.trans e2
  exact no _ q
/-- the clauses are looked at, one after another, while the exception is held -/
theorem look_all (hs : X.stack = X.env :: X.outer) (hf : X.env.frame = some X.env.locals) (hN : X.N.Nodup) (hi : X.N[i]? = some n) (hln : X.env.kindOf n = some .local) (tk : Takes X Wout) {s2 : Shared} {h3 : Heap} (J : Inv X pins σ H sI)
    (nb : ∀ b o, sI.heap.get? b = some o → b ∉ frs X.stack → B.get? b = some o) (os : s2.os = sI.os) (ag : AllBare s2.gens) (na : H a = none) (fl : HandSPX.FlyingZ B (X.env :: X.outer) a (Zc cls d) h3) (up : sI.heap.UpToSlots h3)
    {hds : List ExceptHandler} {l : List (Value × (Addr → Value → Option Addr → TS))} (cl : AllAs X n hds l) (w : wAll X.K i Wout D l cls d σ H) :
    wpAny (model X.prog X.w) X.A (handleBy (.ref a) X.env hds) (SP X pins D) X.xe { s2 with heap := h3 } := by
  have onground : ∀ {h : Heap}, HandSPX.FlyingZ B (X.env :: X.outer) a (Zc cls d) h → sI.heap.UpToSlots h → Inv X pins σ H { s2 with heap := h } := fun {h} f u => J.landed nb f.1 u os ag
  obtain ⟨o3, v3, e3, z3, q3⟩ := fl.there
  have nfr := no_frame fl.2.2.1 e3 q3
  have nL : a ≠ X.env.locals := fun z => nfr (List.mem_filterMap.mpr ⟨X.env, List.mem_cons_self, by rw [hf, z]⟩)
  have nF : a ∉ X.fs := fun m => by
    obtain ⟨v, hv, q⟩ := List.mem_filterMap.mp m
    exact nfr (List.mem_filterMap.mpr ⟨v, List.mem_cons_of_mem _ hv, q⟩)
  have J3 := onground fl up
  have T3 := J3.suite e3 q3 na nL nF
  induction cl with
  | nil =>
    obtain ⟨_, _, _, o, vs, T, oT, ts, eo, _, qo, one, _⟩ := id fl
    have out : wpAny (model X.prog X.w) X.A (setFlight (.ref a) X.env.frame) (fun _ s4 => wpAny (model X.prog X.w) X.A (throw (.ref a) : Sem Flow) (SP X pins D) X.xe s4) X.xe { s2 with heap := h3 } := by
      rw [hf]
      refine HandSPX.setFlight_upZ fl fun h4 f4 u4 => wpAny_throw (tk _ _ ⟨a, B, sI, pins, σ, H, cls, d, rfl, J, nb, up.trans u4, ?_, na, os, ag, w⟩)
      rw [hs]
      exact .inr (.inr f4)
    refine wpAny_handleBy_nil ?_
    unfold PySem.passOn
    refine wpAny_bind (wpAny_field eo qo one ?_)
    rw [if_neg (by simp : ¬ ((Value.ref T == Value.none) = true))]
    first | exact wpAny_bind out | exact wpAny_bind (wpAny_pure (wpAny_bind out))
  | @cons x c ts b0 rest p1 p2 hds l names suite more ih =>
    obtain ⟨b, hb, yes, no⟩ := w
    have meets := PySem.W.exm_one (M := model X.prog X.w) J3.kIn (fun A Q E s k q => wpAny_typeOf_ref (k _ _ e3) (by rw [z3.1]; exact q)) hb
    have named : ∀ {Q : Value → Shared → Prop} {E : Value → Shared → Prop}, Q c { s2 with heap := h3 } → wpAny (model X.prog X.w) (X.A.mark (some (.ref a))) (eval (.Name x p1) X.env) Q E { s2 with heap := h3 } := fun {Q E} q => by
      rcases names with ⟨gl, db, hm | ⟨hm, hv, hn⟩⟩
      · exact ld_glob (X := X.suite a ((a, o3) :: (X.pn ++ pins))) T3 gl hm q db
      · exact ld_blt (X := X.suite a ((a, o3) :: (X.pn ++ pins))) T3 gl hm hv q hn db
    refine wpAny_handleBy_cons (codeAny_handlers_test (named (meets.here ?_))) (fun z => by cases z)
    cases b with
    | false => exact ih (no rfl)
    | true =>
      refine codeAny_handlers_suite_as (HandSPX.lands_againZ fl fun h4 f4 u4 => ?_)
      obtain ⟨o4, v4, e4, z4, q4⟩ := f4.there
      have T4 := (onground f4 (up.trans u4)).suite e4 q4 na nL nF
      refine store_ok (X := X.suite a ((a, o4) :: (X.pn ++ pins))) (v := .ref a) T4 hN hi (.inl hln) rfl (fun s5 T5 => ?_) (.inr hln)
      refine wpAny_mono ((suite a o4 cls d (X.pn ++ pins) z4 ⟨_, q4⟩).run [] s5 _ H _ T5 (yes rfl a na)) (fun f s6 h6 => ?_) fun _ _ z => z.elim
      have last : ∀ {τ : St} {G : Hp} {Q : Shared → Prop}, Inv (X.suite a ((a, o4) :: (X.pn ++ pins))) [] τ G s6 → (∀ s7, Inv X pins (τ.set i none) G s7 → Q s7) →
          wpAny (model X.prog X.w) X.A (do bindName X.env n .none; unbindBehindTheSuite X.env n p2) (fun _ s7 => Q s7) X.xe s6 := fun {τ G Q} T6 q => gone_ok (T6.unsuite J.ok) hN hi hln q
      cases f with
      | ret u =>
        obtain ⟨_, _, _, T6, r6, q6⟩ := h6
        exact last T6 fun _ J7 => ⟨_, _, _, J7, r6, q6⟩
      | next => obtain ⟨_, _, T6, q6⟩ := h6; exact last T6 fun _ J7 => ⟨_, _, J7, q6⟩
      | brk => obtain ⟨_, _, T6, q6⟩ := h6; exact last T6 fun _ J7 => ⟨_, _, J7, q6⟩
      | cont => obtain ⟨_, _, T6, q6⟩ := h6; exact last T6 fun _ J7 => ⟨_, _, J7, q6⟩
/-- try: .. / except X as e: .. / except Y as e: .. -/
theorem ps_try_all {body : List Stmt} {h0 : ExceptHandler} {hds : List ExceptHandler} {l : List (Value × (Addr → Value → Option Addr → TS))} {pos : Pos} {tb : WX → TS} (hs : X.stack = X.env :: X.outer) (hf : X.env.frame = some X.env.locals) (hN : X.N.Nodup)
    (hi : X.N[i]? = some n) (hln : X.env.kindOf n = some .local) (tk : Takes X Wout) (hb : ∀ (W : WX) (pn : List (Addr × Obj)) (xe : Value → Shared → Prop), Takes (X.tr pn xe) W → PassesOwn (model X.prog X.w) X.A X.env xe → PSs (X.tr pn xe) body (tb W))
    (cl : AllAs X n (h0 :: hds) l) : PS X (.Try body (h0 :: hds) [] [] pos) (fun D σ H => tb (wAll X.K i Wout D l) D σ H) := by
  constructor
  intro pins s σ H D I h
  have fr : X.A.frames = some (X.env :: X.outer) := I.ok.frames.trans (by rw [hs])
  refine wpAny_Try_except (wpAny_mono ((hb (wAll X.K i Wout D l) (X.pn ++ pins) (fun e s1 => wpAny (model X.prog X.w) X.A (noteFrame e X.env) (fun _ s2 => wpAny (model X.prog X.w) X.A (setFlight e none)
    (fun _ s3 => wpAny (model X.prog X.w) X.A (handleBy e X.env (h0 :: hds)) (SP X pins D) X.xe s3) X.xe s2) X.xe s1) (fun u s2 z => ?_) PassesOwn.looking).run [] s σ H D (I.toTry _) h) (fun f s1 q => ?_) fun _ _ z => z)
  · obtain ⟨a, B, sI, ps, τ, G, cls, d, rfl, J, nb, up, sky, na, os, ag, w⟩ := z
    rw [show (X.tr (X.pn ++ pins) _).stack = X.env :: X.outer from hs] at sky
    exact Sky.land Zc.steady fr hf sky fun h3 f3 u3 => look_all hs hf hN hi hln tk (J.ofTry I.ok) nb os ag na f3 (up.trans u3) cl w
  · cases f with
    | next => obtain ⟨τ, G, J, q⟩ := q; exact wpAny_execs_nil ⟨τ, G, J.ofTry I.ok, q⟩
    | ret u => obtain ⟨v, τ, G, J, r, q⟩ := q; exact ⟨v, τ, G, J.ofTry I.ok, r, q⟩
    | brk => obtain ⟨τ, G, J, q⟩ := q; exact ⟨τ, G, J.ofTry I.ok, q⟩
    | cont => obtain ⟨τ, G, J, q⟩ := q; exact ⟨τ, G, J.ofTry I.ok, q⟩
end
end L2
namespace L2
open PySem PySem.Spec PyProof.Rows
theorem takes_len {X : Cx} {W : WX} (t : Takes X W) : Takes X (fun c d σ H => σ.length = X.N.length → W c d σ H) := fun u s2 x => by
  obtain ⟨a, B, sI, ps, σ, H, cls, d, e, I, nb, up, sky, na, os, ag, w⟩ := x
  exact t u s2 ⟨a, B, sI, ps, σ, H, cls, d, e, I, nb, up, sky, na, os, ag, w I.len⟩
/-- what a clause «except C as e: return [w, repr(e.f)]» asks -/
def askOne (K : PySem.W.Frag) (C : Addr) (f w : Str) (cls : Value) (d : Option Addr) (H : Hp) (Q : VK) : Prop := cls = .ref C ∧ ∃ (dx : Addr) (v : V) (D : PyData), d = some dx ∧ H dx = some (.xd [(f, v)]) ∧ Dp K H v D ∧ D.hasDict = false ∧ D.showable = true ∧ D.depth ≤ 100 ∧
  D.shown.length ≤ sizeLine ∧ ∀ G p, Same H G → H p = none → G p = some (.lst [.str w, .str D.shown]) → Q (.ref p) G
def asks (K : PySem.W.Frag) : List (Addr × Str × Str) → Value → Option Addr → Hp → VK → Prop
  | [], _, _, _, _ => False
  | p :: r, cls, d, H, Q => ∃ b, PySem.W.exmOne K cls (.ref p.1) = some b ∧ (b = true → askOne K p.1 p.2.1 p.2.2 cls d H Q) ∧ (b = false → asks K r cls d H Q)
/-- try: call() / except C as e: return [w, repr(e.f)] .. / return ["none"] -/
def TTref (K : PySem.W.Frag) (l : List (Addr × Str × Str)) : (XK → Hp → VK → Prop) → Hp → VK → Prop := fun tl H Q => tl (fun cls d G => asks K l cls d G Q) H (fun _ G => ([V.str "none"] : List V).length ≤ sizeLine ∧ ∀ p, G p = none → Q (.ref p) (upd G p (.lst [.str "none"])))
structure Ef (K : PySem.W.Frag) (mg : Str → Option Value) (name f : Str) (C : Addr) : Prop where
  g : mg name = some (.ref C)
  xf : XfC K C
  no : PySem.W.findIn K (.ref C) f = some none
end L2
namespace L2
open PySem PySem.Spec PyProof.Rows
def tAsk (K : PySem.W.Frag) (C : Addr) (f w : Str) : Addr → Value → Option Addr → TS := fun a cls d => tRet (tLst (tCons (tC (.str w)) (tCons (tCB (rReprD K) (tCons (tXf a cls d C f (tVar 1)) tNil)) tNil)))
theorem ask_ret {K : PySem.W.Frag} {C a : Addr} {f w : Str} {cls : Value} {d : Option Addr} {H : Hp} {Q : VK} {D : Ends} {σ : St} (len : σ.length = 2) (hQ : D.rt = Q) (h : askOne K C f w cls d H Q) : tAsk K C f w a cls d (offEnds 1 D) (σ.set 1 (some (.ref a))) H := by
  obtain ⟨rfl, dx, v, dd, rfl, hx, dp, nd, sh, de, sz, q⟩ := h
  refine ⟨.ref a, by rw [List.getElem?_set_self (by omega)], rfl, rfl, dx, _, v, rfl, hx, by simp, v, dd, rfl, dp, nd, sh, de, sz, (by show 2 ≤ sizeLine; decide), fun p np => ?_⟩
  show D.rt _ _
  rw [hQ]
  exact q _ p (same_new np) np upd_same
theorem asks_all {K : PySem.W.Frag} {cls : Value} {d : Option Addr} {H : Hp} {Q : VK} {D : Ends} {σ : St} (len : σ.length = 2) (hQ : D.rt = Q) : ∀ {l : List (Addr × Str × Str)}, asks K l cls d H Q →
    wAll K 1 (fun _ _ _ _ => False) D (l.map fun p => (Value.ref p.1, tAsk K p.1 p.2.1 p.2.2)) cls d σ H
  | [], h => h
  | p :: l, h => by
    obtain ⟨b, e, yes, no⟩ := h
    exact ⟨b, e, fun hb a na => ask_ret len hQ (yes hb), fun hb => asks_all len hQ (no hb)⟩
end L2

set_option Elab.async false
set_option linter.all false
set_option maxRecDepth 100000
set_option maxHeartbeats 4000000
/-! list(o), o an instance whose own __iter__ gives a list's iterator and that has an own __len__. -/
namespace L2
open PySem PySem.Spec PyProof.Rows
section
variable {prog : Program} {w : World} {A : Around} {E' : Value → Shared → Prop} {s : Shared} {it l : Addr} {i : Nat} {items : Array Value}
theorem next_one {x : Value} {Q : Option Value → Shared → Prop} (ho : s.heap.get? it = some (GNX.itObj l i)) (hl : s.heap.IsList l items) (hx : items[i]? = some x)
    (hQ : ∀ h2, h2.get? it = some (GNX.itObj l (i + 1)) → Heap.SameBut it s.heap h2 → Q (some x) { s with heap := h2 }) : wpAny (model prog w) A (pyNext (.ref it)) Q E' s := by
  have ty : s.TypeIs (.ref it) "list_iterator" := ⟨_, ho, rfl⟩
  unfold pyNext
  refine wpAny_bind (wpAny_attempt (wpAny_callSpecial?_slot (name := Str.ofString "__next__") ty slot_listiter_next (wpAny_call_entry slot_listiter_next ty entry_listiter_next ?_ (args_listiter_next _))))
  refine wpAny_mono (GNX.next_item (Q := fun v s2 => v = x ∧ Q (some x) s2) ho hl hx fun h2 e sb => ⟨rfl, hQ h2 e sb⟩) (fun f s2 q => ?_) fun _ _ z => z
  obtain ⟨v, rfl, rfl, q⟩ := q
  exact ⟨v, rfl, wpAny_pure q⟩
theorem next_over {Q : Option Value → Shared → Prop} (hh : A.handled = none) (ho : s.heap.get? it = some (GNX.itObj l i)) (hl : s.heap.IsList l items) (hx : items[i]? = none)
    (hQ : ∀ h1 h2, h1.get? it = some (GNX.itEnd i) → Heap.SameBut it s.heap h1 → (∀ b o, h1.get? b = some o → h2.get? b = some o) → Q none { s with heap := h2 }) : wpAny (model prog w) A (pyNext (.ref it)) Q E' s := by
  have ty : s.TypeIs (.ref it) "list_iterator" := ⟨_, ho, rfl⟩
  unfold pyNext
  refine wpAny_bind (wpAny_attempt (wpAny_callSpecial?_slot (name := Str.ofString "__next__") ty slot_listiter_next (wpAny_call_entry slot_listiter_next ty entry_listiter_next ?_ (args_listiter_next _))))
  refine wpAny_mono (GNX.next_end (Q := fun _ _ => False) hh ho hl hx fun h1 h2 e vs e1 sb k _ he _ => ?_) (fun f s2 q => ?_) fun _ _ z => z
  · refine wpAny_bind (wpAny_isInstance (T := "StopIteration") (b := true) ⟨_, he, rfl⟩ isSubtype_stop ?_)
    exact wpAny_pure (hQ h1 h2 e1 sb k)
  · obtain ⟨_, _, z⟩ := q
    exact z.elim
end
section
variable {X : Cx} {pins : List (Addr × Obj)} {σ : St} {H : Hp} {s : Shared} {A A1 : Around} {CX : CXT} {k : Nat} {f : Addr} {fd : FuncData} {ps : List Str} {sp : Sp} {E : XK}
theorem run_sub (sb : Sub X k A) (F : FnOk X.prog X.w X.K X.mg X.base CX k f fd ps sp) (hb : Binds X.K fd ps []) (hx : Passes CX X E) {Q : VK} {us : List Value} {vs : List V} (I : Inv X pins σ H s) (r : Vals vs us) (h : sp vs H Q E) :
    wpAny (model X.prog X.w) A (call (.ref f) us) (EP X pins σ Q) X.xe s := by
  have len : us.length = ps.length := r.length.symm.trans (F.len _ _ _ _ h)
  have b := hb s us I.kIn (by rw [List.append_nil]; exact len)
  rw [List.append_nil] at b
  have e0 : Env0 X.prog X.w X.K X.mg X.base A X.stack s H := { I.env0 with frames := by rw [sb.fr]; exact I.env0.frames }
  refine wpAny_call (codeAny_mono (F.run A X.stack s H ⟨us, []⟩ us vs Q E sb.room e0 b r h) fun z s2 q => ?_)
  rcases z with e | fl
  · exact hx pins σ H s e s2 I q
  · rcases fl with _ | _ | _ | u <;> first | exact False.elim q | exact I.after q
/-- the list at q takes the rest of the list at l -/
theorem it_fill {q it l : Addr} {xs : List V} {H0 : Hp} {Rs : Result → Shared → Prop} (hh : A1.in1.handled = none) (hl : H0 l = some (.lst xs)) (lq : l ≠ q) (li : l ≠ it) (iq : it ≠ q) (hsz : xs.length < sizeLine)
    (fin : ∀ H2 s2, Inv X pins σ H2 s2 → H2 q = some (.lst xs) → (∀ b o, b ≠ q → b ≠ it → H0 b = some o → H2 b = some o) → Rs (.ok (.ret .none)) s2) :
    ∀ (k i : Nat) (H : Hp) (s : Shared), i + k = xs.length → Inv X pins σ H s → H q = some (.lst (xs.take i)) → H it = some (ItO l it i) → (∀ b o, b ≠ q → b ≠ it → H0 b = some o → H b = some o) →
      codeAny (model X.prog X.w) A1 (.builtin "list.extend.loop" ⟨[.ref q, .ref it, .none], []⟩) Rs s := by
  intro k
  induction k with
  | zero =>
    intro i H s hi I hq hit hk
    have ei : i = xs.length := hi
    subst ei
    rw [List.take_length] at hq
    refine codeAny_builtin PySem.F.entry_extend_loop ?_
    rw [Around.under_plainId PySem.F.plain_extend_loop _]
    obtain ⟨its, rv, pl, _⟩ := I.list (SqL.of (hk _ _ lq li hl))
    have mu : Mut (H it) := by rw [hit]; exact True.intro
    have z : its.toArray[xs.length]? = none := by rw [List.getElem?_toArray]; exact List.getElem?_eq_none (Nat.le_of_eq rv.length.symm)
    show wpAny _ A1.in1 (pyNext (.ref it) >>= _) _ _ s
    refine wpAny_bind (next_over hh (itO_get I hit) pl.isList z fun h1 h2 e1 sb kp => ?_)
    have I1 : Inv X pins σ (upd H it (ItE it xs.length)) { s with heap := h1 } := I.write (x := it) (e := it) (t' := s.toks) mu (.inl rfl) (fun b o nb e => (sb.2 b nb).trans e) ⟨_, e1⟩ (itE_ok e1)
    refine wpAny_pure (fin (upd H it (ItE it xs.length)) { s with heap := h2 } (I1.kept (t' := s.toks) kp) ?_ fun b o b1 b2 e => ?_)
    · rw [upd_ne (Ne.symm iq)]
      exact hq
    · rw [upd_ne b2]
      exact hk b o b1 b2 e
  | succ k ih =>
    intro i H s hi I hq hit hk
    have lt : i < xs.length := by omega
    refine codeAny_builtin PySem.F.entry_extend_loop ?_
    rw [Around.under_plainId PySem.F.plain_extend_loop _]
    obtain ⟨its, rv, pl, _⟩ := I.list (SqL.of (hk _ _ lq li hl))
    have mu : Mut (H it) := by rw [hit]; exact True.intro
    obtain ⟨u, hu, ru⟩ := rv.get (List.getElem?_eq_getElem lt)
    show wpAny _ A1.in1 (pyNext (.ref it) >>= _) _ _ s
    refine wpAny_bind (next_one (x := u) (itO_get I hit) pl.isList (by rw [List.getElem?_toArray]; exact hu) fun h2 e2 sb => ?_)
    have I1 : Inv X pins σ (upd H it (ItO l it (i + 1))) { s with heap := h2 } := I.write (x := it) (e := it) (t' := s.toks) mu (.inl rfl) (fun b o nb e => (sb.2 b nb).trans e) ⟨_, e2⟩ (itO_ok e2)
    have hq1 : upd H it (ItO l it (i + 1)) q = some (.lst (xs.take i)) := by rw [upd_ne (Ne.symm iq)]; exact hq
    obtain ⟨_, its2, c2, r2, len2, e3⟩ := I1.lstM hq1
    have l2 : its2.length = i := by rw [← r2.length, List.length_take]; omega
    refine wpAny_bind (m := updateSeq q (·.push u)) (wpAny_updateSeq e3 rfl ?_ (by rw [List.size_toArray]; omega) (by show (its2.toArray.push u).size ≤ sizeLine + 1; rw [Array.size_push, List.size_toArray]; omega))
    refine wpAny_pure ⟨plainId_quiet PySem.F.plain_extend_loop _, ih (i + 1) _ _ (by omega) (I1.lset (its' := its2 ++ [u]) (ys := xs.take i ++ [xs[i]]) (t' := s.toks) hq1 e3 (by simp) (r2.append (.cons ru .nil)) ?_) ?_ ?_ fun b o b1 b2 e => ?_⟩
    · rw [List.length_append, List.length_singleton, List.length_take]
      omega
    · rw [upd_same, List.take_add_one, List.getElem?_eq_getElem lt]
      rfl
    · rw [upd_ne iq, upd_same]
    · rw [upd_ne b1, upd_ne b2]
      exact hk b o b1 b2 e
end
end L2

set_option Elab.async false
set_option linter.all false
set_option maxRecDepth 100000
set_option maxHeartbeats 4000000
namespace L2
open PySem PySem.Spec PyProof.Rows
section
variable {X : Cx} {pins : List (Addr × Obj)} {σ : St} {H : Hp} {s : Shared} {A A1 : Around}
variable {kL : Nat} {fl C a dx : Addr} {fs : List (Str × V)} {fdL : FuncData} {psL : List Str} {spL : Sp} {EL : XK}
theorem run_sub0 {k : Nat} {f : Addr} {fd : FuncData} {ps : List Str} {sp : Sp} {E : XK} (sb : Sub X k A) (F : FnOk X.prog X.w X.K X.mg X.base CX0 k f fd ps sp) (hb : Binds X.K fd ps []) {Q : VK} {us : List Value} {vs : List V} (I : Inv X pins σ H s) (r : Vals vs us)
    (h : sp vs H Q E) : wpAny (model X.prog X.w) A (call (.ref f) us) (EP X pins σ Q) (fun _ _ => False) s := by
  have len : us.length = ps.length := r.length.symm.trans (F.len _ _ _ _ h)
  have b := hb s us I.kIn (by rw [List.append_nil]; exact len)
  rw [List.append_nil] at b
  have e0 : Env0 X.prog X.w X.K X.mg X.base A X.stack s H := { I.env0 with frames := by rw [sb.fr]; exact I.env0.frames }
  refine wpAny_call (codeAny_mono (F.run A X.stack s H ⟨us, []⟩ us vs Q E sb.room e0 b r h) fun z s2 q => ?_)
  rcases z with e | fl
  · exact q
  · rcases fl with _ | _ | _ | u <;> first | exact False.elim q | exact I.after q
theorem hint_own (sb : Sub X (kL + 1) A) (hs : PySem.W.findIn X.K (.ref C) "__len__" = some (some (.ref fl))) (hf : PySem.W.isFn X.K (.ref fl) = true) (FL : FnOk X.prog X.w X.K X.mg X.base CX0 kL fl fdL psL spL) (bL : Binds X.K fdL psL [])
    (I : Inv X pins σ H s) (ha : H a = some (.ins C dx fs)) (hsp : spL [.ref a] H (fun v H2 => ∃ n : Nat, v = .int n ∧ n ≤ 100000 ∧ H2 = H) EL) {Q : Bool → Shared → Prop} {E' : Value → Shared → Prop} (q : ∀ b s2, Inv X pins σ H s2 → Q b s2) :
    wpAny (model X.prog X.w) A (Builtin.List.listLengthHint (.ref a)) Q E' s := by
  obtain ⟨mA, O, _, _, _, _⟩ := ins_get I.hok ha
  obtain ⟨od, J, _⟩ := O.look
  obtain ⟨m, hF⟩ := I.fr
  have said : wpAny (model X.prog X.w) A (call (.builtin "len") [.ref a]) (fun r s2 => ∃ (n : Nat) (t : Tok), r = .int n t ∧ n ≤ 100000 ∧ Inv X pins σ H s2) (fun _ _ => False) s := by
    refine PySem.W.len_K hF I.ok.mod.kin J hs hf (wpAny_mono (run_sub0 (vs := [.ref a]) (us := [.ref a]) (Sub.in1 sb) FL bL I (.cons rfl .nil) hsp) (fun r s2 z => ?_) fun _ _ z => z)
    obtain ⟨w2, H2, I2, rw2, n, rfl, hn, rfl⟩ := z
    obtain ⟨t, rfl⟩ := rw2
    exact ⟨⟨by omega, by omega⟩, n, _, rfl, hn, I2.tok _⟩
  unfold Builtin.List.listLengthHint
  refine wpAny_bind (wpAny_bind (J.type.here ((PySem.W.looks_findIn I.kIn hs).here ?_)))
  refine PySem.W.KFB.if_not rfl ?_
  refine wpAny_ite_split (fun _ => ?_) (fun z => absurd rfl z)
  refine wpAny_bind (wpAny_rule ?_)
  refine wpAny_bind (wpAny_attempt (wpAny_mono said (fun r s2 z => ?_) fun _ _ z => z.elim))
  obtain ⟨n, t, rfl, hn, I2⟩ := z
  refine wpAny_bind (wpAny_of_eq (a := some (n : Int)) rfl ?_)
  refine PySem.W.KFB.if_not ?_ (wpAny_pure (q _ _ I2))
  exact notLongL (by show n ≤ sizeLine; rw [sizeLine_eq]; omega)
theorem upd_self {q : Addr} {o : HO} (h : H q = some o) : upd H q o = H := by
  funext b
  by_cases e : b = q
  · rw [e, upd_same, h]
  · rw [upd_ne e]
/-- room is made in an empty list -/
theorem touch_own {q : Addr} {E' : Value → Shared → Prop} {Q : Unit → Shared → Prop} (I : Inv X pins σ H s) (hq : H q = some (.lst [])) (h : ∀ s2, Inv X pins σ H s2 → Q () s2) :
    wpAny (model X.prog X.w) A (updateSeq q (·.push .none) >>= fun _ => updateSeq q (·.pop)) Q E' s := by
  obtain ⟨_, its, c, r, _, e⟩ := I.lstM hq
  cases r
  have one : 1 ≤ sizeLine := by rw [sizeLine_eq]; decide
  have I1 := I.lset (f := (·.push Value.none)) (its' := [Value.none]) (ys := [.non]) (t' := s.toks) hq e (by simp) (.cons rfl .nil) one
  refine wpAny_bind (wpAny_updateSeq e rfl ?_)
  obtain ⟨_, its2, c2, r2, _, e2⟩ := I1.lstM upd_same
  obtain ⟨v, rfl, _⟩ := vals1 r2
  have I2 := I1.lset (f := (·.pop)) (its := [v]) (its' := []) (ys := []) (t' := s.toks) upd_same e2 (by rfl) .nil (Nat.zero_le _)
  rw [upd_upd, upd_self hq] at I2
  exact wpAny_updateSeq e2 rfl (h _ I2) one (Nat.zero_le _)
variable {kI : Nat} {fi l q : Addr} {fdI : FuncData} {psI : List Str} {spI : Sp} {EI : XK} {xs : List V} {Rs : Result → Shared → Prop}
theorem extend_own (sbL : Sub X (kL + 1) A1.in1) (sbI : Sub X kI A1.in1) (hs : PySem.W.findIn X.K (.ref C) "__len__" = some (some (.ref fl))) (hf : PySem.W.isFn X.K (.ref fl) = true) (FL : FnOk X.prog X.w X.K X.mg X.base CX0 kL fl fdL psL spL) (bL : Binds X.K fdL psL [])
    (hi : PySem.W.findIn X.K (.ref C) "__iter__" = some (some (.ref fi))) (hfi : PySem.W.isFn X.K (.ref fi) = true) (FI : FnOk X.prog X.w X.K X.mg X.base CX0 kI fi fdI psI spI) (bI : Binds X.K fdI psI [])
    (hh : A1.in1.handled = none) (I : Inv X pins σ H s) (ha : H a = some (.ins C dx fs)) (hq : H q = some (.lst [])) (hl : H l = some (.lst xs)) (lq : l ≠ q) (hsz : xs.length < sizeLine)
    (qI : spI [.ref a] H (fun v H2 => ∃ it, v = .ref it ∧ H it = none ∧ H2 = upd H it (ItO l it 0)) EI)
    (qL : ∀ H2, H2 a = some (.ins C dx fs) → H2 l = some (.lst xs) → (∀ b o, H b = some o → H2 b = some o) → spL [.ref a] H2 (fun v H3 => ∃ n : Nat, v = .int n ∧ n ≤ 100000 ∧ H3 = H2) EL)
    (fin : ∀ H2 s2, Inv X pins σ H2 s2 → H2 q = some (.lst xs) → (∀ b o, b ≠ q → H b = some o → H2 b = some o) → Rs (.ok (.ret .none)) s2) :
    wpAny (model X.prog X.w) A1.in1 (Builtin.List.listExtendWith (.ref q) (.ref a) .none) (fun f s2 => match f with | .done r => Rs (.ok r) s2 | .again c => c.quiet = true ∧ codeAny (model X.prog X.w) A1 c Rs s2) (fun e s2 => Rs (.error e) s2) s := by
  have qa : q ≠ a := ne_of hq ha fun z => by cases z
  obtain ⟨mA, O, _, _, _, _⟩ := ins_get I.hok ha
  obtain ⟨od, J, _⟩ := O.look
  obtain ⟨m, hF⟩ := I.fr
  unfold Builtin.List.listExtendWith
  refine wpAny_bind (J.type.here ?_)
  have g1 : Builtin.List.listSameRef (.ref q) (.ref a) = false := by simp [Builtin.List.listSameRef, qa]
  have g2 : (Value.ref C == Value.type "list" || Value.ref C == Value.type "tuple") = false := rfl
  refine PySem.W.KFB.if_not (by rw [g1]; exact g2) ?_
  refine wpAny_bind (PySem.W.owit_iter hF I.ok.mod.kin J hi hfi (wpAny_mono (run_sub0 (vs := [.ref a]) (us := [.ref a]) sbI FI bI I (.cons rfl .nil) qI) (fun r s2 z => ?_) fun _ _ z => z.elim))
  obtain ⟨w2, H2, I2, rw2, it, rfl, nit, rfl⟩ := z
  cases rw2
  have hit : upd H it (ItO l it 0) it = some (ItO l it 0) := upd_same
  have old : ∀ b o, H b = some o → upd H it (ItO l it 0) b = some o := fun b o e => by
    rw [upd_ne (ne_of_none e nit)]
    exact e
  have ty : s2.TypeIs (.ref it) "list_iterator" := ⟨_, itO_get I2 hit, rfl⟩
  unfold PySem.W.OwitIt
  refine wpAny_specialOf (name := Str.ofString "__next__") ty slot_listiter_next.lookup ?_
  refine wpAny_bind (wpAny_holding (hint_own sbL hs hf FL bL I2 (old _ _ ha) (qL _ (old _ _ ha) (old _ _ hl) old) fun b s3 I3 => ?_))
  · have loop : ∀ s4, Inv X pins σ (upd H it (ItO l it 0)) s4 → codeAny (model X.prog X.w) A1 (.builtin "list.extend.loop" ⟨[.ref q, .ref it, .none], []⟩) Rs s4 := fun s4 I4 =>
      it_fill (H0 := H) hh hl lq (ne_of_none hl nit) (Ne.symm (ne_of_none hq nit)) hsz (fun H5 s5 I5 h5 k5 => fin H5 s5 I5 h5 fun b o nb e => k5 b o nb (ne_of_none e nit) e) xs.length 0 _ s4 (Nat.zero_add _) I4 (old _ _ hq) hit fun b o _ _ e => old b o e
    refine wpAny_ite_split (fun _ => ?_) (fun _ => wpAny_pure ⟨plainId_quiet PySem.F.plain_extend_loop _, loop _ I3⟩)
    refine wpAny_bind (wpAny_rule ?_)
    refine wpAny_bind (touch_own I3 (old _ _ hq) fun s4 I4 => ?_)
    exact wpAny_pure ⟨plainId_quiet PySem.F.plain_extend_loop _, loop _ I4⟩
/-- list(o) -/
def rListOwn (C : Addr) (spI spL : Sp) (EI EL : XK) : List V → Hp → VK → Prop := fun vs H Q => ∃ (a dx l : Addr) (fs : List (Str × V)) (xs : List V), vs = [.ref a] ∧ H a = some (.ins C dx fs) ∧ H l = some (.lst xs) ∧ xs.length < sizeLine ∧
  (∀ G, (∀ b o, H b = some o → G b = some o) → spI [.ref a] G (fun v H2 => ∃ it, v = .ref it ∧ G it = none ∧ H2 = upd G it (ItO l it 0)) EI) ∧
  (∀ G, (∀ b o, H b = some o → G b = some o) → spL [.ref a] G (fun v H3 => ∃ n : Nat, v = .int n ∧ n ≤ 100000 ∧ H3 = G) EL) ∧
  ∀ G q, Same H G → H q = none → G q = some (.lst xs) → Q (.ref q) G
theorem call_listIt (hs : PySem.W.findIn X.K (.ref C) "__len__" = some (some (.ref fl))) (hf : PySem.W.isFn X.K (.ref fl) = true) (FL : FnOk X.prog X.w X.K X.mg X.base CX0 kL fl fdL psL spL) (bL : Binds X.K fdL psL [])
    (hi : PySem.W.findIn X.K (.ref C) "__iter__" = some (some (.ref fi))) (hfi : PySem.W.isFn X.K (.ref fi) = true) (FI : FnOk X.prog X.w X.K X.mg X.base CX0 kI fi fdI psI spI) (bI : Binds X.K fdI psI [])
    (hrL : Room (kL + 3) X.A) (hrI : Room (kI + 2) X.A) : CallR X (.type "list") (rListOwn C spI spL EI EL) := by
  intro pins s σ H vs us Q I rv h
  obtain ⟨a, dx, l, fs, xs, rfl, ha, hl, hz, qI, qL, q⟩ := h
  obtain ⟨u, rfl, ru⟩ := vals1 rv
  cases ru
  have sbL : Sub X (kL + 1) X.A.in1.in1 := Sub.in1 (Sub.in1 ⟨hrL, rfl⟩)
  have sbI : Sub X kI X.A.in1.in1 := Sub.in1 (Sub.in1 ⟨hrI, rfl⟩)
  refine callType_codes (Q₁ := fun o s1 => o = .ref s.heap.objs.size ∧ s1 = { s with heap := s.heap.push { cls := .type "list", data := .seq #[] } }) PySem.F.called_list (PySem.F.typeCall_list_1 _) PySem.F.entry_list_init (code_list_new _ ⟨rfl, rfl⟩) fun o s1 h1 => ?_
  obtain ⟨rfl, rfl⟩ := h1
  have there : (s.heap.push { cls := .type "list", data := .seq #[] }).get? s.heap.objs.size = some { cls := .type "list", data := .seq #[] } := Heap.get?_push_size _ rfl
  refine ⟨⟨_, there, rfl⟩, PySem.F.args_list_init_2 _ _, ?_⟩
  have nq : H s.heap.objs.size = none := I.hok.fresh (Nat.le_refl _)
  have old : ∀ b o, H b = some o → upd H s.heap.objs.size (.lst []) b = some o := same_new nq
  have I1 : Inv X pins σ (upd H s.heap.objs.size (.lst [])) { s with heap := s.heap.push { cls := .type "list", data := .seq #[] } } := I.lnew (its := []) (t' := s.toks) .nil (Nat.zero_le _)
  show wpAny _ _ (Builtin.List.listItems (.ref s.heap.objs.size) >>= fun z => updateSeq s.heap.objs.size (fun _ => #[]) >>= fun _ => letGo z.toList.reverse >>= fun _ => Builtin.List.listExtendWith (.ref s.heap.objs.size) (.ref a) .none) _ _ _
  refine wpAny_bind (m := Builtin.List.listItems _) ?_
  unfold Builtin.List.listItems
  refine wpAny_bind (wpAny_seqItems there rfl (wpAny_pure (wpAny_bind (wpAny_updateSeq there rfl (wpAny_bind (wpAny_letGo ?_))))))
  have I2 := I1.lset (f := fun _ => #[]) (its := []) (its' := []) (ys := []) (t' := s.toks) upd_same there rfl .nil (Nat.zero_le _)
  rw [upd_upd] at I2
  exact extend_own (A1 := X.A.in1) (l := l) (xs := xs) (spI := spI) (spL := spL) (EI := EI) (EL := EL) (Rs := wants (fun r s2 => r = .none ∧ EP X pins σ Q (.ref s.heap.objs.size) s2) X.xe) sbL sbI hs hf FL bL hi hfi FI bI hrL.hd I2 (old _ _ ha) upd_same (old _ _ hl) (ne_of_none hl nq) hz
    (qI _ old) (fun G h1 h2 h3 => qL G fun b o e => h3 b o (old b o e)) fun G s2 J hq k => ⟨rfl, .ref s.heap.objs.size, G, J, rfl, q G _ (fun b o e => k b o (ne_of_none e nq) (old b o e)) nq hq⟩
end
end L2

set_option Elab.async false
set_option linter.all false
set_option maxRecDepth 100000
set_option maxHeartbeats 4000000
/-! The end of a law whose defs make lambdas and ask that no guarded built-in runs beneath. -/
namespace L2
open PySem PySem.Spec PyProof.Rows
/-- the abstract heap of the script and of tables of code objects -/
theorem script_heapT {P : Program} {w : World} {K : PySem.W.Frag} {h : Heap} {a : Addr} {vs : List Value} {ns : List Int} {T : List Addr} (X : K.In h) (ha : h.get? a = some { cls := .type "list", data := .seq vs.toArray }) (hi : IntsAre vs ns) (hl : ns.length ≤ sizeLine)
    (hT : ∀ p ∈ T, h.get? p = some { cls := .none, data := .fields #[] }) :
    ∃ H : Hp, SqL K H a (ns.map V.int) ∧ HOk P w H h ∧ (∀ p ∈ T, H p = some (.tbl #[])) ∧ ∀ b, H b = none ∨ (b ∈ T ∧ H b = some (.tbl #[])) ∨ (b = a ∧ K.lookup a = none ∧ ∃ o xs, H b = some (.frz o (.lst xs))) := by
  obtain ⟨H0, hS, hok, hA⟩ := script_heap (P := P) (w := w) X ha hi hl
  have aT : a ∉ T := fun z => by
    have e := (hT a z).symm.trans ha
    cases e
  have out : ∀ b, b ∉ T → (if b ∈ T then some (HO.tbl #[]) else H0 b) = H0 b := fun b n => if_neg n
  refine ⟨fun b => if b ∈ T then some (.tbl #[]) else H0 b, ?_, fun b u z => ?_, fun p hp => if_pos hp, fun b => ?_⟩
  · unfold SqL Rd at hS ⊢
    simp only [if_neg aT]
    exact hS
  · by_cases hb : b ∈ T
    · cases (if_pos hb).symm.trans z
      exact hT b hb
    · have z2 := (if_neg hb).symm.trans z
      obtain ⟨_, _, o, xs, rfl⟩ := hA b u z2
      exact hok b _ z2
  · by_cases hb : b ∈ T
    · exact .inr (.inl ⟨hb, if_pos hb⟩)
    · dsimp only
      rw [if_neg hb]
      cases q : H0 b with
      | none => exact .inl rfl
      | some u =>
        obtain ⟨e1, e2, o, xs, rfl⟩ := hA b u q
        exact .inr (.inr ⟨e1, e2, o, xs, rfl⟩)
theorem law_callGT {P : Program} {w : World} {K : PySem.W.Frag} {mg mb : Str → Option Value} {k : Nat} {fa a : Addr} {cs : List (Addr × Addr)} {fd : FuncData} {x : Str} {sp : Sp} {s1 : Shared} {vs : List Value} {ns : List Int} (KX : K.In s1.heap) (hns : s1.heap.Ns mainGlobals mg)
    (hb : s1.heap.Ns builtinsNs mb ∧ ∀ y : Str, y ≠ "__name__" → mb y = bootBuiltins y) (hlim : s1.heap.NoLimit) (hg : s1.gens = #[]) (hT : ∀ p ∈ cs, s1.heap.get? p.2 = some { cls := .none, data := .fields #[] }) (nT : ∀ p ∈ cs, K.lookup p.2 = none) (hC : ∀ p ∈ cs, PySem.W.CodeHd s1.heap p.1 p.2)
    (hm : ∃ (bm : Addr) (ob : Obj), mg "__builtins__" = some (.ref bm) ∧ bm ≠ builtinsNs ∧ s1.heap.get? bm = some ob ∧ ob.cls = .type "module" ∧ ob.dict = some builtinsNs ∧ ob.data = .plain) (ha : s1.heap.get? a = some { cls := .type "list", data := .seq vs.toArray }) (hi : IntsAre vs ns) (hl : ns.length ≤ sizeLine)
    (hr : Room k callerA) (F : ∀ b0 : Heap, K.In b0 → b0.Ns mainGlobals mg → (∀ p ∈ cs, LamX.TabB b0 mg p.1 p.2) → FnG P w K mg b0 CX0 k fa fd [x] sp) (bind : ∀ (s : Shared) (u : Value), BindsTo s fd ⟨[u], []⟩ [(x, u)])
    (hsp : ∀ H : Hp, (∀ p ∈ cs, H p.2 = some (.tbl #[])) → SqL K H a (ns.map V.int) → sp [.ref a] H (fun v _ => v = .bl true) fun _ _ _ => False) (noX : ∀ H e s', CX0 [] H s1 (fun _ _ _ => False) e s' → False) :
    codeAny (model P w) callerA (.call (.ref fa) ⟨[.ref a], []⟩) (fun r s' => r = .ok (.ret (.bool true)) ∧ OldK s1.heap s'.heap ∧ s'.os = s1.os ∧ AllBare s'.gens) s1 := by
  have inT : ∀ {b}, b ∈ cs.map (·.2) → s1.heap.get? b = some { cls := .none, data := .fields #[] } := fun {b} m => by
    obtain ⟨p, hp, e⟩ := List.mem_map.mp m
    exact e ▸ hT p hp
  obtain ⟨H, hS, hok, hH, tell⟩ := script_heapT (P := P) (w := w) (T := cs.map (·.2)) KX ha hi hl fun _ m => inT m
  have tabs : ∀ p ∈ cs, H p.2 = some (.tbl #[]) := fun p hp => hH _ (List.mem_map.mpr ⟨p, hp, rfl⟩)
  -- what is neither the script nor a table is in the ground
  have base1 : ∀ {b : Addr} {o : Obj}, s1.heap.get? b = some o → (∀ v n, o.data ≠ .seq v n) → o.data ≠ .fields #[] → (hidT s1.heap H).get? b = some o := fun {b o} e n1 n2 => hidT_get e (by
    rcases tell b with z | ⟨m, _⟩ | ⟨z, _⟩
    · exact z
    · cases e.symm.trans (inT m)
      exact (n2 rfl).elim
    · rw [z, ha] at e
      cases e
      exact (n1 _ _ rfl).elim)
  have low : ∀ {b : Addr} {m : Str → Option Value}, s1.heap.Ns b m → (hidT s1.heap H).Ns b m := fun {b m} n => by
    obtain ⟨o, es, ep, e, d, r⟩ := n
    exact ⟨o, es, ep, base1 e (fun v n z => by rw [d] at z; cases z) (fun z => by rw [d] at z; cases z), d, r⟩
  have kin : K.In (hidT s1.heap H) := fun b o e => hidT_get (KX b o e) (by
    rcases tell b with z | ⟨m, _⟩ | ⟨z, y, _⟩
    · exact z
    · obtain ⟨p, hp, ep⟩ := List.mem_map.mp m
      rw [← ep, nT p hp] at e
      cases e
    · rw [z, y] at e
      cases e)
  have tb : ∀ p ∈ cs, LamX.TabB (hidT s1.heap H) mg p.1 p.2 := fun p hp => by
    have hp2 := hT p hp
    obtain ⟨og, eg, pg, gg, dg, _⟩ := hns
    refine ⟨?_, ?_, fun z => by rw [z, hp2] at gg; cases gg; cases dg⟩
    · obtain ⟨o, v, c3, c4, c5, c6, c7, c8, c9, e1, e2, e3, e4, rest⟩ := hC p hp
      exact ⟨o, v, c3, c4, c5, c6, c7, c8, c9, base1 e1 (fun v n z => by rw [e3] at z; cases z) (fun z => by rw [e3] at z; cases z; simp at e4), e2, e3, e4, rest⟩
    · obtain ⟨bm, ob, b1, b2, b3, b4, b5, b6⟩ := hm
      refine ⟨bm, ob, b1, b2, fun z => ?_, fun z => ?_, base1 b3 (fun v n z => by rw [b6] at z; cases z) (fun z => by rw [b6] at z; cases z), b4, b5, b6⟩
      · rw [z, gg] at b3
        cases b3
        rw [dg] at b6
        cases b6
      · rw [z, hp2] at b3
        cases b3
        cases b6
  obtain ⟨mc, l1, l2⟩ := hlim
  have e0 : Env0 P w K mg (hidT s1.heap H) callerA [] s1 H :=
    { frames := rfl, mod := { kin := kin, glob := low hns, blt := ⟨mb, low hb.1, hb.2⟩, nolimit := ⟨mc, low l1, l2⟩ }, bs := fun _ _ e => of_hidT e, bsz := Nat.le_of_eq (hidT_size _ _), funs := trivial, frf := fun _ z => (nomatch z), hok := hok, bare := .of_eq hg }
  refine codeAny_mono ((F _ kin (low hns) tb).go callerA [] s1 H _ [.ref a] [.ref a] _ _ rfl hr e0 (bind s1 (.ref a)) (.cons rfl .nil) (hsp H tabs hS)) fun r s2 h => ?_
  rcases r with e | fl
  · exact (noX H e s2 h).elim
  rcases fl with _ | _ | _ | u <;> try exact False.elim h
  obtain ⟨v, H2, os, bare, un, ok2, rv, q⟩ := h
  cases (q : v = .bl true)
  cases (rv : u = Value.bool true)
  have grown : ∀ p ∈ cs, ∃ more : Array Value, s2.heap.get? p.2 = some { cls := .none, data := .fields more } := fun p hp => by
    obtain ⟨more, z⟩ := un.tbls p.2 #[] (tabs p hp)
    exact ⟨_, ok2 p.2 _ z⟩
  have rest : ∀ b o, b ∉ cs.map (·.2) → s1.heap.get? b = some o → s2.heap.get? b = some o := fun b o n e => by
    rcases tell b with z | ⟨m, _⟩ | ⟨_, _, ob, xs, z⟩
    · exact un.keep b o e z (fun y => by cases y) fun y => by cases y
    · exact (n m).elim
    · have k1 := (hok b _ z).1
      rw [← e, k1] at *
      exact (ok2 b _ (un.frzs b ob _ z)).1
  refine ⟨rfl, ⟨fun b o e => ?_, fun b o e => ?_⟩, os, bare⟩
  · by_cases m : b ∈ cs.map (·.2)
    · obtain ⟨p, hp, rfl⟩ := List.mem_map.mp m
      obtain ⟨more, hm2⟩ := grown p hp
      cases e.symm.trans (hT p hp)
      exact .inr (.inl ⟨((hC p hp).tab (hT p hp)).isCodeTable, rfl, #[], more, rfl, by rw [Array.empty_append]; exact hm2⟩)
    · exact .inl (rest b o m e)
  · by_cases m : b ∈ cs.map (·.2)
    · obtain ⟨p, hp, rfl⟩ := List.mem_map.mp m
      obtain ⟨more, hm2⟩ := grown p hp
      exact ⟨_, hm2⟩
    · exact ⟨o, rest b o m e⟩
/-- what is known of the law's promise at the head's heap h, tables among it -/
def LawAtG (l : PySem.W.OpenLaw) (w : World) (K : PySem.W.Frag) (k n : Nat) (x : Str) (mg : Str → Option Value) (fa : Addr) (h : Heap) : Prop :=
  ∃ (fd : FuncData) (cs : List (Addr × Addr)) (sp : Sp), (∀ p ∈ cs, h.get? p.2 = some { cls := .none, data := .fields #[] } ∧ K.lookup p.2 = none ∧ PySem.W.CodeHd h p.1 p.2) ∧ (∀ (s : Shared) (u : Value), BindsTo s fd ⟨[u], []⟩ [(x, u)]) ∧
    (∀ (H : Hp) (a : Addr) (ns : List Int), ns.length ≤ n → (∀ p ∈ cs, H p.2 = some (.tbl #[])) → SqL K H a (ns.map V.int) → sp [.ref a] H (fun v _ => v = .bl true) fun _ _ _ => False) ∧
    ∀ b0 : Heap, K.In b0 → b0.Ns mainGlobals mg → (∀ p ∈ cs, LamX.TabB b0 mg p.1 p.2) → FnG l.prog w K mg b0 CX0 k fa fd [x] sp
theorem walk_ofGT {l : PySem.W.OpenLaw} {n k : Nat} {q : Program} {loose : List Str} {XP : (Str → Option Value) → Heap → Prop} {YP : World → Heap → Prop} {d : DefRec} {K : Params → PySem.W.Frag} {x : Str} (hn : l.most = some n) (hn2 : n ≤ sizeLine)
    (hdf : d.params.defaults = []) (hr : Room k callerA) (hY : ∀ (w : World) (h : Heap), YP w h → (K w.params).In h)
    (F : ∀ (w : World) (mg : Str → Option Value) (fa : Addr) (h : Heap), YP w h → (K w.params).In h → h.Ns mainGlobals mg → mg d.name = some (.ref fa) →
      (∀ (e : DefRec) (y : Str) (c p : Addr), (recsOf q).find? (fun r => r.name == y) = some e → PySem.W.tabIn (K w.params) y = some (c, p) → PySem.W.CodeHd h c p ∧ h.get? p = some { cls := .none, data := .fields #[] }) → LawAtG l w (K w.params) k n x mg fa h)
    (noX : ∀ (H : Hp) (s : Shared) (e : Value) (s' : Shared), CX0 [] H s (fun _ _ _ => False) e s' → False) : PySem.W.WalkO q loose XP YP l.row.toRowW d [] (fun f vs => PySem.call f vs) := by
  refine Att.attach_call hn hdf fun w s0 s1 mg mb fa o pm cd doc a vs ns G Y _ _ _ hmg hobj hints hlen hg => ?_
  obtain ⟨fd, cs, sp, hT, hb, hsp, hF⟩ := F w mg fa _ Y (hY w _ Y) G.T.g hmg fun _ _ _ _ e1 e2 => PySem.W.tab_of G.T (hY w _ Y) e1 e2
  exact law_callGT (hY w _ Y) G.T.g ⟨G.T.b, G.T.builtins⟩ G.T.nolimit hg (fun p hp => (hT p hp).1) (fun p hp => (hT p hp).2.1) (fun p hp => (hT p hp).2.2) G.T.bmain hobj hints (Nat.le_trans hlen hn2) hr hF hb (fun H => hsp H a ns hlen) fun H => noX H s1
/-- as Fun.okG, the code object being known (a def that makes lambdas) -/
theorem okGC {P : Program} {w : World} {K : PySem.W.Frag} {mg : Str → Option Value} {base : Heap} {k : Nat} {f c : Addr} {ps : List Str} {sp : Sp} {x qual : Str} {st : Stmt} {N : List Str} {oc kV doc pm ct : Value} {od an : Option Addr} {osl : Array (Option Value)}
    (lk : K.lookup f = some ⟨oc, od, .func (PySem.W.fnOf x qual (defArgs st) (defBody st) (defScope st) .none kV doc pm an (.ref c) ct), osl⟩) (hcd : PySem.W.codeIn K (.ref c) qual = true) (S : FnScope N ps (defScope st)) (len : ∀ vs H Q E, sp vs H Q E → vs.length = ps.length)
    (body : ∀ (A : Around) (outer : List Env) (s : Shared) (H : Hp) (vs : List V) (Q : VK) (E : XK), (A.deeper (envOfC qual (defScope st) s.heap.objs.size f (.ref c))).guards = some [] →
      Room k (A.deeper (envOfC qual (defScope st) s.heap.objs.size f (.ref c))) → sp vs H Q E →
      ∃ t, PSs (cxOf CX0 P w K mg base N qual (defScope st) f (.ref c) A outer s H E).nox (defBody st) t ∧ t { nx := fun _ H' => Q .non H', rt := Q } (start N vs) H) :
    FnG P w K mg base CX0 (k + 1) f (PySem.W.fnOf x qual (defArgs st) (defBody st) (defScope st) .none kV doc pm an (.ref c) ct) ps sp := by
  refine { len := len, go := fun A outer s H args us vs Q E hg hr e0 hb r hsp => ?_ }
  have up := fun b o e => (e0.bs b o e).1
  refine Att.call_fn (e0.mod.kin.keeps up) (e0.mod.nolimit.keeps up) lk hcd hr.depth hb ?_ (fun s1 ic => ?_) S.co S.gen S.kind
  · refine List.all_eq_true.mpr fun y hy => ?_
    obtain ⟨n, v⟩ := y
    rcases S.par n (List.of_mem_zip hy).1 with q | q <;> (dsimp only; rw [q]; rfl)
  · obtain ⟨t, ht, hq⟩ := body A outer s H vs Q E hg (hr.deeper _) hsp
    have I := inv_start (CX := CX0) (E := E) S hr.hd e0 (len _ _ _ _ hsp) r ic
    refine wpAny_mono (ht.nox.run [] s1 _ H _ I hq) (fun fl s2 h => ?_) fun _ _ h => h
    cases fl with
    | ret u =>
      obtain ⟨v, _, H2, J, rv, h⟩ := h
      exact ⟨v, H2, J.os, J.bare, J.base, J.hok, rv, h⟩
    | next =>
      obtain ⟨_, H2, J, h⟩ := h
      exact ⟨.non, H2, J.os, J.bare, J.base, J.hok, rfl, h⟩
    | brk => obtain ⟨_, _, _, h⟩ := h; exact h.elim
    | cont => obtain ⟨_, _, _, h⟩ := h; exact h.elim
end L2

set_option Elab.async false
set_option linter.all false
set_option maxRecDepth 100000
set_option maxHeartbeats 4000000
/-! How long the text of a list of pairs of short words is. -/
namespace L2
open PySem PySem.Spec PyProof.Rows
theorem from_len : ∀ (ts : List Str) (k m : Nat) (acc : Str), (∀ t ∈ ts, t.length ≤ m) → (textFrom k acc ts).length ≤ acc.length + ts.length * (m + 2)
  | [], k, m, acc, _ => by
    show acc.length ≤ _
    omega
  | t :: ts, k, m, acc, h => by
    have ih := from_len ts (k + 1) m (acc ++ (if k > 0 then ", " else "" : String) ++ t) fun u hu => h u (List.mem_cons_of_mem _ hu)
    have h1 := h t (List.mem_cons_self ..)
    have h2 : (Str.ofString (if k > 0 then ", " else "")).length ≤ 2 := by
      split <;> decide
    show (textFrom (k + 1) (acc ++ (if k > 0 then ", " else "" : String) ++ t) ts).length ≤ _
    rw [Str.length_append, Str.length_append] at ih
    rw [List.length_cons, Nat.succ_mul]
    omega
def pairD (p : Str × Str) : PyData := .tuple [.str p.1, .str p.2]
theorem pair_text {p : Str × Str} (h1 : (reprText p.1).length ≤ 12) (h2 : (reprText p.2).length ≤ 12) : (pairD p).shown.length ≤ 30 := by
  unfold pairD
  simp only [PyData.shown, PyData.shownAll]
  have e := join_length_add [reprText p.1, reprText p.2] (by simp)
  rw [piled_cons, piled_cons, piled_nil] at e
  unfold tupleText
  rw [Str.length_append, Str.length_append]
  have c1 : (Str.ofString "(").length = 1 := by decide
  have c2 : (Str.ofString (if ([reprText p.1, reprText p.2].length == 1) = true then ",)" else ")")).length ≤ 2 := by
    split <;> decide
  omega
theorem pairs_data_ok : ∀ ps : List (Str × Str), PyData.showableAll (ps.map pairD) = true ∧ PyData.hasDictAll (ps.map pairD) = false ∧ PyData.depthAll (ps.map pairD) ≤ 2
  | [] => ⟨rfl, rfl, by simp [PyData.depthAll]⟩
  | p :: ps => by
    obtain ⟨h1, h2, h3⟩ := pairs_data_ok ps
    refine ⟨?_, ?_, ?_⟩
    · rw [List.map_cons, PyData.showableAll, h1]
      rfl
    · rw [List.map_cons, PyData.hasDictAll, h2]
      rfl
    · simp only [List.map_cons, PyData.depthAll]
      have : (pairD p).depth ≤ 2 := by
        unfold pairD
        simp [PyData.depth, PyData.depthAll]
      omega
theorem pairs_shown : ∀ {ps : List (Str × Str)}, (∀ p ∈ ps, (reprText p.1).length ≤ 12 ∧ (reprText p.2).length ≤ 12) → ∀ t ∈ PyData.shownAll (ps.map pairD), t.length ≤ 30
  | [], _, t, h => by cases h
  | p :: ps, hp, t, h => by
    rw [List.map_cons, PyData.shownAll] at h
    rcases List.mem_cons.mp h with e | e
    · rw [e]
      obtain ⟨h1, h2⟩ := hp p (List.mem_cons_self ..)
      exact pair_text h1 h2
    · exact pairs_shown (fun q hq => hp q (List.mem_cons_of_mem _ hq)) t e
theorem shownAll_len : ∀ ds : List PyData, (PyData.shownAll ds).length = ds.length
  | [] => rfl
  | d :: ds => by
    rw [PyData.shownAll, List.length_cons, List.length_cons, shownAll_len ds]
/-- repr of a list of pairs: all that rReprD asks -/
theorem pairs_repr {ps : List (Str × Str)} (hp : ∀ p ∈ ps, (reprText p.1).length ≤ 12 ∧ (reprText p.2).length ≤ 12) (hl : ps.length ≤ 64) :
    (PyData.list (ps.map pairD)).hasDict = false ∧ (PyData.list (ps.map pairD)).showable = true ∧ (PyData.list (ps.map pairD)).depth ≤ 100 ∧ (PyData.list (ps.map pairD)).shown.length ≤ sizeLine := by
  obtain ⟨h1, h2, h3⟩ := pairs_data_ok ps
  refine ⟨by rw [PyData.hasDict]; exact h2, by rw [PyData.showable]; exact h1, by rw [PyData.depth]; omega, ?_⟩
  rw [PyData.shown]
  unfold listText
  rw [Str.length_append]
  have h4 := from_len (PyData.shownAll (ps.map pairD)) 0 30 "[" (pairs_shown hp)
  rw [shownAll_len, List.length_map] at h4
  have c1 : (Str.ofString "[").length = 1 := by decide
  have c2 : (Str.ofString "]").length = 1 := by decide
  have h5 : ps.length * (30 + 2) ≤ 64 * 32 := Nat.mul_le_mul_right _ hl
  rw [sizeLine_eq]
  omega
theorem Tps.dp {K : PySem.W.Frag} {H : Hp} : ∀ {ys : List V} {ps : List (Str × Str)}, Tps H ys ps → DpAll K H ys (ps.map pairD)
  | [], [], _ => .nil
  | y :: ys, p :: ps, t => by
    obtain ⟨q, rfl, h⟩ := t.2 0 y p rfl rfl
    exact .cons (.tup (SqT.of h) (.cons (.str _) (.cons (.str _) .nil))) (Tps.dp ⟨Nat.succ.inj t.1, fun j z r h1 h2 => t.2 (j + 1) z r (by simpa using h1) (by simpa using h2)⟩)
  | [], _ :: _, t => by cases t.1
  | _ :: _, [], t => by cases t.1
theorem names_short : ∀ z ∈ names8, (reprText z).length ≤ 12 ∧ PyData.strOk z = true := by decide +kernel
theorem strOk_app {a b : Str} (h1 : PyData.strOk a = true) (h2 : PyData.strOk b = true) : PyData.strOk (a ++ b) = true := by
  unfold PyData.strOk at *
  show (a.cps ++ b.cps).all _ = true
  rw [Array.all_append, h1, h2]
  rfl
theorem strOk_from : ∀ {ts : List Str} {k : Nat} {acc : Str}, PyData.strOk acc = true → (∀ t ∈ ts, PyData.strOk t = true) → PyData.strOk (textFrom k acc ts) = true
  | [], _, _, h, _ => h
  | t :: ts, k, acc, h, ht => by
    refine strOk_from (ts := ts) (strOk_app (strOk_app h ?_) (ht t (List.mem_cons_self ..))) fun u hu => ht u (List.mem_cons_of_mem _ hu)
    split <;> decide +kernel
theorem strOk_list {ts : List Str} (h : ∀ t ∈ ts, PyData.strOk t = true) : PyData.strOk (listText ts) = true := strOk_app (strOk_from (by decide +kernel) h) (by decide +kernel)
theorem strOk_one {t : Str} (h : PyData.strOk t = true) : PyData.strOk (tupleText [t]) = true := by
  show PyData.strOk ((("(" : Str) ++ t) ++ ((if ([t] : List Str).length == 1 then ",)" else ")" : String) : Str)) = true
  exact strOk_app (strOk_app (by decide +kernel) h) (by show PyData.strOk (Str.ofString ",)") = true; decide +kernel)
theorem names_text : ∀ z ∈ names8, PyData.strOk (reprText z) = true := by decide +kernel
theorem eqvAll_bls : ∀ bs : List Bool, PyData.eqvAll (bs.map .bool) (bs.map .bool) = true
  | [] => rfl
  | b :: bs => by
    rw [List.map_cons, PyData.eqvAll, eqvAll_bls bs, PyData.eqv]
    simp
theorem lay_bls : ∀ bs : List Bool, PyData.canLayAll0 (bs.map .bool) = true ∧ PyData.depthAll (bs.map .bool) ≤ 1
  | [] => ⟨rfl, by simp [PyData.depthAll]⟩
  | b :: bs => by
    obtain ⟨h1, h2⟩ := lay_bls bs
    refine ⟨by rw [List.map_cons, PyData.canLayAll0, h1]; rfl, ?_⟩
    simp only [List.map_cons, PyData.depthAll, PyData.depth]
    omega
theorem bls_ok (bs : List Bool) : SeqAt.shaped (.list (bs.map .bool)) = true ∧ PyData.eqv (.list (bs.map .bool)) (.list (bs.map .bool)) = true := by
  obtain ⟨h1, h2⟩ := lay_bls bs
  refine ⟨?_, by rw [PyData.eqv, eqvAll_bls]⟩
  unfold SeqAt.shaped
  rw [PyData.canLay0, h1, Bool.true_and, PyData.depth]
  exact decide_eq_true (by omega)
theorem eqvAll_ints : ∀ ns : List Int, PyData.eqvAll (ns.map .int) (ns.map .int) = true
  | [] => rfl
  | n :: ns => by
    rw [List.map_cons, PyData.eqvAll, eqvAll_ints ns, PyData.eqv]
    simp
theorem lay_ints : ∀ ns : List Int, PyData.canLayAll0 (ns.map .int) = true ∧ PyData.depthAll (ns.map .int) ≤ 1
  | [] => ⟨rfl, by simp [PyData.depthAll]⟩
  | n :: ns => by
    obtain ⟨h1, h2⟩ := lay_ints ns
    refine ⟨by rw [List.map_cons, PyData.canLayAll0, h1]; rfl, ?_⟩
    simp only [List.map_cons, PyData.depthAll, PyData.depth]
    omega
theorem ints_ok (ns : List Int) : SeqAt.shaped (.list (ns.map .int)) = true ∧ PyData.eqv (.list (ns.map .int)) (.list (ns.map .int)) = true := by
  obtain ⟨h1, h2⟩ := lay_ints ns
  refine ⟨?_, by rw [PyData.eqv, eqvAll_ints]⟩
  unfold SeqAt.shaped
  rw [PyData.canLay0, h1, Bool.true_and, PyData.depth]
  exact decide_eq_true (by omega)
theorem dp_ints {K : PySem.W.Frag} {H : Hp} : ∀ ns : List Int, DpAll K H (ns.map V.int) (ns.map PyData.int)
  | [] => .nil
  | n :: ns => .cons (.int n) (dp_ints ns)
theorem small_int : ∀ k : Nat, k ≤ 10 → (PyData.int k).showable = true ∧ (PyData.int k).shown.length ≤ sizeLine := by decide +kernel
theorem mem_pairs {zs : List Str} {p : Str × Str} (h : p ∈ pairsOf zs) : p.1 ∈ zs ∧ p.2 ∈ zs ∧ p.1 ≠ p.2 := by
  obtain ⟨a, ha, hp⟩ := List.mem_flatMap.mp h
  obtain ⟨b, hb, rfl⟩ := List.mem_map.mp hp
  obtain ⟨h1, h2⟩ := List.mem_filter.mp hb
  exact ⟨ha, h1, of_decide_eq_true h2⟩
theorem rgV0 (n : Nat) : rgV 0 (n : Int) = ((List.range n).map fun i : Nat => (i : Int)).map V.int := by
  unfold rgV
  rw [List.map_map]
  have e : ((n : Int) - 0).toNat = n := by omega
  rw [e]
  refine List.map_congr_left fun i _ => ?_
  show V.int (0 + (i : Int)) = V.int (i : Int)
  rw [Int.zero_add]
theorem isPair_true {zs : List Str} {p : Str × Str} (h : p ∈ pairsOf zs) : isPairB (.str p.1) (.str p.2) zs = true := by
  obtain ⟨h1, h2, h3⟩ := mem_pairs h
  unfold isPairB
  show (decide (p.1 ∈ zs) && (decide (p.2 ∈ zs) && !decide (V.str p.1 = V.str p.2))) = true
  rw [decide_eq_true h1, decide_eq_true h2, decide_eq_false fun z => h3 (V.str.inj z)]
  rfl
theorem shown_words : ∀ zs : List Str, PyData.shownAll (zs.map .str) = zs.map reprText
  | [] => rfl
  | z :: zs => by
    rw [List.map_cons, PyData.shownAll, shown_words zs, PyData.shown]
    rfl
theorem words_flat : ∀ zs : List Str, PyData.showableAll (zs.map .str) = true ∧ PyData.hasDictAll (zs.map .str) = false
  | [] => ⟨rfl, rfl⟩
  | z :: zs => by
    obtain ⟨h1, h2⟩ := words_flat zs
    exact ⟨by rw [List.map_cons, PyData.showableAll, h1]; rfl, by rw [List.map_cons, PyData.hasDictAll, h2]; rfl⟩
/-- all that repr asks of data, and that its text can be laid -/
def ReprOk (D : PyData) : Prop := D.hasDict = false ∧ D.showable = true ∧ D.depth ≤ 100 ∧ D.shown.length ≤ sizeLine ∧ PyData.strOk D.shown = true
theorem words_repr {zs : List Str} (h : ∀ z ∈ zs, (reprText z).length ≤ 12 ∧ PyData.strOk (reprText z) = true) (hl : zs.length ≤ 8) : ReprOk (.list (zs.map .str)) := by
  obtain ⟨h1, h2⟩ := words_flat zs
  have h3 := depth_strs zs
  refine ⟨by rw [PyData.hasDict]; exact h2, by rw [PyData.showable]; exact h1, by rw [PyData.depth]; omega, ?_, ?_⟩
  · rw [PyData.shown, shown_words]
    unfold listText
    rw [Str.length_append]
    have h4 := from_len (zs.map reprText) 0 12 "[" (fun t ht => by
      obtain ⟨z, hz, rfl⟩ := List.mem_map.mp ht
      exact (h z hz).1)
    rw [List.length_map] at h4
    have c1 : (Str.ofString "[").length = 1 := by decide
    have c2 : (Str.ofString "]").length = 1 := by decide
    have h5 : zs.length * (12 + 2) ≤ 8 * 14 := Nat.mul_le_mul_right _ hl
    rw [sizeLine_eq]
    omega
  · rw [PyData.shown, shown_words]
    exact strOk_list fun t ht => by
      obtain ⟨z, hz, rfl⟩ := List.mem_map.mp ht
      exact (h z hz).2
theorem one_repr : ∀ z ∈ names8, ReprOk (.tuple [.str z]) := by
  unfold ReprOk
  decide +kernel
theorem odd_repr : ReprOk .none ∧ ReprOk (.int 5) ∧ ReprOk (.str "") ∧ ReprOk (.str "nobody") ∧ ReprOk (.str "A") ∧ ReprOk (.bool true) := by
  unfold ReprOk
  decide +kernel
theorem names_not : ∀ z ∈ names8, z ≠ "" ∧ z ≠ "nobody" ∧ z ≠ "A" ∧ z ≠ "ab" := by decide +kernel
theorem tyN_ext {K : PySem.W.Frag} {H : Hp} : True := trivial
end L2

set_option Elab.async false
set_option linter.all false
set_option maxRecDepth 100000
set_option maxHeartbeats 4000000
/-! An own error made by its field's name. -/
namespace Km
open PySem PySem.W PySem.Calls PySem.HandSPX
section
variable {prog : Program} {w : World} {A : Around} {E : Value → Shared → Prop} {R : Result → Shared → Prop} {h : Heap} {g : Array GenState} {d : Drawn} {t : Nat} {os : OsState}
variable {nm q : Str} {C N : Addr} {bs bm bmB : List Value} {hdct : Bool} {sn : List Str} {sub : List Value} {ab : Bool} {col : Option Bool} {dd : Option Addr} {k0 k1 k2 k3 k5 : Option Value} {B newId initId : String} {kw : List (Str × Value)}
theorem kw_check {M : Model} (F : ExcBaseFacts B newId initId bmB) (hT : ∀ X : String, bm.contains (.type X) = bmB.contains (.type X)) {Q : Unit → Shared → Prop}
    (hC : h.get? C = some (excClassObj nm q C N bs bm hdct sn sub ab col dd k0 k1 k2 k3 k5 newId)) (hq : Q () ⟨h, g, d, t, os⟩) :
    wpAny M A (checkBuiltinCall newId ⟨[.ref C], kw⟩) Q E ⟨h, g, d, t, os⟩ := by
  have inB : (Value.ref C :: bm).contains (.type B) = true := by rw [List.contains_cons, hT, F.hasB, Bool.or_true]
  have star := F.noStar
  simp only [checkBuiltinCall, F.newKind, F.newSplit, F.newRow]
  repeat (first
    | refine wpAny_loadPart_at hC ?_
    | (refine wpAny_isSubtype_exc hC ?_; rw [inB])
    | refine wpAny_staticBase_exc hC ?_
    | refine wpAny_madeBy_exc hC ?_
    | simp only [bne_self_eq_false, Bool.false_eq_true, if_false]
    | wp_step)
  exact hq
theorem kw_new (F : ExcBaseFacts B newId initId bmB) (hT : ∀ X : String, bm.contains (.type X) = bmB.contains (.type X))
    (hC : h.get? C = some (excClassObj nm q C N bs bm hdct sn sub ab col dd k0 k1 k2 k3 k5 newId))
    (hq : R (.ok (.ret (.ref (h.objs.size + 1)))) ⟨(h.push (kdv_tup [])).push (excO C h.objs.size), g, d, t, os⟩) :
    codeAny (model prog w) A (.builtin newId ⟨[.ref C], kw⟩) R ⟨h, g, d, t, os⟩ := by
  have ends := F.ends
  have inB : (Value.ref C :: bm).contains (.type B) = true := by rw [List.contains_cons, hT, F.hasB, Bool.or_true]
  have inA : (Value.ref C :: bm).contains (.type "AttributeError") = false := by rw [List.contains_cons, hT, F.noAttr]; rfl
  have inN : (Value.ref C :: bm).contains (.type "NameError") = false := by rw [List.contains_cons, hT, F.noName]; rfl
  refine codeAny_builtinAt F.entry ?_
  unfold Builtin.«BaseException.__new__»
  refine PySem.wpAt_bind ?_
  refine PySem.wpAt_bind (PySem.wpAt_stack fun p below => PySem.wpAt_of_wpAny ?_)
  wp_walk
  refine PySem.wpAt_of_wpAny ?_
  rw [F.owner]
  repeat (first
    | with_reducible refine wpAny_madeHere_exc F.canon hC ?_
    | with_reducible refine wpAny_loadPart_at hC ?_
    | (with_reducible refine wpAny_isSubtype_exc hC ?_; first | rw [inB] | rw [inA] | rw [inN])
    | wp_step)
  show R _ _
  rw [Heap.size_push]
  exact hq
theorem kw_type (F : ExcBaseFacts B newId initId bmB) (hT : ∀ X : String, bm.contains (.type X) = bmB.contains (.type X)) {fI : Addr} {Q : PySem.Fin → Shared → Prop}
    (hC : h.get? C = some (excClassObj nm q C N bs bm hdct sn sub ab col dd k0 k1 k2 k3 k5 newId))
    (hi : W.Looks (model prog w) h (typeLookup (.ref C) "__init__") (some (.ref fI))) (hb : ∀ self, W.Looks (model prog w) h (bindSpecial (.ref fI) self) (.ref fI, [self]))
    (hq : codeAny (model prog w) A (.call (.ref fI) ⟨[.ref (h.objs.size + 1)], kw⟩)
      (fun r s2 => match r with
        | .ok (.ret v) => v = .none ∧ Q (.done (.ret (.ref (h.objs.size + 1)))) s2
        | .ok _ => False
        | .error e => E e s2) ⟨(h.push (kdv_tup [])).push (excO C h.objs.size), g, d, t, os⟩) :
    wpAny (model prog w) A (Builtin.«type.__call__» ⟨[.ref C], kw⟩) Q E ⟨h, g, d, t, os⟩ := by
  repeat (first
    | with_reducible refine wpAny_loadPart_at hC ?_
    | with_reducible refine wpAny_madeBy_exc hC ?_
    | wp_step)
  refine codeAny_call_builtin_code (Code.quiet_builtin _ F.quiet) (kw_check F hT hC ?_)
  refine kw_new F hT hC ?_
  show wpAny _ _ _ _ _ _
  have kept : ∀ b o, h.get? b = some o → ((h.push (kdv_tup [])).push (excO C h.objs.size)).get? b = some o := fun b o z => Heap.get?_push_of_some _ (Heap.get?_push_of_some _ z)
  have hC1 := kept _ _ hC
  have there : ((h.push (kdv_tup [])).push (excO C h.objs.size)).get? (h.objs.size + 1) = some (excO C h.objs.size) := by heap_get
  have inC : (Value.ref C :: bm).contains (.ref C) = true := by simp
  have i1 := hi.keeps kept
  have b1 := (hb (.ref (h.objs.size + 1))).keeps kept
  unfold isInstance
  repeat (first
    | with_reducible refine wpAny_loadPart_at there ?_
    | (with_reducible refine wpAny_isSubtype_exc hC1 ?_; rw [inC])
    | wp_step)
  refine i1.at ?_
  refine wpAny_holding (wpAny_bind (b1.at ?_))
  refine wpAny_bind (wpAny_call (codeAny_mono hq fun r s2 z => ?_))
  cases r with
  | error e => exact z
  | ok fl =>
    cases fl with
    | ret v =>
      obtain ⟨rfl, z⟩ := z
      first
        | exact wpAny_pure (wpAny_pure z)
        | (wp_walk; exact z)
    | _ => exact z.elim
theorem kw_call (F : ExcBaseFacts B newId initId bmB) (hT : ∀ X : String, bm.contains (.type X) = bmB.contains (.type X)) {fI : Addr}
    (hC : h.get? C = some (excClassObj nm q C N bs bm hdct sn sub ab col dd k0 k1 k2 k3 k5 newId))
    (hi : W.Looks (model prog w) h (typeLookup (.ref C) "__init__") (some (.ref fI))) (hb : ∀ self, W.Looks (model prog w) h (bindSpecial (.ref fI) self) (.ref fI, [self]))
    (hq : codeAny (model prog w) (A.under (.builtin "type.__call__" ⟨[.ref C], kw⟩)) (.call (.ref fI) ⟨[.ref (h.objs.size + 1)], kw⟩) (W.InitBack (h.objs.size + 1) R)
      ⟨(h.push (kdv_tup [])).push (excO C h.objs.size), g, d, t, os⟩) : codeAny (model prog w) A (.call (.ref C) ⟨[], kw⟩) R ⟨h, g, d, t, os⟩ := by
  have f1 := tc_lookup
  have f2 := tc_bind (.ref C)
  have ty : (⟨h, g, d, t, os⟩ : Shared).TypeIs (.ref C) "type" := ⟨_, hC, rfl⟩
  refine codeAny_of_tree ?_
  show wpAny _ _ (callAny (.ref C) _) _ _ _
  repeat (any_goals (first
    | assumption
    | with_reducible refine wpAny_loadPart_at hC ?_
    | wp_step))
  refine ⟨rfl, ?_⟩
  refine codeAny_call_builtin_at (Code.quiet_builtin _ (by decide +kernel)) entry_typeCall (wpAny_check_type_call_sub hC (kw_type F hT hC hi hb (codeAny_mono hq fun r s2 z => ?_)))
  cases r with
  | error e => exact z
  | ok fl =>
    cases fl with
    | ret v => exact z
    | _ => exact z
end
end Km


set_option Elab.async false
set_option linter.all false
set_option maxRecDepth 100000
set_option maxHeartbeats 4000000
/-! Errors made by their field's name; errors without an own __init__; isinstance of either. -/
namespace L2
open PySem PySem.Spec PyProof.Rows
section
variable {X : Cx} {CX : CXT} {x f : Str} {C fI : Addr} {k : Nat} {fd : FuncData} {ps : List Str} {sp : Sp} {E : XK} {e : Expr} {te : TE} {p pos kpos : Pos}
/-- C(f=e), of one parameter beside self -/
def tEcK (C : Addr) (sp : Sp) (E : XK) (tk : TA) : TE := fun σ H Q => tk σ H fun zs H1 => ∃ v, zs = [v] ∧ ∀ a, H1 a = none → sp [.ref a, v] (upd H1 a (exo a C none)) (fun w H2 => w = .non ∧ Q (.ref a) H2) E
theorem pe_eck (T : EcC X.K C) (iC : PySem.W.findIn X.K (.ref C) "__init__" = some (some (.ref fI))) (tI : PySem.W.typeIn X.K (.ref fI) = some (.type "function")) (F : FnOk X.prog X.w X.K X.mg X.base CX k fI fd ps sp) (hr : Room (k + 1) X.A)
    (hb : ∀ (s : Shared) (a u : Value), BindsTo s fd ⟨[a], [(f, u)]⟩ (ps.zip [a, u])) (hx : Passes CX X E) (hg : Gl X x) (hm : X.mg x = some (.ref C)) (he : PE X e te) (hdb : (x == ("__debug__" : Str)) = false := by decide)
    (hall : (backToKw pos (keywordEach [⟨some f, e, kpos⟩] X.env)).all (·.1.isSome) = true := by rfl) (hks : (backToKw pos (keywordEach [⟨some f, e, kpos⟩] X.env)).filterMap (·.1) = [f] := by rfl)
    (hpl : ((backTo pos (starEach [] X.env)).any (·.1) || (backToKw pos (keywordEach [⟨some f, e, kpos⟩] X.env)).any (·.1.isNone)) = false := by rfl) : PE X (.Call (.Name x p) [] [⟨some f, e, kpos⟩] pos) (tEcK C sp E (tCons te tNil)) := by
  constructor
  intro pins s σ H Q I h
  refine wpAny_Call_Name_kw (ld_glob I hg hm ?_ hdb)
  refine PySem.W.callWith_KW0 (h₀ := X.base) I.ok.mod.kin T.kC hall ?_ hpl
  refine thn ((pk_cons (nm := some f) (kpos := kpos) he pk_nil).run pos pins s σ H _ I h) fun ws s1 q0 => ?_
  obtain ⟨zs, H1, I1, r1, v, rfl, q1⟩ := q0
  obtain ⟨u, rfl, ru⟩ := vals1 r1
  rw [hks]
  refine ⟨I1.kIn, ?_⟩
  show wpAny _ _ (call (.ref C) [] [(f, u)]) _ _ _
  obtain ⟨B, newId, initId, bmB, FB, SF, hin, hov⟩ := T.base
  obtain ⟨nm, N, qn, bs, bm, hdct, sn, sub, ab, col, dd, k0, k1, k2, k3, k5, hC, hT⟩ := PySem.W.excInit_of I1.kIn hin
  obtain ⟨hp, g, dr, tk, os⟩ := s1
  have n1 : H1 (hp.objs.size + 1) = none := I1.hok.fresh (Nat.le_succ _)
  have q2 := q1 _ n1
  have kept : ∀ b o, hp.get? b = some o → ((hp.push (PySem.W.kdv_tup [])).push (PySem.HandSPX.excO C hp.objs.size)).get? b = some o := fun b o z => Heap.get?_push_of_some _ (Heap.get?_push_of_some _ z)
  have there : ((hp.push (PySem.W.kdv_tup [])).push (PySem.HandSPX.excO C hp.objs.size)).get? (hp.objs.size + 1) = some (PySem.HandSPX.excO C hp.objs.size) := by heap_get
  have J : Inv X pins σ (upd H1 (hp.objs.size + 1) (exo (hp.objs.size + 1) C none)) ⟨(hp.push (PySem.W.kdv_tup [])).push (PySem.HandSPX.excO C hp.objs.size), g, dr, tk, os⟩ :=
    I1.laid (t' := tk) (a := hp.objs.size + 1) (h' := (hp.push (PySem.W.kdv_tup [])).push (PySem.HandSPX.excO C hp.objs.size)) kept (Nat.le_succ _) (exo_ok there)
  have r2 : Vals [V.ref (hp.objs.size + 1), v] [Value.ref (hp.objs.size + 1), u] := .cons rfl (.cons ru .nil)
  refine wpAny_call (Km.kw_call FB hT hC (PySem.W.looks_findIn I1.kIn iC) (fun self => PySem.W.bind_fn I1.kIn self tI) (codeAny_mono (F.run _ X.stack _ _ ⟨[.ref (hp.objs.size + 1)], [(f, u)]⟩ [.ref (hp.objs.size + 1), u] _ _ E (hr.make C [] [(f, u)]) (J.env0.make C [] [(f, u)]) (hb _ _ _) r2 q2) fun z s2 hz => ?_))
  cases z with
  | error er => exact hx pins σ _ _ er s2 J hz
  | ok fl =>
    cases fl with
    | ret w =>
      obtain ⟨v2, H2, os2, bare2, un2, hok2, rv, e2, q3⟩ := hz
      obtain ⟨hh, g2, d2, t2, o2⟩ := s2
      obtain rfl : o2 = os := os2
      subst e2
      exact ⟨rv, .ref (hp.objs.size + 1), H2, J.call (h' := hh) (g' := g2) (d' := d2) (t' := t2) (ch := []) un2 hok2 bare2 (fun b z => absurd z (by simp)), rfl, q3⟩
    | next => exact False.elim hz
    | brk => exact False.elim hz
    | cont => exact False.elim hz
/-- an error, made by an own __init__ or without one, not raised -/
def Held (H : Hp) (a C : Addr) : Prop := (∃ d : Option Addr, H a = some (exo a C d) ∧ ∀ dx, d = some dx → ∃ fs, H dx = some (exd dx fs)) ∨ H a = some (ExO (.ref C) a)
/-- isinstance(x, c), x an error that is held -/
def rIsH (K : PySem.W.Frag) : List V → Hp → VK → Prop := fun xs H Q => ∃ (a C : Addr) (c : V) (cv : Value) (b : Bool), xs = [.ref a, c] ∧ ClsV c cv ∧ ExcC K C ∧ Held H a C ∧ PySem.W.kitOne K (.ref C) cv = some b ∧ Q (.bl b) H
theorem call_isH : CallR X (.builtin "isinstance") (rIsH X.K) := by
  intro pins s σ H xs us Q I r h
  obtain ⟨a, C, c, cv, b, rfl, hc, T, hh, ek, q⟩ := h
  rcases hh with ⟨d, ea, hd⟩ | ea
  · exact call_isV pins s σ H _ us Q I r ⟨a, C, d, c, cv, b, rfl, hc, T, ea, hd, ek, q⟩
  obtain ⟨u1, u2, rfl, r1, r2⟩ := vals2 r
  cases r1
  obtain rfl := hc.eq r2
  obtain ⟨⟨oe, fs, ho, hz, hdat, _, _, _⟩, _, _⟩ := I.hok a _ ea
  have hcl : (PySem.W.clsIn X.K C).isSome = true := by
    obtain ⟨cd, hc, _⟩ := PySem.W.any_some T.hd
    rw [hc] <;> rfl
  have J : PySem.W.InstAt s.heap a oe C none := ⟨ho, hz.1, by rw [PySem.W.notCls, hdat], by rw [hz.2]; trivial⟩
  exact PySem.W.kia_one (PySem.W.kitx_exc hcl T.hg T.hk T.hs T.ha T.hn T.ht T.hm) I.kIn J ek (fun z => nomatch z) fun tk => ⟨.bl b, H, I.kept (t' := tk) fun _ _ z => z, rfl, q⟩
/-- X(), an own error class without own __init__ -/
theorem pe_exc0 {bmB : List Value} {B newId initId : String} (F : ExcBaseFacts B newId initId bmB) (q : PySem.W.excIn X.K C bmB newId = true) (gC : X.mg x = some (.ref C)) (kC : PySem.W.keepIn X.K (.ref C) = true) (hg : Gl X x) (hdb : (x == ("__debug__" : Str)) = false := by decide) :
    PE X (.Call (.Name x p) [] [] pos) (fun σ H Q => ∀ a, H a = none → Q (.ref a) (upd H a (ExO (.ref C) a))) := by
  constructor
  intro pins s σ H Q I h
  refine wpAny_Call_Name_kw (ld_glob I hg gC ?_ hdb)
  refine PySem.W.callWith_K0 I.kIn kC ?_
  obtain ⟨bm, N, nm, qn, bs, hdct, sn, sub, ab, col, dd, k0, k1, k2, k3, k5, mN, hC, hN, hni, T⟩ := exc_obj I.kIn q
  refine wpAny_call_exc_subT (rest := []) F T hC hN hni (fun h2 a hm => ?_) (Nat.zero_le _)
  obtain ⟨t, ht, _⟩ := hm.there
  exact ⟨.ref a, upd H a (ExO (.ref C) a), I.laidN hm.keeps hm.new (I.hok.gone hm.new) (exO_ok ht ⟨rfl, rfl⟩ rfl rfl rfl (show 4 < 6 by decide)), rfl, h a (I.hok.gone hm.new)⟩
end
end L2

set_option Elab.async false
set_option linter.all false
set_option maxRecDepth 100000
set_option maxHeartbeats 4000000
/-! An error class with one field, all that is asked of it; comprehensions with new objects as items. -/
namespace L2
open PySem PySem.Spec PyProof.Rows
structure Ek (P : Program) (w : World) (K : PySem.W.Frag) (mg : Str → Option Value) (base : Heap) (name f : Str) (C : Addr) : Prop where
  g : mg name = some (.ref C)
  ec : EcC K C
  xf : XfC K C
  xc : ExcC K C
  no : PySem.W.findIn K (.ref C) f = some none
  init : ∃ (fI : Addr) (fd : FuncData), PySem.W.findIn K (.ref C) "__init__" = some (some (.ref fI)) ∧ PySem.W.typeIn K (.ref fI) = some (.type "function") ∧ FnOk P w K mg base CX0 1 fI fd ["self", f] (spEcInit K C f) ∧
    Binds K fd ["self", f] [] ∧ ∀ (s : Shared) (a u : Value), BindsTo s fd ⟨[a], [(f, u)]⟩ ((["self", f] : List Str).zip [a, u])
/-- e is a held error of the class at C whose field f is v -/
def Er1 (H : Hp) (C : Addr) (f : Str) (v e : V) : Prop := ∃ a d, e = .ref a ∧ H a = some (exo a C (some d)) ∧ H d = some (exd d [(f, v)])
theorem Er1.same {H H2 : Hp} {C : Addr} {f : Str} {v e : V} (r : Er1 H C f v e) (s : Same H H2) : Er1 H2 C f v e := by
  obtain ⟨a, d, e1, h1, h2⟩ := r
  exact ⟨a, d, e1, s _ _ h1, s _ _ h2⟩
def tMade (C : Addr) (f : Str) (i : Nat) : TE := fun σ H Q => ∃ v, σ[i]? = some (some v) ∧ ∀ e H2, Same H H2 → Er1 H2 C f v e → Q e H2
section
variable {X : Cx} {name f : Str} {C : Addr} {e : Expr} {i : Nat} {p pos kpos : Pos}
theorem made_of {K : PySem.W.Frag} {H : Hp} {v : V} {Q : VK} {E : XK} (T : EcC K C) (no : PySem.W.findIn K (.ref C) f = some none) (q : ∀ e H2, Same H H2 → Er1 H2 C f v e → Q e H2) {a : Addr} (na : H a = none) :
    spEcInit K C f [.ref a, v] (upd H a (exo a C none)) (fun w H2 => w = .non ∧ Q (.ref a) H2) E := by
  refine ⟨a, v, rfl, T, no, upd_same, fun d nd ne => ⟨rfl, q _ _ (fun b o z => ?_) ⟨a, d, rfl, upd_same, by rw [upd_ne ne, upd_same]⟩⟩⟩
  have ba := ne_of_none z na
  have nd1 : H d = none := by
    rw [upd_ne ne] at nd
    exact nd
  rw [upd_ne ba, upd_ne (ne_of_none z nd1), upd_ne ba]
  exact z
theorem pe_mkP (E : Ek X.prog X.w X.K X.mg X.base name f C) (hr : Room 2 X.A) (hg : Gl X name) (he : PE X e (tVar i)) (hdb : (name == ("__debug__" : Str)) = false := by decide)
    (hs : starEach [e] X.env = (false, eval e X.env) :: starEach [] X.env := by rfl) : PE X (.Call (.Name name p) [e] [] pos) (tMade C f i) := by
  obtain ⟨fI, fd, ii, tt, F, b, _⟩ := E.init
  constructor
  intro pins s σ H Q I h
  obtain ⟨v, hv, q⟩ := h
  exact (pe_ecv (E := fun _ _ _ => False) E.ec ii tt F hr b pass0 hg E.g (pa_cons he pa_nil (hs := hs)) hdb hs rfl).run pins s σ H Q I ⟨v, hv, (by show 1 ≤ 1000; decide), fun a na => made_of E.ec E.no q na⟩
theorem pe_mkN (E : Ek X.prog X.w X.K X.mg X.base name f C) (hr : Room 2 X.A) (hg : Gl X name) (he : PE X e (tVar i)) (hdb : (name == ("__debug__" : Str)) = false := by decide)
    (hall : (backToKw pos (keywordEach [⟨some f, e, kpos⟩] X.env)).all (·.1.isSome) = true := by rfl) (hks : (backToKw pos (keywordEach [⟨some f, e, kpos⟩] X.env)).filterMap (·.1) = [f] := by rfl)
    (hpl : ((backTo pos (starEach [] X.env)).any (·.1) || (backToKw pos (keywordEach [⟨some f, e, kpos⟩] X.env)).any (·.1.isNone)) = false := by rfl) : PE X (.Call (.Name name p) [] [⟨some f, e, kpos⟩] pos) (tMade C f i) := by
  obtain ⟨fI, fd, ii, tt, F, _, b⟩ := E.init
  constructor
  intro pins s σ H Q I h
  obtain ⟨v, hv, q⟩ := h
  exact (pe_eck (E := fun _ _ _ => False) E.ec ii tt F hr b pass0 hg E.g he hdb hall hks hpl).run pins s σ H Q I ⟨v, hv, v, rfl, fun a na => made_of E.ec E.no q na⟩
end
section
variable {J : It} {n : Nat} {G : Hp → Prop}
/-- a comprehension without a test whose items are known by what is true of them, apart from the list that grows -/
theorem lc_rel {xs : List V} (w : Walk J n G (YAt xs)) (hsz : n < sizeLine) {slot : Nat} {te : TE} {vs : List Nat} {σ : St} {H1 : Hp} {D : Addr} {Qd : Hp → Prop} (R : Nat → V → Hp → Prop) (hR : ∀ i y H H', R i y H → But D H H' → R i y H') (hD : H1 D = none)
    (hG : ∀ H, Same H1 H → G H) (hw : ∀ x, wipe ((wipe σ vs).set slot (some x)) vs = wipe σ vs)
    (hs : ∀ (i : Nat) (x : V) (H : Hp) (Q : VK), xs[i]? = some x → Same H1 H → (∃ o, H D = some o) → (∀ y H4, Same H H4 → R i y H4 → Q y H4) → te ((wipe σ vs).set slot (some x)) H Q)
    (hd : ∀ (H : Hp) (ys : List V), Same H1 H → H D = some (.lst ys) → ys.length = n → (∀ (i : Nat) (y : V), ys[i]? = some y → R i y H) → Qd H) :
    ∃ W : Nat → Nat → Hp → Prop, (∃ m, W 0 m (upd H1 D (.lst []))) ∧ ∀ i m H, W i m H →
      (J.stop i H ∧ Qd H) ∨ (J.go i H ∧ ∃ Nx : Hp → Prop, (∀ H', Nx H' → ∃ m', m' < m ∧ W (i + 1) m' H') ∧ ∀ x H', J.yld i H x H' → gName slot x (wipe σ vs) H' fun σ2 H2 => wipe σ2 vs = wipe σ vs ∧ tYes σ2 H2 fun b H3 =>
        if b = true then te σ2 H3 fun y H4 => ∃ acc, H4 D = some (.lst acc) ∧ acc.length < sizeLine ∧ Nx (upd H4 D (.lst (acc ++ [y]))) else Nx H3) := by
  refine lc_it w (fun i H => Same H1 H ∧ ∃ acc : List V, H D = some (.lst acc) ∧ acc.length = i ∧ ∀ (j : Nat) (y : V), acc[j]? = some y → R j y H) ⟨same_new hD, [], upd_same, rfl, fun j y z => by simp at z⟩ (fun i H _ h => hG H h.1) (fun i x H H' hi h y => ?_) (fun H h => by
    obtain ⟨s, acc, h1, h2, h3⟩ := h
    exact hd H acc s h1 h2 h3)
  obtain ⟨s1, acc, hl, len, ha⟩ := h
  obtain ⟨rfl, hx⟩ := y
  refine ⟨hw x, ?_⟩
  unfold tYes
  dsimp only
  rw [if_pos rfl]
  refine hs i x _ _ hx s1 ⟨_, hl⟩ fun y H4 s4 hy => ⟨acc, s4 _ _ hl, by omega, fun b o e => ?_, acc ++ [y], upd_same, by rw [List.length_append, len]; rfl, fun j z hz => ?_⟩
  · rw [upd_ne (ne_of_none e hD)]
    exact s4 _ _ (s1 _ _ e)
  · rcases Nat.lt_or_ge j acc.length with q | q
    · rw [List.getElem?_append_left q] at hz
      exact hR _ _ _ _ (hR _ _ _ _ (ha j z hz) (But.of_same s4)) But.upd
    · rw [List.getElem?_append_right q] at hz
      have ej : j - acc.length = 0 := by
        rcases Nat.eq_zero_or_pos (j - acc.length) with z | z
        · exact z
        · rw [List.getElem?_eq_none (by rw [List.length_singleton]; exact z)] at hz
          cases hz
      rw [ej] at hz
      obtain rfl : y = z := by simpa using hz
      obtain rfl : j = i := by omega
      exact hR _ _ _ _ hy But.upd
theorem dp_list {K : PySem.W.Frag} {H : Hp} : ∀ {ys : List V} {ds : List PyData}, ys.length = ds.length → (∀ (i : Nat) (y : V) (d : PyData), ys[i]? = some y → ds[i]? = some d → Dp K H y d) → DpAll K H ys ds
  | [], [], _, _ => .nil
  | y :: ys, d :: ds, l, h => .cons (h 0 y d rfl rfl) (dp_list (Nat.succ.inj l) fun i z e a b => h (i + 1) z e (by simpa using a) (by simpa using b))
  | [], _ :: _, l, _ => by cases l
  | _ :: _, [], l, _ => by cases l
theorem dp_bls {K : PySem.W.Frag} {H : Hp} : ∀ bs : List Bool, DpAll K H (bs.map V.bl) (bs.map PyData.bool)
  | [] => .nil
  | b :: bs => .cons (.bl b) (dp_bls bs)
end
end L2

set_option Elab.async false
set_option linter.all false
set_option maxRecDepth 100000
set_option maxHeartbeats 4000000
/-! A crowd that is made, its own list new; comparisons of crowds; tests whose ways meet; slices. -/
namespace L2
open PySem PySem.Spec PyProof.Rows
section
variable {X : Cx} {e : Expr} {t : TT}
/-- a test by a contract: ways meet -/
def tCutT (P : St → Hp → Bool → Hp → Prop) (t : TT) : TT := fun σ H Q => t σ H (P σ H) ∧ ∀ c H', P σ H c H' → Q c H'
theorem pt_cut (P : St → Hp → Bool → Hp → Prop) (h : PT X e t) : PT X e (tCutT P t) := ⟨fun pins s σ H Q I z => thn (h.run pins s σ H _ I z.1) fun _ _ q => by
  obtain ⟨H1, I1, p⟩ := q
  exact ⟨H1, I1, z.2 _ H1 p⟩⟩
end
/-- Crowd.__init__, the list that it keeps being new -/
def spCrowdNew (K : PySem.W.Frag) (C CB : Addr) : Sp := fun vs H Q E => ∃ (x dx : Addr) (v m : V) (b : Bool) (xs : List V), vs = [.ref x, v, m] ∧ H x = some (.ins C dx []) ∧ ArgP K H v b xs ∧ (∃ T, TyN K H m T) ∧
  (b = false → ∀ H' d, Raised H H' d "part" (.str "people") → E (.ref CB) (some d) H') ∧
  (b = true → markB 1 10 m = false → ∀ H' d, Raised H H' d "part" (.str "most") → E (.ref CB) (some d) H') ∧
  (b = true → ∀ i, m = .int i → markB 1 10 m = true → ∀ H' dx p, But x H H' → H p = none → H' x = some (.ins C dx (crowdFs p i)) → H' p = some (.lst xs) → Q .non H')
section
variable {K : PySem.W.Frag} {σ : St} {H : Hp} {Q : VK}
theorem rd_made {C CB : Addr} {m : Int} {xs : List V} {t : TA} (hm : markB 1 10 (.int m) = true) (ht : ∀ Q' : List V → Hp → Prop, (∀ H1 v, Same H H1 → ArgP K H1 v true xs → Q' [v, .int m] H1) → t σ H Q')
    (k : ∀ H' x dx p, Same H H' → H x = none → H p = none → H' x = some (.ins C dx (crowdFs p m)) → H' p = some (.lst xs) → Q (.ref x) H') : tMake C (spCrowdNew K C CB) [] (fun _ _ _ => False) t σ H Q := by
  refine ht _ fun H1 v s1 ha => ?_
  intro x dx nx ndx nex
  have s2 : Same H1 (upd (upd H1 dx (.own x)) x (.ins C dx [])) := fun c o e => by
    rw [upd_ne (ne_of_none e nx), upd_ne (ne_of_none e ndx)]
    exact e
  refine ⟨x, dx, v, .int m, true, xs, rfl, upd_same, ha.same s2, ⟨"int", .base (.int m), by decide⟩, fun z => (nomatch z), fun _ z => ?_, fun _ i hi _ H' dx2 p hB np h1 h2 => ?_⟩
  · rw [hm] at z
    cases z
  · cases V.int.inj hi
    exact ⟨rfl, k H' x dx2 p (s1.trans fun c o e => hB c o (ne_of_none e nx) (s2 _ _ e)) (s1.free nx) (s1.free (s2.free np)) h1 h2⟩
variable {C a b : Addr} {zs ys : List Str} {m n : Int} {E : XK}
theorem rd_eqC (nf : PySem.W.notFirst K C (.ref C) = true) (ha : CrowdOf H C a zs m) (hb : CrowdOf H C b ys n) (oz : ∀ z ∈ zs, PyData.strOk z = true) (oy : ∀ z ∈ ys, PyData.strOk z = true) (q : Q (.bl (decide (m = n) && decide (zs = ys))) H) :
    rEqOwn K C (spCrowdEq K C) E (.ref a) (.ref b) H Q := by
  obtain ⟨dx, p, h1, h2⟩ := id ha
  obtain ⟨dy, p2, h3, h4⟩ := id hb
  exact ⟨a, dx, b, _, _, rfl, rfl, h1, .ins h3, nf, a, b, zs, m, rfl, ha, oz, .inl ⟨ys, n, hb, oy, _, rfl, q⟩⟩
theorem rd_eqL {xs : List V} (nf : PySem.W.notFirst K C (.type "list") = true) (ha : CrowdOf H C a zs m) (hb : H b = some (.lst xs)) (oz : ∀ z ∈ zs, PyData.strOk z = true) (q : Q (.bl false) H) :
    rEqOwn K C (spCrowdEq K C) E (.ref a) (.ref b) H Q := by
  obtain ⟨dx, p, h1, h2⟩ := id ha
  exact ⟨a, dx, b, _, _, rfl, rfl, h1, .lst hb, nf, a, b, zs, m, rfl, ha, oz, .inr ⟨⟨_, hb⟩, _, rfl, q⟩⟩
theorem rd_neC (ha : CrowdOf H C a zs m) (hb : CrowdOf H C b ys n) (oz : ∀ z ∈ zs, PyData.strOk z = true) (oy : ∀ z ∈ ys, PyData.strOk z = true) (q : Q (.bl (!(decide (m = n) && decide (zs = ys)))) H) :
    rNeOwn C (spCrowdEq K C) E (.ref a) (.ref b) H Q := by
  obtain ⟨dx, p, h1, h2⟩ := id ha
  obtain ⟨dy, p2, h3, h4⟩ := id hb
  exact ⟨a, dx, b, dy, _, _, rfl, rfl, h1, h3, a, b, zs, m, rfl, ha, oz, .inl ⟨ys, n, hb, oy, _, rfl, q⟩⟩
end
section
variable {i j : Nat} {ta : TE} {tr t : TA} {T U : TS} {D : Ends} {v : V} {σ : St} {H : Hp} {Q : List V → Hp → Prop} {R : St → Hp → Prop}
theorem st_name (h : R (List.set σ i (some v)) H) : gName i v σ H R := h
theorem st_seq (h : T { nx := U D, rt := D.rt, bk := D.bk, ct := D.ct } σ H) : tSeq T U D σ H := h
theorem st_par (h : t σ H fun vs H1 => ∃ v w, vs = [v, w] ∧ D.nx ((List.set σ i (some v)).set j (some w)) H1) : tPar i j t D σ H := h
theorem st_cons (h : ta σ H fun x H1 => tr σ H1 fun xs H2 => Q (x :: xs) H2) : tCons ta tr σ H Q := h
end
theorem km_take {xs : List V} (k : Nat) : cutV xs none (some (k : Int)) = xs.take k := by
  unfold cutV
  rw [HT.sIx_none, HT.sIx_nat, List.drop_zero, Nat.sub_zero]
  rcases Nat.le_total k xs.length with h | h
  · rw [Nat.min_eq_left h]
  · rw [Nat.min_eq_right h, List.take_of_length_le h, List.take_of_length_le (Nat.le_refl _)]
theorem km_drop {xs : List V} (k : Nat) : cutV xs (some (k : Int)) none = xs.drop k := by
  unfold cutV
  rw [HT.sIx_none, HT.sIx_nat]
  rcases Nat.le_total k xs.length with h | h
  · rw [Nat.min_eq_left h, List.take_of_length_le (by rw [List.length_drop]; exact Nat.le_refl _)]
  · rw [Nat.min_eq_right h, List.drop_of_length_le h, List.drop_of_length_le (Nat.le_refl _), List.take_nil]
theorem extN_sq {K : PySem.W.Frag} {H G : Hp} {a : Addr} {xs : List V} (e : LamX.ExtN H G) (h : SqL K H a xs) : SqL K G a xs := by
  unfold SqL Rd at h ⊢
  rcases h with (h | ⟨o, h⟩) | h
  · exact .inl (.inl (e _ _ h fun ps z => (nomatch z)))
  · exact .inl (.inr ⟨o, e _ _ h fun ps z => (nomatch z)⟩)
  · exact .inr h
theorem CrowdAt.extN {H G : Hp} {C x : Addr} {xs : List V} {m : Int} (e : LamX.ExtN H G) (h : CrowdAt H C x xs m) : CrowdAt G C x xs m := by
  obtain ⟨dx, p, h1, h2⟩ := h
  exact ⟨dx, p, e _ _ h1 fun ps z => (nomatch z), e _ _ h2 fun ps z => (nomatch z)⟩
theorem more_word : wordB "more" = true ∧ ("more" : Str) ∉ names8 ∧ PyData.strOk "more" = true ∧ ("more" : Str).length ≤ 1000 := by decide +kernel
theorem Drawn8.more {zs : List Str} (d : Drawn8 zs) (h : zs.length < 8) : peopleB ((zs ++ [("more" : Str)]).map V.str) = true := by
  show ((decide (1 ≤ ((zs ++ [("more" : Str)]).map V.str).length) && decide (((zs ++ [("more" : Str)]).map V.str).length ≤ 8)) && (((zs ++ [("more" : Str)]).map V.str).all isW && decide ((zs ++ [("more" : Str)]).map V.str).Nodup)) = true
  have nd : (zs ++ [("more" : Str)]).Nodup := by
    rw [List.nodup_append]
    refine ⟨d.nd, by simp, fun a ha b hb e => ?_⟩
    rw [List.mem_singleton] at hb
    subst hb
    subst e
    exact more_word.2.1 (d.mem _ ha)
  have al : ((zs ++ [("more" : Str)]).map V.str).all isW = true := by
    rw [List.map_append, List.all_append, d.allW]
    show (true && (wordB "more" && true)) = true
    rw [more_word.1]
    rfl
  rw [al, List.length_map, List.length_append, List.length_singleton, decide_eq_true (show 1 ≤ zs.length + 1 by omega), decide_eq_true (show zs.length + 1 ≤ 8 by omega), decide_eq_true ((nodup_map_inj (f := V.str) (fun _ _ e => V.str.inj e)).mpr nd)]
  rfl
theorem Drawn8.sub {zs ys : List Str} (d : Drawn8 zs) (h : ys.Sublist zs) : Drawn8 ys := ⟨d.nd.sublist h, fun z hz => d.mem z (h.subset hz)⟩
theorem Drawn8.perm {zs ys : List Str} (d : Drawn8 zs) (h : ys.Perm zs) : Drawn8 ys := ⟨h.nodup_iff.mpr d.nd, fun z hz => d.mem z (h.mem_iff.mp hz)⟩
theorem rev_ne {zs : List Str} (nd : zs.Nodup) (h : 1 < zs.length) : zs.reverse ≠ zs := fun e => by
  match zs, nd, h with
  | a :: b :: zr, nd, h =>
    have e1 : (a :: b :: zr).reverse.getLast? = (a :: b :: zr).getLast? := by rw [e]
    rw [List.getLast?_reverse] at e1
    have e2 : (a :: b :: zr).getLast? = some a := e1.symm
    have e3 : a ∈ b :: zr := by
      rw [List.getLast?_cons_cons] at e2
      exact List.mem_of_getLast? e2
    exact (List.nodup_cons.mp nd).1 e3
  | [a], nd, h => exact absurd h (Nat.lt_irrefl 1)
  | [], nd, h => exact absurd h (by decide)
end L2

set_option Elab.async false
set_option linter.all false
set_option maxRecDepth 100000
set_option maxHeartbeats 4000000
/-! Dicts whose keys are tuples: their values and items walked, comprehensions that make them. -/
namespace L2
open PySem PySem.Spec PyProof.Rows
section
variable {X : Cx} {pins : List (Addr × Obj)} {σ : St} {H : Hp} {s : Shared} {d : Addr} {o : Obj}
theorem Inv.frzTV {kvs : List (List Key × V)} (I : Inv X pins σ H s) (h : H d = some (.frz o (.dT kvs))) :
    (d == sysModules) = false ∧ ∃ (es : Array DictEntry) (ep : Nat), s.heap.DictRaw d es ep ∧ o.data = .dict es ep ∧ es.size = kvs.length ∧
      ∀ (i : Nat) (k : List Key) (v : V), kvs[i]? = some (k, v) → ∃ (hi : i < es.size) (q : Addr), es[i].key = .ref q ∧ H q = some (.tup (k.map kV)) ∧ RelV v es[i].val := by
  obtain ⟨hd, z, hs, xs, pr, o', es, ep, ho, hx, hdt, he, _⟩ := I.hok d _ h
  rw [hd] at ho
  cases ho
  have l1 : es.size = xs.length := size_of_entries he
  have l2 : kvs.length = xs.length := Paired.length pr
  refine ⟨hs, es, ep, ⟨o, hd, hx, hdt⟩, hdt, by omega, fun i k v e => ?_⟩
  obtain ⟨b, hb, e1, e2, e3⟩ := paired_get pr e
  have hi : i < es.size := by
    have := (List.getElem?_eq_some_iff.mp e).1
    omega
  have q := entry_at he i
  rw [hb, Array.getElem?_eq_getElem hi, Option.map_some] at q
  have q2 := Option.some.inj q
  exact ⟨hi, b.2.1, by rw [q2]; rfl, e2, by rw [q2]; exact e3⟩
end
theorem raw_noDict {h : Heap} {d : Addr} {es : Array DictEntry} {ep : Nat} (r : h.DictRaw d es ep) : ∀ b, Value.ref d = .ref b → ∃ ob, h.get? b = some ob ∧ ob.dict = none := fun b e => by
  cases e
  obtain ⟨o, ho, hc, _⟩ := r
  exact ⟨o, ho, hc.2.1⟩
/-- the values of the locked dict at d, its keys tuples -/
def Itvt (d : Addr) (o : Obj) (kvs : List (List Key × V)) : It :=
  ⟨fun i H => H d = some (.frz o (.dT kvs)) ∧ i < kvs.length, fun i H x H' => H' = H ∧ ∃ k, kvs[i]? = some (k, x), fun i H => H d = some (.frz o (.dT kvs)) ∧ kvs.length ≤ i⟩
/-- the pairs, each a new tuple of the key's own tuple and the value -/
def Itit (d : Addr) (o : Obj) (kvs : List (List Key × V)) : It :=
  ⟨fun i H => H d = some (.frz o (.dT kvs)) ∧ i < kvs.length, fun i H x H' => ∃ T k v q, kvs[i]? = some (k, v) ∧ x = .ref T ∧ H T = none ∧ H q = some (.tup (k.map kV)) ∧ H' = upd H T (.tup [.ref q, v]), fun i H => H d = some (.frz o (.dT kvs)) ∧ kvs.length ≤ i⟩
section
variable {P : Program} {w : World} {K : PySem.W.Frag} {tg : Expr} {d : Addr} {o : Obj} {es : Array DictEntry} {ep : Nat}
theorem turn_valsT {kvs : List (List Key × V)} (it : Addr) (hod : o.data = .dict es ep) : Turn P w K tg (Itvt d o kvs) [it] it (fun i h => h.IsValIter it d i kvs.length ep) where
  mem := by simp
  obj := fun i h st b hb => by
    have e : b = it := by simpa using hb
    subst e
    obtain ⟨oi, e, c, dd⟩ := st
    exact ⟨oi, e, fun v z => by rw [dd] at z; cases z⟩
  keep := fun i h h' st k => st.at fun oi e => k it (by simp) oi e
  item := by
    intro X hP hw hK hc i pins s σ H E I hf st hg
    subst hP hw hK
    obtain ⟨hd, hi⟩ := hg
    obtain ⟨f0, f1, f2, f3, f4, f5⟩ := hf it (by simp)
    obtain ⟨hs, es', ep', hr, hdt, hsz, ent⟩ := I.frzTV hd
    obtain ⟨rfl, rfl⟩ := dict_ep hod hdt
    obtain ⟨⟨k, v⟩, hkv⟩ : ∃ p, kvs[i]? = some p := ⟨kvs[i], List.getElem?_eq_getElem hi⟩
    obtain ⟨hie, q, hkey, hq, rv⟩ := ent i k v hkv
    rw [← hsz] at st
    refine PySem.wpAny_pyNext_values_item_raw st hr hie fun h' st' sb => ?_
    have I1 : Inv X pins σ H { s with heap := h' } := I.turned (t' := s.toks) (fun b ob hb e => (sb.2 b hb).trans e) f0 f1 f3 f4 f5
    obtain ⟨oi, e, c, dd⟩ := id st'
    refine ⟨_, rfl, go_of (s := { s with heap := h' }) e c dd (by decide) ⟨v, H, I1, rv, ⟨rfl, k, hkv⟩, ?_, fun b hb => (hf b hb).1⟩⟩
    show h'.IsValIter it d (i + 1) kvs.length _
    rw [← hsz]
    exact st'
  done := by
    intro X hP hw hK hc i pins s σ H E I hf st hg
    subst hP hw hK
    obtain ⟨hd, hi⟩ := hg
    obtain ⟨f0, f1, f2, f3, f4, f5⟩ := hf it (by simp)
    obtain ⟨hs, es', ep', hr, hdt, hsz, ent⟩ := I.frzTV hd
    obtain ⟨rfl, rfl⟩ := dict_ep hod hdt
    rw [← hsz] at st
    exact PySem.wpAny_pyNext_values_end_raw (I.ok.hd hc) st hr (by omega) fun h' eb => ⟨rfl, I.turned (t' := s.toks) (fun b ob hb e => eb b ob hb e) f0 f1 f3 f4 f5⟩
  self := fun A i s Q E st h => wpAny_pyIter_valiter st h
theorem turn_itemsT {kvs : List (List Key × V)} {elts : List Expr} {kk : Nat} {tpos : Pos} (it : Addr) (hod : o.data = .dict es ep) :
    Turn P w K (.Tuple elts kk tpos) (Itit d o kvs) [it] it (fun i h => ∃ ok ov, IsItemIter h it d i kvs.length ep ok ov) where
  mem := by simp
  obj := fun i h st b hb => by
    have e : b = it := by simpa using hb
    subst e
    obtain ⟨ok, ov, e⟩ := st
    exact ⟨_, e, fun v z => nomatch z⟩
  keep := fun i h h' st k => let ⟨ok, ov, e⟩ := st; ⟨ok, ov, k it (by simp) _ e⟩
  item := by
    intro X hP hw hK hc i pins s σ H E I hf st hg
    subst hP hw hK
    obtain ⟨hd, hi⟩ := hg
    obtain ⟨hs, es', ep', hr, hdt, hsz, ent⟩ := I.frzTV hd
    obtain ⟨rfl, rfl⟩ := dict_ep hod hdt
    obtain ⟨⟨k, v⟩, hkv⟩ : ∃ p, kvs[i]? = some p := ⟨kvs[i], List.getElem?_eq_getElem hi⟩
    obtain ⟨hie, q, hkey, hq, rv⟩ := ent i k v hkv
    obtain ⟨ok, ov, he⟩ := st
    rw [← hsz] at he
    have hlt : it < s.heap.objs.size := Heap.lt_size he
    refine PySem.wpAny_pyNext_items_item_raw he hr hie fun h' ho hT hz hk => ?_
    refine ⟨_, rfl, wpAny_letOwnedTupleGo_items (s := { s with heap := h' }) ho fun h'' he' sb => ?_⟩
    have hT2 : h''.get? s.heap.objs.size = some { cls := .type "tuple", data := .seq #[es'[i].key, es'[i].val] } := (sb.2 _ (Nat.ne_of_gt hlt)).trans hT
    have new : ObjOk X.prog X.w (upd H s.heap.objs.size (.tup [.ref q, v])) h'' s.heap.objs.size (.tup [.ref q, v]) :=
      ⟨by show 2 ≤ sizeLine; decide, [es'[i].key, es'[i].val], .cons (by rw [hkey]; rfl) (.cons rv .nil), ⟨_, hT2, rfl, _, rfl⟩⟩
    have I1 : Inv X pins σ (upd H s.heap.objs.size (.tup [.ref q, v])) { s with heap := h'' } :=
      I.turnedNew (t' := s.toks) (ch := [it]) (fun b ob hb e => (sb.2 b (by simpa using hb)).trans (hk b ob (by simpa using hb) e)) hf (Nat.le_refl _) new
    refine ⟨.ref s.heap.objs.size, _, I1, rfl, ⟨_, k, v, q, hkv, rfl, I.hok.fresh (Nat.le_refl _), hq, rfl⟩, ⟨es'[i].key, es'[i].val, ?_⟩, fun b hb => ?_⟩
    · rw [← hsz]; exact he'
    · have e : b = it := by simpa using hb
      rw [e, upd_ne (Nat.ne_of_lt hlt)]
      exact (hf it (by simp)).1
  done := by
    intro X hP hw hK hc i pins s σ H E I hf st hg
    subst hP hw hK
    obtain ⟨hd, hi⟩ := hg
    obtain ⟨f0, f1, f2, f3, f4, f5⟩ := hf it (by simp)
    obtain ⟨hs, es', ep', hr, hdt, hsz, ent⟩ := I.frzTV hd
    obtain ⟨rfl, rfl⟩ := dict_ep hod hdt
    obtain ⟨ok, ov, he⟩ := st
    rw [← hsz] at he
    exact PySem.wpAny_pyNext_items_end_raw (I.ok.hd hc) he hr (by omega) fun h' eb => ⟨rfl, I.turned (t' := s.toks) (fun b ob hb e => eb b ob hb e) f0 f1 f3 f4 f5⟩
  self := fun A i s Q E st h => let ⟨_, _, e⟩ := st; PySem.W.kcp_self e h
end
def iValsT (td : TE) : TI := fun σ H R => td σ H fun x H1 => ∃ d o kvs, x = .ref d ∧ H1 d = some (.frz o (.dT kvs)) ∧ R (Itvt d o kvs) H1
def iItemsT (td : TE) : TI := fun σ H R => td σ H fun x H1 => ∃ d o kvs, x = .ref d ∧ H1 d = some (.frz o (.dT kvs)) ∧ R (Itit d o kvs) H1
section
variable {X : Cx} {tg e : Expr} {td : TE} {apos cpos : Pos}
theorem pi_valuesT (he : PE X e td) (hbase : attributeBase e "values" X.env (eval e X.env) = eval e X.env := by rfl) (hline : (apos.endLine == cpos.line) = true := by rfl) : PI X tg (.Call (.Attribute e "values" apos) [] [] cpos) (iValsT td) := by
  refine ⟨fun pins s σ H R I h => ?_⟩
  refine wpAny_Call_method (T := "dict") (id := "dict.values") hbase rfl hline F.plainAttrs_dict F.slot_dict_values F.type_dict_values (thn (he.run pins s σ H _ I h) fun u s1 ⟨x, H1, I1, rx, d, o, kvs, ex, hd, q⟩ => ?_)
  subst ex
  obtain rfl : u = Value.ref d := rx
  obtain ⟨hs, es, ep, hr, hdt, hsz, ent⟩ := I1.frzTV hd
  refine ⟨hr.typeIs, raw_noDict hr, ?_⟩
  have I2 : Inv X pins σ H1 { s1 with heap := s1.heap.push { cls := .type "dict_values", data := .fields #[.ref d] } } := I1.kept (t' := s1.toks) fun b ob q => Heap.get?_push_of_some _ q
  have fin : wpAny (model X.prog X.w) X.A (pyIter (.ref s1.heap.objs.size)) (PIE X pins σ tg R) X.xe { s1 with heap := s1.heap.push { cls := .type "dict_values", data := .fields #[.ref d] } } := by
    refine PySem.wpAny_pyIter_values_raw (d := d) ⟨_, Heap.get?_push_size _ rfl, rfl, rfl⟩ (hr.push _) (pi_one (tk := s1.toks) I2 _ (turn_valsT _ hdt) ⟨_, Heap.get?_push_size _ rfl, rfl, ?_⟩ q)
    rw [hsz] <;> rfl
  show wpAny _ _ (callWith cpos (.builtin "dict.values") [.ref d] [] []) _ X.xe s1
  exact method_meetsIn F.slot_dict_values F.entry_dict_values rfl (PySem.evalArgs_none ⟨rfl, hr.typeIs, F.args_dict_values_1 _, _, PySem.meets_dict_values_raw d hs, ⟨_, _, hr⟩, fin⟩)
theorem pi_itemsT {elts : List Expr} {kk : Nat} {tpos : Pos} (he : PE X e td) (hbase : attributeBase e "items" X.env (eval e X.env) = eval e X.env := by rfl) (hline : (apos.endLine == cpos.line) = true := by rfl) :
    PI X (.Tuple elts kk tpos) (.Call (.Attribute e "items" apos) [] [] cpos) (iItemsT td) := by
  refine ⟨fun pins s σ H R I h => ?_⟩
  refine wpAny_Call_method (T := "dict") (id := "dict.items") hbase rfl hline F.plainAttrs_dict F.slot_dict_items F.type_dict_items (thn (he.run pins s σ H _ I h) fun u s1 ⟨x, H1, I1, rx, d, o, kvs, ex, hd, q⟩ => ?_)
  subst ex
  obtain rfl : u = Value.ref d := rx
  obtain ⟨hs, es, ep, hr, hdt, hsz, ent⟩ := I1.frzTV hd
  refine ⟨hr.typeIs, raw_noDict hr, ?_⟩
  have I2 : Inv X pins σ H1 { s1 with heap := s1.heap.push { cls := .type "dict_items", data := .fields #[.ref d] } } := I1.kept (t' := s1.toks) fun b ob q => Heap.get?_push_of_some _ q
  have fin : wpAny (model X.prog X.w) X.A (pyIter (.ref s1.heap.objs.size)) (PIE X pins σ (.Tuple elts kk tpos) R) X.xe { s1 with heap := s1.heap.push { cls := .type "dict_items", data := .fields #[.ref d] } } := by
    refine PySem.wpAny_pyIter_items_raw (d := d) ⟨_, Heap.get?_push_size _ rfl, rfl, rfl⟩ (hr.push _) (pi_one (tk := s1.toks) I2 _ (turn_itemsT _ hdt) ⟨.none, .none, ?_⟩ q)
    rw [← hsz]
    exact Heap.get?_push_size _ rfl
  show wpAny _ _ (callWith cpos (.builtin "dict.items") [.ref d] [] []) _ X.xe s1
  exact method_meetsIn F.slot_dict_items F.entry_dict_items rfl (PySem.evalArgs_none ⟨rfl, hr.typeIs, F.args_dict_items_1 _, _, PySem.meets_dict_items_raw d hs, ⟨_, _, hr⟩, fin⟩)
end
theorem walk_valuesT {d : Addr} {o : Obj} {kvs : List (List Key × V)} : Walk (Itvt d o kvs) kvs.length (fun H => H d = some (.frz o (.dT kvs))) (fun i H x H' => H' = H ∧ ∃ k, kvs[i]? = some (k, x)) :=
  { goes := fun _ _ hi q => ⟨q, hi⟩, stops := fun _ q => ⟨q, Nat.le_refl _⟩, yields := fun _ _ _ _ _ _ y => y }
theorem walk_itemsT {d : Addr} {o : Obj} {kvs : List (List Key × V)} : Walk (Itit d o kvs) kvs.length (fun H => H d = some (.frz o (.dT kvs)))
    (fun i H x H' => ∃ T k v q, kvs[i]? = some (k, v) ∧ x = .ref T ∧ H T = none ∧ H q = some (.tup (k.map kV)) ∧ H' = upd H T (.tup [.ref q, v])) :=
  { goes := fun _ _ hi q => ⟨q, hi⟩, stops := fun _ q => ⟨q, Nat.le_refl _⟩, yields := fun _ _ _ _ _ _ y => y }
end L2

set_option Elab.async false
set_option linter.all false
set_option maxRecDepth 100000
set_option maxHeartbeats 4000000
/-! {k: v for target in iter if ..} with tuple keys. -/
namespace L2
open PySem PySem.Spec PyProof.Rows
/-- one entry more, by a comprehension -/
theorem dT_set {X : Cx} {pins : List (Addr × Obj)} {σ : St} {H : Hp} {s : Shared} {E : Value → Shared → Prop} {D b : Addr} {kvs : List (List Key × V)} {k : List Key} {v : V} {u r : Value} {Q : Unit → Shared → Prop}
    (hu : X.A.units + 1 < cLine) (I : Inv X pins σ H s) (hD : H D = some (.dT kvs)) (hb : H b = some (.tup (k.map kV))) (hz : kvs.length < sizeLine) (ry : RelV (.ref b) u) (rv : RelV v r)
    (h : ∀ s', Inv X pins σ (upd H D (.dT (putK kvs k v))) s' → Q () s') : wpAny (model X.prog X.w) X.A (dictSet D u r) Q E s := by
  cases (show u = Value.ref b from ry)
  obtain ⟨z, low, xs, rel, dd⟩ := dt_of I.hok hD
  have lx : xs.length ≤ sizeLine := (Paired.length rel) ▸ z
  have lp : (putK kvs k v).length ≤ sizeLine := Nat.le_trans (length_putK kvs k v) hz
  refine PySem.wpAny_dictSet_heap (hsz := lx) (by show X.A.units < cLine; omega) (key_of I.hok hb) dd fun h' dd' hs => h _ ?_
  obtain ⟨q, es, ep, hq, a2, a3, a4, _, a5⟩ := dd'
  have keep : ∀ c ys, H c = some (.tup ys) → upd H D (.dT (putK kvs k v)) c = some (.tup ys) := fun c ys ec => (upd_ne (ne_of ec hD (fun z => nomatch z))).trans ec
  exact d_write I (by rw [hD]; exact True.intro) hs ⟨q, hq⟩ ⟨lp, low, _, (rel.put k hb rv).keeps keep, q, es, ep, hq, a2, a3, a4, a5⟩
/-- what one turn asks: the new dict stands at D -/
def dcTurn (D : Addr) (tt : TT) (tk tv : TE) (Nx : Hp → Prop) : St → Hp → Prop := fun σ H => tt σ H fun b H3 => if b = true then tk σ H3 fun y H4 => tv σ H4 fun z H5 =>
  ∃ kvs k c, y = .ref c ∧ H5 c = some (.tup (k.map kV)) ∧ H5 D = some (.dT kvs) ∧ kvs.length < sizeLine ∧ Nx (upd H5 D (.dT (putK kvs k z))) else Nx H3
def tDcT (wi : TI) (g : TG) (tt : TT) (tk tv : TE) (vs : List Nat) : TE := fun σ H Q => wi σ H fun J H1 => ∀ D, H1 D = none → ∃ W : Nat → Nat → Hp → Prop, (∃ m, W 0 m (upd H1 D (.dT []))) ∧ ∀ i m H, W i m H →
  (J.stop i H ∧ Q (.ref D) H) ∨ (J.go i H ∧ ∃ Nx : Hp → Prop, (∀ H', Nx H' → ∃ m', m' < m ∧ W (i + 1) m' H') ∧ ∀ x H', J.yld i H x H' → g x (wipe σ vs) H' fun σ2 H2 => wipe σ2 vs = wipe σ vs ∧ dcTurn D tt tk tv Nx σ2 H2)
section
variable {X : Cx}
theorem dcT_core {kx vx tg iter : Expr} {ifs : List Expr} {scope : Scope} {own : List (Str × Nat)} {pos : Pos} {wi : TI} {g : TG} {tt : TT} {tk tv : TE} {pins : List (Addr × Obj)} {s : Shared} {σ : St} {H : Hp} {Q : VK} {pos' : Pos} {use : Option (Value → Sem Unit)} {Qf : Value → Shared → Prop} (I : Inv X pins σ H s) (hu : X.A.units + 1 < cLine) (hc : X.calm = true) (hN : X.N.Nodup) (hi : PI X tg iter wi) (ok : BlkOk X.N X.env.scope scope own)
    (hg : ∀ (s : Shared) (H : Hp) (C : Addr) (cl : List (Str × Addr)) (fp : List Addr), PG (X.blk s H scope (compEnvC scope cl C X.env) fp) tg g)
    (ht : ∀ (s : Shared) (H : Hp) (C : Addr) (cl : List (Str × Addr)) (fp : List Addr), PTs (X.blk s H scope (compEnvC scope cl C X.env) fp) ifs tt)
    (hk : ∀ (s : Shared) (H : Hp) (C : Addr) (cl : List (Str × Addr)) (fp : List Addr), PE (X.blk s H scope (compEnvC scope cl C X.env) fp) kx tk)
    (he : ∀ (s : Shared) (H : Hp) (C : Addr) (cl : List (Str × Addr)) (fp : List Addr), PE (X.blk s H scope (compEnvC scope cl C X.env) fp) vx tv)
    (hs : ∀ x, foldedSetIterable iter X.env x = pure x) (h : tDcT wi g tt tk tv (own.map (·.2)) σ H Q)
    (hRR : ∀ D C s' m H', Inv X pins σ H' s' → Q (.ref D) H' → s'.heap.Ns C m → FpOk X pins H' C → compPost (model X.prog X.w) X.A X.xe use Qf (.ref D) C (.ok .next) s') :
    wpAny (model X.prog X.w) X.A (comprehension (.DictComp kx vx [⟨tg, iter, ifs, 0⟩] scope pos) scope X.env pos' newDict false (eval iter X.env) use) Qf X.xe s := by
  have cells : ∀ y ∈ scope.names, y.2 = .free → ∃ c, X.env.cells.lookup y.1 = some c := fun y hy e => (ok.free y hy e).elim (fun k => I.ok.has _ (.inl k)) fun k => I.ok.has _ (.inr k)
  refine wpAny_comprehension_free (use := use) rfl hs (closure_ok cells) ok.kind (fun y hy e => by rw [ok.uniq y hy, e]) (thn (hi.run pins s σ H _ I h) fun xv s1 hx => thn hx fun itv s2 h2 => ?_)
  obtain ⟨it, fp, tn, J, H2, rfl, I2, T, st2, f2, q⟩ := h2
  refine wpAny_newObj_type (newEnv_comp ?_)
  generalize eD : s2.heap.objs.size = D
  obtain ⟨W, ⟨m0, w0⟩, turn⟩ := q D (I2.hok.fresh (Nat.le_of_eq eD))
  generalize e3 : ({ s2 with heap := s2.heap.push { cls := .type "dict", data := .dict #[] } } : Shared) = s3
  have up3 : s3.heap = s2.heap.push { cls := .type "dict", data := .dict #[] } := by rw [← e3]
  have I3 : Inv X pins σ (upd H2 D (.dT [])) s3 := by
    rw [← e3, ← eD]
    exact I2.laid (t' := s2.toks) (fun b o e => Heap.get?_push_of_some _ e) (Nat.le_refl _) (dt_empty s2.heap I2.big)
  have grown : ∀ {b o}, s2.heap.get? b = some o → s3.heap.get? b = some o := fun e => by rw [up3]; exact Heap.get?_push_of_some _ e
  have f3 : ∀ b ∈ fp, FpOk X pins (upd H2 D (.dT [])) b ∧ b < s3.heap.objs.size := fun b hb => by
    obtain ⟨o, e, _⟩ := T.obj _ _ st2 b hb
    have lt := Heap.lt_size e
    refine ⟨⟨?_, (f2 b hb).2⟩, by rw [up3, Heap.size_push]; exact Nat.lt_succ_of_lt lt⟩
    rw [upd_ne (by rw [← eD]; exact Nat.ne_of_lt lt)]
    exact (f2 b hb).1
  have I4 := block_start I3 ok hN f3
  have pg := hg s3 (upd H2 D (.dT [])) s3.heap.objs.size (cellsFrom (s3.heap.objs.size + 1) scope.names (cloFrom X.env.cells scope.names [])) fp
  have pt := ht s3 (upd H2 D (.dT [])) s3.heap.objs.size (cellsFrom (s3.heap.objs.size + 1) scope.names (cloFrom X.env.cells scope.names [])) fp
  have pk := hk s3 (upd H2 D (.dT [])) s3.heap.objs.size (cellsFrom (s3.heap.objs.size + 1) scope.names (cloFrom X.env.cells scope.names [])) fp
  have pv := he s3 (upd H2 D (.dT [])) s3.heap.objs.size (cellsFrom (s3.heap.objs.size + 1) scope.names (cloFrom X.env.cells scope.names [])) fp
  show codeAny (model X.prog X.w) X.A (.compStart (.DictComp kx vx [⟨tg, iter, ifs, 0⟩] scope pos) 0 (.ref it) (.ref D) (compEnvC scope (cellsFrom (s3.heap.objs.size + 1) scope.names (cloFrom X.env.cells scope.names [])) s3.heap.objs.size X.env))
    (compPost (model X.prog X.w) X.A X.xe use Qf (.ref D) s3.heap.objs.size) { s3 with heap := pushCells (s3.heap.push { cls := .type "dict", data := .dict #[] }) scope.names }
  generalize ec : compEnvC scope (cellsFrom (s3.heap.objs.size + 1) scope.names (cloFrom X.env.cells scope.names [])) s3.heap.objs.size X.env = ce at I4 pg pt pk pv ⊢
  have cl : ce.locals = s3.heap.objs.size := by rw [← ec]; rfl
  generalize e4 : ({ s3 with heap := pushCells (s3.heap.push { cls := .type "dict", data := .dict #[] }) scope.names } : Shared) = s4 at I4 ⊢
  generalize eH : upd H2 D (.dT []) = H3 at I3 I4 pg pt pk pv w0 f3
  have st4 : tn 0 s4.heap := T.keep _ _ _ st2 fun b _ o e => by
    rw [← e4]
    exact pushCells_keeps _ _ _ _ (Heap.get?_push_of_some _ (grown e))
  have foot : ∀ {σ' : St} {H' : Hp} {s' : Shared}, Inv (X.blk s3 H3 scope ce fp) [] σ' H' s' → (∀ b ∈ fp, H' b = none) → ∀ b ∈ fp, FpOk (X.blk s3 H3 scope ce fp) [] H' b := fun J' hn b hb =>
    ⟨hn b hb, (J'.ok.exf b hb).1, J'.ok.exfs b hb, .inl hb, fun x c e => (J'.ok.exf b hb).2 x c e, fun p hp => absurd (show p ∈ ([] : List (Addr × Obj)) ++ [] from hp) (by simp)⟩
  have loop : codeAny (model X.prog X.w) X.A (.compLoop (.DictComp kx vx [⟨tg, iter, ifs, 0⟩] scope pos) 0 (.ref it) (.ref D) ce)
      (compPost (model X.prog X.w) X.A X.xe use Qf (.ref D) s3.heap.objs.size) s4 := by
    refine compLoop_anyD (fun n s' => ∃ i H', Inv (X.blk s3 H3 scope ce fp) [] (wipe σ (own.map (·.2))) H' s' ∧ tn i s'.heap ∧ (∀ b ∈ fp, H' b = none) ∧ W i n H') ?_ m0 ⟨0, H3, I4, st4, fun b hb => (f3 b hb).1.1, w0⟩
    rintro n s5 ⟨i, H5, I5, st5, n5, w5⟩
    rcases turn i n H5 w5 with ⟨stop, qq⟩ | ⟨go, Nx, hNx, step⟩
    · refine thnF (T.done (X.blk s3 H3 scope ce fp) rfl rfl rfl hc i [] s5 _ H5 (fun _ _ => False) I5 (foot I5 n5) st5 stop) fun r s6 z => ?_
      obtain ⟨rfl, I6⟩ := z
      have I7 : Inv X pins σ H5 s6 := I3.call' (ch := fp) I6.os I6.base I6.hok I6.bare fun b hb => ⟨(f3 b hb).1.2.2.2.1, (f3 b hb).1.2.1, (f3 b hb).1.2.2.2.2.1, (f3 b hb).1.2.2.2.2.2⟩
      obtain ⟨m, hn, _⟩ := I6.loc
      have free : H5 s3.heap.objs.size = none := cl ▸ (show H5 ce.locals = none from I6.free)
      exact hRR D s3.heap.objs.size s6 m H5 I7 qq (cl ▸ (show s6.heap.Ns ce.locals m from hn)) (I3.fpOk (Nat.le_refl _) free)
    · refine thnF (T.item (X.blk s3 H3 scope ce fp) rfl rfl rfl hc i [] s5 _ H5 (fun _ _ => False) I5 (foot I5 n5) st5 go) fun r s6 z => ?_
      obtain ⟨u, rfl, h6⟩ := z
      refine thnF h6 fun _ s7 z7 => ?_
      obtain ⟨x, H7, I7, r7, y7, st7, n7⟩ := z7
      refine thnF (pg.run _ s7 _ H7 x u _ (I7.pinned (foot I7 n7) (T.obj _ _ st7)) r7 (step x H7 y7)) fun _ s8 z8 => ?_
      obtain ⟨σ8, H8, I8, hw8, q8⟩ := z8
      refine thnF (pt.run _ s8 σ8 H8 _ I8 q8) fun b s9 z9 => ?_
      obtain ⟨H9, I9, q9⟩ := z9
      have close : ∀ {s' : Shared} {H' : Hp}, Inv (X.blk s3 H3 scope ce fp) ([] ++ pinsAt fp s7.heap) σ8 H' s' → Nx H' → ∃ m, m < n ∧ ∃ i H', Inv (X.blk s3 H3 scope ce fp) [] (wipe σ (own.map (·.2))) H' s' ∧ tn i s'.heap ∧ (∀ b ∈ fp, H' b = none) ∧ W i m H' := fun {s' H'} I' nx => by
        obtain ⟨m', lt, w'⟩ := hNx H' nx
        have pin : ∀ b ∈ fp, ∀ o, s7.heap.get? b = some o → s'.heap.get? b = some o ∧ H' b = none := fun b hb o e =>
          let z := I'.pin (b, o) (List.mem_append_right _ (List.mem_append_right _ (mem_pinsAt hb e)))
          ⟨z.1, z.2.1⟩
        refine ⟨m', lt, i + 1, H', (I'.unpinned (pins := [])).weak (by rw [← hw8, wipe_length]) (fun j v e => ?_), T.keep _ _ _ st7 fun b hb o e => (pin b hb o e).1, fun b hb => ?_, w'⟩
        · exact (wipe_some (hw8.symm ▸ e)).1
        · obtain ⟨o, e, _⟩ := T.obj _ _ st7 b hb
          exact (pin b hb o e).2
      cases b with
      | false => exact close I9 q9
      | true =>
        refine thnF (pk.run _ s9 σ8 H9 _ I9 q9) fun z s10 z10 => ?_
        obtain ⟨yk, H10, I10, r10, q10⟩ := z10
        refine thnF (pv.run _ s10 σ8 H10 _ I10 q10) fun z2 s11 z11 => ?_
        obtain ⟨yv, H11, I11, r11, kvs, k, c, rfl, hcK, hD, hz, nx⟩ := z11
        exact dT_set (X := X.blk s3 H3 scope ce fp) hu I11 hD hcK hz r10 r11 fun s12 I12 => close I12 nx
  exact codeAny_compStart_dict loop (T.self X.A 0 _ _ _ st4 loop)

theorem pe_dcT {kx vx tg iter : Expr} {ifs : List Expr} {scope : Scope} {own : List (Str × Nat)} {pos : Pos} {wi : TI} {g : TG} {tt : TT} {tk tv : TE} (hu : X.A.units + 1 < cLine) (hc : X.calm = true) (hN : X.N.Nodup) (hi : PI X tg iter wi) (ok : BlkOk X.N X.env.scope scope own)
    (hg : ∀ (s : Shared) (H : Hp) (C : Addr) (cl : List (Str × Addr)) (fp : List Addr), PG (X.blk s H scope (compEnvC scope cl C X.env) fp) tg g)
    (ht : ∀ (s : Shared) (H : Hp) (C : Addr) (cl : List (Str × Addr)) (fp : List Addr), PTs (X.blk s H scope (compEnvC scope cl C X.env) fp) ifs tt)
    (hk : ∀ (s : Shared) (H : Hp) (C : Addr) (cl : List (Str × Addr)) (fp : List Addr), PE (X.blk s H scope (compEnvC scope cl C X.env) fp) kx tk)
    (he : ∀ (s : Shared) (H : Hp) (C : Addr) (cl : List (Str × Addr)) (fp : List Addr), PE (X.blk s H scope (compEnvC scope cl C X.env) fp) vx tv)
    (hs : ∀ x, foldedSetIterable iter X.env x = pure x := by intro _; rfl) : PE X (.DictComp kx vx [⟨tg, iter, ifs, 0⟩] scope pos) (tDcT wi g tt tk tv (own.map (·.2))) := by
  refine ⟨fun pins s σ H Q I h => ?_⟩
  rw [arm_eval_DictComp]
  refine dcT_core I hu hc hN hi ok hg ht hk he hs h fun D C s' m H' I' q hn f => ⟨m, hn, fun h'' sb => ?_⟩
  obtain ⟨g0, g1, _, g3, g4, g5⟩ := f
  exact ⟨.ref D, H', I'.turned (t' := s'.toks) (fun b o hb e => (sb.2 b hb).trans e) g0 g1 g3 g4 g5, rfl, q⟩
theorem swD_true {scope : Scope} {pos py : Pos} {kx vx : Expr} {gs : List Comprehension} {y : Str} {l : Nat} {env : Env} (hk : env.scope.kind = .function) (hy : env.scope.names.lookup y = some .local) (hl : (py.line == pos.line) = true)
    (ha : (scope.names.any fun (n, k) => n == y && (k == .local || k == .cell)) = false) : swapsWith (.DictComp kx vx gs scope pos) (some (.Name y py)) l env = pure true := by
  have b1 : env.kindOf y = some .local := hy
  have b2 : env.blockKind = .function := by
    unfold Env.blockKind
    rw [hk]
    rfl
  unfold swapsWith
  simp only [b1, b2, ha, Expr.pos, hl]
  rfl
/-- name = {..} on one line -/
theorem ps_setDcT {kx vx tg iter : Expr} {ifs : List Expr} {scope : Scope} {own : List (Str × Nat)} {pos : Pos} {wi : TI} {g : TG} {tt : TT} {tk tv : TE} {i : Nat} {y : Str} {py spos : Pos} (hu : X.A.units + 1 < cLine) (hc : X.calm = true) (hN : X.N.Nodup) (hy : X.N[i]? = some y) (hyl : X.env.scope.names.lookup y = some .local) (hsw : swapsWith (.DictComp kx vx [⟨tg, iter, ifs, 0⟩] scope pos) (some (.Name y py)) spos.line X.env = pure true)
    (hi : PI X tg iter wi) (ok : BlkOk X.N X.env.scope scope own)
    (hg : ∀ (s : Shared) (H : Hp) (C : Addr) (cl : List (Str × Addr)) (fp : List Addr), PG (X.blk s H scope (compEnvC scope cl C X.env) fp) tg g)
    (ht : ∀ (s : Shared) (H : Hp) (C : Addr) (cl : List (Str × Addr)) (fp : List Addr), PTs (X.blk s H scope (compEnvC scope cl C X.env) fp) ifs tt)
    (hk : ∀ (s : Shared) (H : Hp) (C : Addr) (cl : List (Str × Addr)) (fp : List Addr), PE (X.blk s H scope (compEnvC scope cl C X.env) fp) kx tk)
    (he : ∀ (s : Shared) (H : Hp) (C : Addr) (cl : List (Str × Addr)) (fp : List Addr), PE (X.blk s H scope (compEnvC scope cl C X.env) fp) vx tv) (hs : ∀ x, foldedSetIterable iter X.env x = pure x := by intro _; rfl) : PS X (.Assign [.Name y py] (.DictComp kx vx [⟨tg, iter, ifs, 0⟩] scope pos) spos) (tAsg (tDcT wi g tt tk tv (own.map (·.2))) (gName i)) := by
  refine ⟨fun pins s σ H D I h => ?_⟩
  rw [exec_Assign_Name_used _ _ _ _ hsw]
  refine wpAny_bind (wpAny_standAt (wpAny_bind ?_))
  show wpAny _ X.A (do let _ ← comprehension (.DictComp kx vx [⟨tg, iter, ifs, 0⟩] scope pos) scope X.env (firstIterPos [⟨tg, iter, ifs, 0⟩] pos) newDict false (eval iter X.env) (some (assign (.Name y py) X.env))) _ _ s
  have z : tDcT wi g tt tk tv (own.map (·.2)) σ H (fun x H1 => gName i x σ H1 D.nx) := h
  refine wpAny_bind (thn (dcT_core (Qf := fun _ s' => SP X pins D .next s') I hu hc hN hi ok hg ht hk he hs z fun L C s' m H' I' q hn f => ?_) fun _ s' hq => wpAny_pure (wpAny_pure hq))
  obtain ⟨g0, g1, _, g3, g4, g5⟩ := f
  show wpAny _ _ (assign (.Name y py) X.env (.ref L)) _ _ _
  refine wpAny_assign_Name (store_ok2 (v := V.ref L) I' hN hy (.inl hyl) rfl (fun s2 I2 st => ?_) (.inr hyl))
  obtain ⟨a, sb, ha⟩ := st
  have apart : C ≠ a := ha.elim (fun z => z ▸ g1) fun z e => g4 y a z e.symm
  exact ⟨m, hn.sameBut sb apart, fun h3 sb3 => ⟨_, H', I2.turned (t' := s2.toks) (fun b o hb e => (sb3.2 b hb).trans e) g0 g1 g3 g4 g5, q⟩⟩
end
end L2

set_option Elab.async false
set_option linter.all false
set_option maxRecDepth 100000
set_option maxHeartbeats 4000000
/-! Dicts with tuple keys: d.clear(), list(d.values()), dict(list of pairs). -/
namespace L2
open PySem PySem.Spec PyProof.Rows
theorem vals_at : ∀ {xs : List V} {us : List Value}, xs.length = us.length → (∀ (j : Nat) x u, xs[j]? = some x → us[j]? = some u → RelV x u) → Vals xs us
  | [], [], _, _ => .nil
  | [], _ :: _, h, _ => by cases h
  | _ :: _, [], h, _ => by cases h
  | x :: xs, u :: us, h, r => .cons (r 0 x u rfl rfl) (vals_at (Nat.succ.inj h) fun j a b h1 h2 => r (j + 1) a b h1 h2)
section
variable {X : Cx}
/-- the entries of a dict with tuple keys -/
theorem Inv.rawT {pins : List (Addr × Obj)} {σ : St} {H : Hp} {s : Shared} {d : Addr} {kvs : List (List Key × V)} (I : Inv X pins σ H s) (h : H d = some (.dT kvs)) :
    (d == sysModules) = false ∧ ∃ (es : Array DictEntry) (ep : Nat), s.heap.DictRaw d es ep ∧ es.size = kvs.length ∧ kvs.length ≤ sizeLine ∧
      ∀ (i : Nat) (k : List Key) (v : V), kvs[i]? = some (k, v) → ∃ (hi : i < es.size) (q : Addr), es[i].key = .ref q ∧ H q = some (.tup (k.map kV)) ∧ RelV v es[i].val := by
  obtain ⟨z, low, xs, pr, o, es, ep, ho, hx, hdt, he, _⟩ := (show ObjOk X.prog X.w H s.heap d (.dT kvs) from I.hok d _ h)
  have l1 : es.size = xs.length := size_of_entries he
  have l2 : kvs.length = xs.length := Paired.length pr
  refine ⟨low, es, ep, ⟨o, ho, hx, hdt⟩, by omega, z, fun i k v e => ?_⟩
  obtain ⟨b, hb, _, e2, e3⟩ := paired_get pr e
  have hi : i < es.size := by
    have := (List.getElem?_eq_some_iff.mp e).1
    omega
  have q := entry_at he i
  rw [hb, Array.getElem?_eq_getElem hi, Option.map_some] at q
  have q2 := Option.some.inj q
  exact ⟨hi, b.2.1, by rw [q2]; rfl, e2, by rw [q2]; exact e3⟩
def rClearT : V → List V → Hp → VK → Prop := fun x xs H Q => ∃ (a : Addr) (kvs : List (List Key × V)), x = .ref a ∧ xs = [] ∧ H a = some (.dT kvs) ∧ Q .non (upd H a (.dT []))
theorem mt_clearT : MtR X "dict.clear" rClearT := by
  intro pins s σ H x xs v us Q I rx rxs h
  obtain ⟨a, kvs, rfl, rfl, ha, q⟩ := h
  cases rx
  cases rxs
  obtain ⟨low, es, ep, hr, hsz, z, _⟩ := I.rawT ha
  refine call_meetsIn PySem.F.slot_dict_clear hr.typeIs PySem.F.entry_dict_clear (PySem.F.args_dict_clear_1 _) (meets_dict_clear_raw a) ⟨es, ep, hr, by omega, fun h' hr' hs' => ?_⟩
  obtain ⟨o, ho, hc, hdat⟩ := hr'
  exact ⟨.non, _, d_write (t' := s.toks) (ob := .dT []) I (by rw [ha]; exact True.intro) hs' ⟨o, ho⟩ (show ObjOk X.prog X.w _ _ _ (.dT []) from ⟨Nat.zero_le _, low, [], .nil, o, #[], ep + 1, ho, hc, hdat, rfl, List.nodup_nil⟩), rfl, q⟩
/-- the view d.values() at p -/
def valsO (p d : Addr) : HO := .ext fun h => h.IsValuesView p d
def rValuesT : V → List V → Hp → VK → Prop := fun x xs H Q => ∃ (a : Addr) (kvs : List (List Key × V)), x = .ref a ∧ xs = [] ∧ H a = some (.dT kvs) ∧ ∀ p, H p = none → Q (.ref p) (upd H p (valsO p a))
theorem mt_valuesT : MtR X "dict.values" rValuesT := by
  intro pins s σ H x xs v us Q I rx rxs h
  obtain ⟨a, kvs, rfl, rfl, ha, q⟩ := h
  cases rx
  cases rxs
  obtain ⟨low, es, ep, hr, hsz, z, _⟩ := I.rawT ha
  refine call_meetsIn PySem.F.slot_dict_values hr.typeIs PySem.F.entry_dict_values (PySem.F.args_dict_values_1 _) (meets_dict_values_raw a low) ⟨⟨es, ep, hr⟩, ?_⟩
  have e : (s.heap.push { cls := .type "dict_values", data := .fields #[.ref a] }).get? s.heap.objs.size = some { cls := .type "dict_values", data := .fields #[.ref a] } := Heap.get?_push_size _ rfl
  refine ⟨.ref s.heap.objs.size, upd H s.heap.objs.size (valsO s.heap.objs.size a), I.laid (t' := s.toks) (fun b u e => Heap.get?_push_of_some _ e) (Nat.le_refl _) ?_, rfl, q _ (I.hok.fresh (Nat.le_refl _))⟩
  exact ⟨⟨_, e, rfl, rfl⟩, ⟨_, e⟩, fun h1 h2 x k => let ⟨o, ho, r⟩ := x; ⟨o, k o ho, r⟩⟩
/-- list(d.values()) -/
theorem call_list_vals (hc : X.calm = true) : CallR X (.type "list") (fun xs H Q => ∃ p d kvs, xs = [V.ref p] ∧ H p = some (valsO p d) ∧ H d = some (.dT kvs) ∧ ∀ l, H l = none → Q (.ref l) (upd H l (.lst (kvs.map (·.2))))) := by
  intro pins s σ H xs us Q I r h
  obtain ⟨p, d, kvs, rfl, hp, hd, q⟩ := h
  obtain ⟨u, rfl, rx⟩ := r.one
  cases rx
  obtain ⟨low, es, ep, hr, hsz, z, ent⟩ := I.rawT hd
  have hv : s.heap.IsValuesView p d := (show ObjOk X.prog X.w H s.heap p (valsO p d) from I.hok p _ hp).1
  refine PySem.W.kdl_call (KdlSrc.rawValues (r := p) (d := d) (es := es) (ep := ep)) (I.ok.hd hc) ⟨hv, hr⟩ (by omega) fun h' tk acc' c' kp e it => ?_
  have len : acc'.toList.length = kvs.length := by rw [Array.length_toList, it.1, hsz]
  have rv : Vals (kvs.map (·.2)) acc'.toList := vals_at (by rw [List.length_map, len]) fun j x u hx hu => by
    rw [List.getElem?_map] at hx
    cases hj : kvs[j]? with
    | none =>
      rw [hj] at hx
      cases hx
    | some kv =>
      rw [hj] at hx
      obtain rfl := Option.some.inj hx
      obtain ⟨hi, q, _, _, r2⟩ := ent j kv.1 kv.2 hj
      obtain ⟨hi2, e2⟩ := it.2 j u (by rw [← Array.getElem?_toList]; exact hu)
      rw [e2]
      exact r2
  refine ⟨.ref s.heap.objs.size, _, I.laid (t' := tk) (o := .lst (kvs.map (·.2))) kp (Nat.le_refl _) ?_, rfl, q _ (I.hok.fresh (Nat.le_refl _))⟩
  exact ⟨by rw [List.length_map]; exact z, acc'.toList, c', rv, by rw [Array.toArray_toList]; exact e⟩
end
end L2

set_option Elab.async false
set_option linter.all false
set_option maxRecDepth 100000
set_option maxHeartbeats 4000000
/-! dict(list of pairs), the first of each a tuple, all unlike. -/
namespace L2
open PySem PySem.Spec PyProof.Rows
/-- the pairs of a list that makes a dict with tuple keys: p a tuple of the key's tuple and the value -/
def IsPairT (H : Hp) (p : Addr) (kv : List Key × V) : Prop := ∃ q, H p = some (.tup [.ref q, kv.2]) ∧ H q = some (.tup (kv.1.map kV))
section
variable {X : Cx}
theorem pairsT_of {pins : List (Addr × Obj)} {σ : St} {H : Hp} {s : Shared} (I : Inv X pins σ H s) : ∀ {ps : List Addr} {kvs : List (List Key × V)}, Paired (IsPairT H) ps kvs →
    ∃ xs : List (List Key × Addr × Value), KT H kvs xs ∧ xs.length = ps.length ∧ ∀ (j : Nat) (x : List Key × Addr × Value), xs[j]? = some x → ∃ b, ps[j]? = some b ∧ s.heap.IsTuple b #[.ref x.2.1, x.2.2] ∧ H x.2.1 = some (.tup (x.1.map kV))
  | _, _, .nil => ⟨[], .nil, rfl, fun j x e => by simp at e⟩
  | _, _, .cons (a := p) (b := kv) h t => by
    obtain ⟨xs, r, hl, hp⟩ := pairsT_of I t
    obtain ⟨q, h1, h2⟩ := h
    obtain ⟨_, its, rv, ht⟩ := (show ObjOk X.prog X.w H s.heap p (.tup [.ref q, kv.2]) from I.hok p _ h1)
    obtain ⟨u, y, rfl, ru, ry⟩ := vals2 rv
    cases ru
    refine ⟨(kv.1, q, y) :: xs, .cons ⟨rfl, h2, ry⟩ r, by rw [List.length_cons, List.length_cons, hl], fun j x e => ?_⟩
    cases j with
    | zero =>
      obtain rfl := Option.some.inj e
      exact ⟨p, rfl, by obtain ⟨o, a, b, n, c⟩ := ht; exact ⟨o, a, b, n, c⟩, h2⟩
    | succ j => exact hp j x e
theorem call_dictT (hc : X.calm = true) (hu : X.A.units + 2 < cLine) : CallR X (.type "dict") (fun xs H Q => ∃ (a : Addr) (ps : List Addr) (kvs : List (List Key × V)), xs = [.ref a] ∧ H a = some (.lst (ps.map V.ref)) ∧ Paired (IsPairT H) ps kvs ∧ (kvs.map (·.1)).Nodup ∧
    ∀ p, H p = none → Q (.ref p) (upd H p (.dT kvs))) := by
  intro pins s σ H xs us Q I r h
  obtain ⟨a, ps, kvs, rfl, ha, hp, nd, q⟩ := h
  obtain ⟨u, rfl, rx⟩ := r.one
  cases rx
  obtain ⟨z, its, n, rv, ho⟩ := (show ObjOk X.prog X.w H s.heap a (.lst (ps.map V.ref)) from I.hok a _ ha)
  obtain rfl := refs_at rv
  rw [List.length_map] at z
  obtain ⟨ys, rel, hl, at_⟩ := pairsT_of I hp
  have lk : kvs.length = ys.length := Paired.length rel
  have keys : ys.map (·.1) = kvs.map (·.1) := by
    clear at_ hl lk nd q hp
    induction rel with
    | nil => rfl
    | cons h t ih => rw [List.map_cons, List.map_cons, ih, h.1]
  have ndy : (ys.map (·.1)).Nodup := keys ▸ nd
  let Ts : Nat → Addr := fun j => (ps[j]?).getD 0
  let prs : List (Value × Value) := ys.map fun x => (Value.ref x.2.1, x.2.2)
  have lp : prs.length = ys.length := List.length_map ..
  have items : PairItems s.heap (ps.map Value.ref).toArray Ts prs := by
    refine ⟨by rw [List.size_toArray, List.length_map, lp, hl], fun j k v e => ?_⟩
    rw [List.getElem?_map] at e
    cases hj : ys[j]? with
    | none =>
      rw [hj] at e
      cases e
    | some x =>
      rw [hj] at e
      cases e
      obtain ⟨b, hb, ht, _⟩ := at_ j x hj
      have eT : Ts j = b := by show (ps[j]?).getD 0 = b; rw [hb]; rfl
      rw [eT]
      exact ⟨by rw [List.getElem?_toArray, List.getElem?_map, hb]; rfl, .inl ht⟩
  have stay : ∀ h', (∀ b o, b ≠ s.heap.objs.size → b ∉ ([] : List Addr) → s.heap.get? b = some o → h'.get? b = some o) → ∀ x ∈ ys, (tupleKind (mixKind X.prog X.w)).is h' x.1 x.2.1 := fun h' hk x hx => by
    obtain ⟨j, hj⟩ := List.mem_iff_getElem?.mp hx
    obtain ⟨b, _, _, hq⟩ := at_ j x hj
    obtain ⟨o, arr, m, k1, k2, k3, k4⟩ := key_of I.hok hq
    exact ⟨o, arr, m, hk _ _ (Nat.ne_of_lt (Heap.lt_size k1)) (by simp) k1, k2, k3, k4⟩
  refine call_dict_pairsH (knd := tupleKind (mixKind X.prog X.w)) (ps := ys) (PairArg.list a (ps.map Value.ref).toArray Ts prs) (I.ok.hd hc) (by show X.A.units + 1 + 1 < cLine; exact hu) ⟨⟨_, n, ho, rfl, rfl, rfl⟩, items⟩ ⟨lp.symm, fun i key v e => ?_⟩ stay (by omega) fun h' tk hd' hk => ?_
  · have e2 : (ys.map fun x => (Value.ref x.2.1, x.2.2))[i]? = some (key, v) := e
    rw [List.getElem?_map] at e2
    cases hj : ys[i]? with
    | none =>
      rw [hj] at e2
      cases e2
    | some x =>
      rw [hj] at e2
      cases e2
      exact ⟨x.1, x.2.1, rfl, rfl⟩
  · rw [storedAllH_nil_of_nodup ys ndy] at hd'
    have low : (s.heap.objs.size == sysModules) = false := beq_eq_false_iff_ne.mpr (Nat.ne_of_gt I.big)
    obtain ⟨o, es, ep, g1, g2, g3, g4, _, g5⟩ := hd'
    have new : ∀ c zs, H c = some (.tup zs) → upd H s.heap.objs.size (.dT kvs) c = some (.tup zs) := fun c zs e => (upd_ne (Nat.ne_of_lt (I.hok.lt e))).trans e
    refine ⟨.ref s.heap.objs.size, upd H s.heap.objs.size (.dT kvs), I.laid (t' := tk) (fun b o e => hk b o (by simp) e) (Nat.le_refl _) (show ObjOk X.prog X.w _ _ _ (.dT kvs) from ⟨by omega, low, ys, rel.keeps new, o, es, ep, g1, g2, g3, g4, g5⟩), rfl, q _ (I.hok.fresh (Nat.le_refl _))⟩
end
end L2

set_option Elab.async false
set_option linter.all false
set_option maxRecDepth 100000
set_option maxHeartbeats 4000000
/-! == and != of two dicts with tuple keys, their values None and integers. -/
namespace L2
open PySem PySem.Spec PyProof.Rows
/-- None, or an integer -/
def isMk : V → Bool
  | .non => true
  | .int _ => true
  | _ => false
theorem eqAt_mk {A : Around} {s : Shared} {v w : V} {u u' : Value} (hv : isMk v = true) (hw : isMk w = true) (r : RelV v u) (r' : RelV w u') : SeqAt.EqAt A s u u' (decide (v = w)) := by
  cases v with
  | non =>
    cases (show u = Value.none from r)
    cases w with
    | non =>
      cases (show u' = Value.none from r')
      exact SeqAt.EqAt.same _
    | int j =>
      obtain ⟨t, rfl⟩ := (show ∃ t, u' = Value.int j t from r')
      exact SeqAt.EqAt.none_int j t
    | _ => cases hw
  | int i =>
    obtain ⟨t, rfl⟩ := (show ∃ t, u = Value.int i t from r)
    cases w with
    | non =>
      cases (show u' = Value.none from r')
      exact SeqAt.EqAt.int_none i t
    | int j =>
      obtain ⟨t', rfl⟩ := (show ∃ t, u' = Value.int j t from r')
      have e : decide (V.int i = V.int j) = (i == j) := by
        by_cases h : i = j
        · subst h
          simp
        · rw [decide_eq_false (fun z => h (V.int.inj z))]
          simp [h]
      rw [e]
      exact SeqAt.EqAt.int_int i t j t'
    | _ => cases hw
  | _ => cases hv
theorem valV_mem {κ : Type} [DecidableEq κ] {kvs : List (κ × V)} {k : κ} {v : V} (h : valV kvs k = some v) : ∃ q ∈ kvs, q.2 = v := by
  unfold valV at h
  obtain ⟨q, hq, e⟩ := Option.map_eq_some_iff.mp h
  exact ⟨q, List.mem_of_find?_eq_some hq, e⟩
/-- the entries of ka are those of kb -/
def sameB (ka kb : List (List Key × V)) : Bool := decide (ka.length = kb.length) && ka.all fun p => decide (valV kb p.1 = some p.2)
section
variable {X : Cx} {pins : List (Addr × Obj)} {σ : St} {H : Hp} {s : Shared} {E : Value → Shared → Prop} {a b : Addr} {ka kb : List (List Key × V)}
theorem samePairsT {A : Around} {nm : String} {Q : Bool → Shared → Prop} (hu : A.units + 1 < cLine) (I : Inv X pins σ H s) (ha : H a = some (.dT ka)) (hb : H b = some (.dT kb)) (ma : ∀ p ∈ ka, isMk p.2 = true) (mb : ∀ p ∈ kb, isMk p.2 = true) (h : Q (sameB ka kb) s) :
    wpAny (model X.prog X.w) A (Builtin.Dict.samePairs nm a b) Q E s := by
  obtain ⟨za, lowa, xa, ra, oa, es, ep, hoa, _, hda, hea, hia, _⟩ := dt_of I.hok ha
  obtain ⟨zb, lowb, xb, rb, ob, es', ep', hob, _, hdb, heb, hib, hnb⟩ := dt_of I.hok hb
  have la : es.size = ka.length := (size_of_entries hea).trans (Paired.length ra).symm
  have lb : es'.size = kb.length := (size_of_entries heb).trans (Paired.length rb).symm
  have room : (tupleKind (mixKind X.prog X.w)).room A := by
    show A.units < cLine
    omega
  unfold Builtin.Dict.samePairs Builtin.Dict.showsAll
  rw [if_neg (by rw [lowa]; exact Bool.false_ne_true), if_neg (by rw [lowb]; exact Bool.false_ne_true)]
  refine wpAny_bind (wpAny_pure (wpAny_bind (wpAny_pure (wpAny_bind (wpAny_dictEntries hoa hda ?_)))))
  dsimp only
  refine wpAny_bind (wpAny_dictEntries hob hdb ?_)
  by_cases hsz : es.size = es'.size
  case neg =>
    have e : sameB ka kb = false := by
      unfold sameB
      rw [decide_eq_false (by omega), Bool.false_and]
    rw [e] at h
    rw [if_pos (by simpa using hsz)]
    exact wpAny_bind (wpAny_rule (wpAny_pure h))
  have e0 : sameB ka kb = ka.all fun p => decide (valV kb p.1 = some p.2) := by
    unfold sameB
    rw [decide_eq_true (by omega), Bool.true_and]
  rw [e0] at h
  rw [if_neg (by rw [hsz]; simp)]
  refine wpAny_bind (wpAny_dictEpoch hoa hda (wpAny_bind ?_))
  rw [Std.Legacy.Range.forIn_eq_forIn_range']
  simp only [Std.Legacy.Range.size, Nat.sub_zero, Nat.add_sub_cancel, Nat.div_one]
  refine wpAny_forIn_list _
    (fun rest q s' => s' = s ∧ q = (none, ()) ∧ ∃ i, rest = List.range' i (es.size - i) ∧ i ≤ es.size ∧ (ka.all fun p => decide (valV kb p.1 = some p.2)) = (ka.drop i).all fun p => decide (valV kb p.1 = some p.2))
    _ ?_ ?_ _ _ ⟨rfl, rfl, 0, by simp, Nat.zero_le _, rfl⟩
  · rintro x rest q s' ⟨rfl, rfl, i, hr, hi, pre⟩
    have hlt : i < es.size := Nat.lt_of_not_le fun z => by
      rw [Nat.sub_eq_zero_of_le z] at hr
      simp at hr
    obtain ⟨rfl, hrest⟩ : x = i ∧ rest = List.range' (i + 1) (es.size - (i + 1)) := by
      rw [show es.size - i = (es.size - (i + 1)) + 1 by omega, List.range'_succ] at hr
      injection hr with h1 h2
      exact ⟨h1, h2⟩
    refine wpAny_bind (wpAny_dictEntries hoa hda ?_)
    have hk : x < ka.length := by omega
    obtain ⟨y, hy, y1, y2, y3⟩ := paired_get ra (List.getElem?_eq_getElem hk)
    have en := entry_at hea x
    rw [hy] at en
    rw [en, Option.map_some]
    have drop : ka.drop x = ka[x] :: ka.drop (x + 1) := List.drop_eq_getElem_cons hk
    rw [drop, List.all_cons] at pre
    have mk1 : isMk ka[x].2 = true := ma _ (List.getElem_mem hk)
    have key : (tupleKind (mixKind X.prog X.w)).is s'.heap y.1 y.2.1 := hia _ (List.mem_of_getElem? hy)
    generalize ka[x] = p at y1 y2 y3 pre mk1
    refine wpAny_bind (wpAny_holding (wpAny_bind ?_))
    refine PySem.wpAny_dictFind_heap room key hob hdb heb hib hnb (fun none_ => ?_) fun j z hj => ?_
    · have miss : valV kb p.1 = none := by
        rw [y1]
        have this := rb.val y.1
        rw [atKey_none_of_get none_, Option.map_none] at this
        cases hv : valV kb y.1 with
        | none => rfl
        | some v =>
          rw [hv] at this
          cases this
      rw [miss, decide_eq_false (by simp), Bool.false_and] at pre
      rw [pre] at h
      refine wpAny_pure ?_
      show wpAny _ _ (if (!false) = true then _ else _) _ _ _
      rw [if_pos (by decide)]
      exact wpAny_pure (wpAny_pure h)
    · have enb := entry_at heb j
      rw [hj] at enb
      refine wpAny_bind (wpAny_dictEntries hob hdb ?_)
      rw [enb, Option.map_some]
      obtain ⟨v2, hv2, rv2, mk2⟩ : ∃ v2, valV kb p.1 = some v2 ∧ RelV v2 z.2 ∧ isMk v2 = true := by
        rw [y1]
        have hat : atKey xb y.1 = some z := atKey_of_get hnb hj
        have := rb.val y.1
        rw [hat, Option.map_some] at this
        cases hv : valV kb y.1 with
        | none =>
          rw [hv] at this
          cases this
        | some v2 =>
          rw [hv] at this
          refine ⟨v2, rfl, this, ?_⟩
          obtain ⟨q, hq, e⟩ := valV_mem hv
          rw [← e]
          exact mb q hq
      refine wpAny_holding (eqAt_mk mk1 mk2 y3 rv2 X.prog X.w _ _ ?_)
      rw [hv2] at pre
      have ed : decide (some v2 = some p.2) = decide (p.2 = v2) := by
        by_cases e : p.2 = v2
        · rw [e]
          simp
        · rw [decide_eq_false e, decide_eq_false (fun z => e (Option.some.inj z).symm)]
      rw [ed] at pre
      cases hd : decide (p.2 = v2) with
      | false =>
        rw [hd, Bool.false_and] at pre
        rw [pre] at h
        show wpAny _ _ (if (!false) = true then _ else _) _ _ _
        rw [if_pos (by decide)]
        exact wpAny_pure (wpAny_pure h)
      | true =>
        rw [hd, Bool.true_and] at pre
        show wpAny _ _ (if (!true) = true then _ else _) _ _ _
        rw [if_neg (by decide)]
        refine wpAny_bind (wpAny_dictEpoch hoa hda ?_)
        rw [if_neg (by simp)]
        exact wpAny_pure ⟨rfl, rfl, x + 1, hrest, hlt, pre⟩
  · rintro q s' ⟨rfl, rfl, i, hr, hi, pre⟩
    have all : es.size ≤ i := Nat.le_of_not_lt fun z => by
      rw [show es.size - i = (es.size - (i + 1)) + 1 by omega, List.range'_succ] at hr
      cases hr
    rw [List.drop_of_length_le (by omega), List.all_nil] at pre
    rw [pre] at h
    exact wpAny_pure h
end
end L2

set_option Elab.async false
set_option linter.all false
set_option maxRecDepth 100000
set_option maxHeartbeats 4000000
namespace L2
open PySem PySem.Spec PyProof.Rows
def rEqT (neg : Bool) : R2 := fun x y H Q => ∃ a b ka kb, x = .ref a ∧ y = .ref b ∧ H a = some (.dT ka) ∧ H b = some (.dT kb) ∧ (∀ p ∈ ka, isMk p.2 = true) ∧ (∀ p ∈ kb, isMk p.2 = true) ∧ Q (.bl (neg ^^ sameB ka kb)) H
section
variable {X : Cx}
theorem op_eqT (hu : X.A.units + 2 < cLine) : OpR X (compareOp .Eq) (rEqT false) := by
  intro pins s σ H x y v u Q I rx ry h
  obtain ⟨a, b, ka, kb, rfl, rfl, ha, hb, ma, mb, q⟩ := h
  cases rx
  cases ry
  obtain ⟨_, _, _, da, _, _, _⟩ := I.rawT ha
  obtain ⟨_, _, _, db, _, _, _⟩ := I.rawT hb
  refine wpAny_richCompare_same_room (op := .Eq) da.typeIs db.typeIs PySem.F.slot_dict_eq (wpAny_call_entry PySem.F.slot_dict_eq da.typeIs PySem.F.entry_dict_eq ?_ (PySem.F.args_dict_eq_2 _ _)) (by omega)
  refine wpAny_bind ?_
  unfold Builtin.Dict.dictSlotArgs
  refine wpAny_bind (wpAny_notOrdered_dict da.typeIs ?_)
  show wpAny _ _ (pure (Value.ref a, Value.ref b)) _ _ s
  refine wpAny_pure (wpAny_bind (wpAny_isInstance (T := "dict") db.typeIs PySem.F.sub_dict_dict ?_))
  simp only [Bool.not_true, Bool.false_eq_true, if_false]
  refine wpAny_bind (wpAny_pure (wpAny_bind (wpAny_pure (wpAny_bind (samePairsT (by show X.A.units + 1 + 1 < cLine; exact hu) I ha hb ma mb (wpAny_pure ⟨_, rfl, by simp, ?_⟩))))))
  rw [Bool.false_xor] at q
  exact ⟨.bl (sameB ka kb), H, I, by show Value.bool (sameB ka kb == true) = _; cases sameB ka kb <;> rfl, q⟩
theorem op_neT (hu : X.A.units + 2 < cLine) : OpR X (compareOp .NotEq) (rEqT true) := by
  intro pins s σ H x y v u Q I rx ry h
  obtain ⟨a, b, ka, kb, rfl, rfl, ha, hb, ma, mb, q⟩ := h
  cases rx
  cases ry
  obtain ⟨_, _, _, da, _, _, _⟩ := I.rawT ha
  obtain ⟨_, _, _, db, _, _, _⟩ := I.rawT hb
  refine wpAny_richCompare_same_room (op := .NotEq) da.typeIs db.typeIs PySem.F.slot_dict_ne (wpAny_call_entry PySem.F.slot_dict_ne da.typeIs PySem.F.entry_dict_ne ?_ (PySem.F.args_dict_ne_2 _ _)) (by omega)
  refine wpAny_bind ?_
  unfold Builtin.Dict.dictSlotArgs
  refine wpAny_bind (wpAny_notOrdered_dict da.typeIs ?_)
  show wpAny _ _ (pure (Value.ref a, Value.ref b)) _ _ s
  refine wpAny_pure (wpAny_bind (wpAny_isInstance (T := "dict") db.typeIs PySem.F.sub_dict_dict ?_))
  simp only [Bool.not_true, Bool.false_eq_true, if_false]
  refine wpAny_bind (wpAny_pure (wpAny_bind (wpAny_pure (wpAny_bind (samePairsT (by show X.A.units + 1 + 1 < cLine; exact hu) I ha hb ma mb (wpAny_pure ⟨_, rfl, by simp, ?_⟩))))))
  rw [Bool.true_xor] at q
  exact ⟨.bl (!sameB ka kb), H, I, by show Value.bool (sameB ka kb == false) = _; cases sameB ka kb <;> rfl, q⟩
end
end L2

set_option Elab.async false
set_option linter.all false
set_option maxRecDepth 100000
set_option maxHeartbeats 4000000
/-! Pages: a crowd, and a dict from its pairs to marks. -/
namespace L2
open PySem PySem.Spec PyProof.Rows
theorem unlock_same {H H' : Hp} {d : Addr} {u : HO} {od : Obj} (hd : H d = some u) (s : Same (upd H d (.frz od u)) H') : Same H (upd H' d u) := fun b o e => by
  by_cases h : b = d
  · subst h
    rw [upd_same, ← hd, e]
  · rw [upd_ne h]
    exact s _ _ (by rw [upd_ne h]; exact e)
theorem kit_dict {T : String} (h : T ∈ knownT) : kitB T "dict" = some (decide (T = "dict")) := by
  simp only [knownT, List.mem_cons, List.not_mem_nil, or_false] at h
  rcases h with rfl | rfl | rfl | rfl | rfl | rfl | rfl <;> decide +kernel
/-- the key of a pair -/
def key2 (p : Str × Str) : List Key := [.inr p.1, .inr p.2]
theorem key2_inj {p q : Str × Str} (h : key2 p = key2 q) : p = q := by
  unfold key2 at h
  injection h with h1 h2
  injection h2 with h2 _
  exact Prod.ext (Sum.inr.inj h1) (Sum.inr.inj h2)
theorem key2_val (p : Str × Str) : (key2 p).map kV = [V.str p.1, V.str p.2] := rfl
/-- the entries of a page, by what it has for each pair -/
def sheetOf (zs : List Str) (f : Str × Str → V) : List (List Key × V) := (pairsOf zs).map fun p => (key2 p, f p)
theorem sheet_keys (zs : List Str) (f : Str × Str → V) : (sheetOf zs f).map (·.1) = (pairsOf zs).map key2 := by
  unfold sheetOf
  rw [List.map_map]
  rfl
theorem pairs_nodup {zs : List Str} (h : zs.Nodup) : (pairsOf zs).Nodup := by
  have key : ∀ l : List Str, l.Nodup → (l.flatMap (rowOf zs)).Nodup := fun l hl => by
    induction l with
    | nil => exact List.nodup_nil
    | cons a l ih =>
      obtain ⟨ha, hl⟩ := List.nodup_cons.mp hl
      rw [List.flatMap_cons, List.nodup_append]
      refine ⟨?_, ih hl, fun x hx y hy e => ?_⟩
      · unfold rowOf
        exact (nodup_map_inj (f := fun b => (a, b)) (fun b c e => (Prod.mk.inj e).2)).mpr (h.filter _)
      · subst e
        unfold rowOf at hx
        obtain ⟨b, _, rfl⟩ := List.mem_map.mp hx
        obtain ⟨c, hc, hx2⟩ := List.mem_flatMap.mp hy
        unfold rowOf at hx2
        obtain ⟨b2, _, e2⟩ := List.mem_map.mp hx2
        exact ha ((Prod.mk.inj e2).1 ▸ hc)
  exact key zs h
theorem sheet_nodup {zs : List Str} (h : zs.Nodup) (f : Str × Str → V) : ((sheetOf zs f).map (·.1)).Nodup := by
  rw [sheet_keys]
  exact (nodup_map_inj (fun _ _ e => key2_inj e)).mpr (pairs_nodup h)
theorem valV_map2 {f : Str × Str → V} {p : Str × Str} : ∀ {l : List (Str × Str)}, p ∈ l → valV (l.map fun p => (key2 p, f p)) (key2 p) = some (f p)
  | a :: l, h => by
    by_cases e : a = p
    · subst e
      exact valV_pos rfl
    · rw [List.map_cons, valV_neg (fun z => e (key2_inj z))]
      rcases List.mem_cons.mp h with e2 | h
      · exact absurd e2.symm e
      · exact valV_map2 h
theorem valV_sheet {zs : List Str} {f : Str × Str → V} {p : Str × Str} (h : p ∈ pairsOf zs) : valV (sheetOf zs f) (key2 p) = some (f p) := valV_map2 h
theorem sheet_len {zs : List Str} {f : Str × Str → V} : (sheetOf zs f).length = (pairsOf zs).length := List.length_map ..
/-- a mark up to m, or None -/
def mkOk (m : Int) (v : V) : Bool := decide (v = .non) || markB 0 m v
theorem mkOk_isMk {m : Int} {v : V} (h : mkOk m v = true) : isMk v = true := by
  cases v with
  | non => rfl
  | int i => rfl
  | _ => cases h
theorem mkOk_ty {K : PySem.W.Frag} {H : Hp} {m : Int} {v : V} (h : mkOk m v = true) : ∃ T, TyN K H v T := by
  cases v with
  | non => exact ⟨"NoneType", .base .non, by decide⟩
  | int i => exact ⟨"int", .base (.int i), by decide⟩
  | _ => cases h
/-- what an instance of Page holds -/
def pageFs (c d : Addr) : List (Str × V) := [("crowd", V.ref c), ("_marks", V.ref d)]
def PageOf (H : Hp) (C CP x : Addr) (zs : List Str) (m : Int) (f : Str × Str → V) : Prop := ∃ dx c d, H x = some (.ins CP dx (pageFs c d)) ∧ CrowdOf H C c zs m ∧ H d = some (.dT (sheetOf zs f))
theorem PageOf.same {H H2 : Hp} {C CP x : Addr} {zs : List Str} {m : Int} {f : Str × Str → V} (s : Same H H2) (h : PageOf H C CP x zs m f) : PageOf H2 C CP x zs m f := by
  obtain ⟨dx, c, d, h1, h2, h3⟩ := h
  exact ⟨dx, c, d, s _ _ h1, h2.same s, s _ _ h3⟩
/-- a page made since H -/
def PageNew (H H2 : Hp) (C CP x : Addr) (zs : List Str) (m : Int) (f : Str × Str → V) : Prop := H x = none ∧ ∃ dx c d, H d = none ∧ H2 x = some (.ins CP dx (pageFs c d)) ∧ CrowdOf H2 C c zs m ∧ H2 d = some (.dT (sheetOf zs f))
theorem PageNew.of {H H2 : Hp} {C CP x : Addr} {zs : List Str} {m : Int} {f : Str × Str → V} (h : PageNew H H2 C CP x zs m f) : PageOf H2 C CP x zs m f := by
  obtain ⟨_, dx, c, d, _, h1, h2, h3⟩ := h
  exact ⟨dx, c, d, h1, h2, h3⟩
/-- the dict at sd is not the page's own -/
def NotOwn (H : Hp) (CP x sd : Addr) : Prop := ∀ dx c d, H x = some (.ins CP dx (pageFs c d)) → d ≠ sd
theorem PageNew.notOwn {H H2 : Hp} {C CP x sd : Addr} {zs : List Str} {m : Int} {f : Str × Str → V} {o : HO} (h : PageNew H H2 C CP x zs m f) (e : H sd = some o) : NotOwn H2 CP x sd := fun dx2 c2 d2 e2 => by
  obtain ⟨_, dx, c, d, n, h1, _⟩ := h
  rw [h1] at e2
  have e3 := Option.some.inj e2
  injection e3 with _ _ e3
  injection e3 with _ e3
  injection e3 with e3 _
  have e4 : d = d2 := V.ref.inj (Prod.mk.inj e3).2
  exact fun z => by
    rw [← e4] at z
    exact ne_of_none e n z.symm
def spIsMark (K : PySem.W.Frag) (C : Addr) : Sp := fun vs H Q _ => ∃ (c : Addr) (v : V) (zs : List Str) (m : Int), vs = [.ref c, v] ∧ CrowdOf H C c zs m ∧ (∃ T, TyN K H v T) ∧ Q (.bl (markB 0 m v)) H
def spIsMarkN (K : PySem.W.Frag) (C : Addr) : Sp := fun vs H Q _ => ∃ (c : Addr) (v : V) (zs : List Str) (m : Int), vs = [.ref c, v] ∧ CrowdOf H C c zs m ∧ (∃ T, TyN K H v T) ∧ Q (.bl (mkOk m v)) H
/-- marks for all pairs of a crowd -/
def MarksAt (H : Hp) (zs : List Str) (m : Int) (d : Addr) (kvs : List (List Key × V)) : Prop := H d = some (.dT kvs) ∧ kvs.length = (pairsOf zs).length ∧ ∀ e ∈ kvs, (∃ p ∈ pairsOf zs, e.1 = key2 p) ∧ mkOk m e.2 = true
def MarksAll (zs : List Str) (kvs : List (List Key × V)) : Prop := ∀ p ∈ pairsOf zs, ∃ v, valV kvs (key2 p) = some v
def spAreMarks (C : Addr) : Sp := fun vs H Q _ => ∃ (c d : Addr) (zs : List Str) (m : Int) (kvs : List (List Key × V)), vs = [.ref c, .ref d] ∧ CrowdOf H C c zs m ∧ zs.length ≤ 8 ∧ MarksAt H zs m d kvs ∧ ∀ H', Same H H' → Q (.bl true) H'
theorem put_take {E : List (List Key × V)} (nd : (E.map (·.1)).Nodup) {i : Nat} {k : List Key} {v : V} (h : E[i]? = some (k, v)) : putK (E.take i) k v = E.take (i + 1) := by
  have hi := (List.getElem?_eq_some_iff.mp h).1
  have none_ : valV (E.take i) k = none := by
    cases hv : valV (E.take i) k with
    | none => rfl
    | some w =>
      have m1 := valV_in hv
      have e : E = E.take i ++ E.drop i := (List.take_append_drop i E).symm
      rw [e, List.map_append, List.nodup_append] at nd
      have m2 : k ∈ (E.drop i).map (·.1) := by
        refine List.mem_map.mpr ⟨(k, v), ?_, rfl⟩
        rw [List.mem_iff_getElem?]
        exact ⟨0, by rw [List.getElem?_drop, Nat.add_zero]; exact h⟩
      exact absurd rfl (nd.2.2 _ m1 _ m2)
  rw [putK_new v none_, List.take_add_one, h]
  rfl
theorem sheet_at {zs : List Str} {f : Str × Str → V} {i : Nat} {p : Str × Str} (h : (pairsOf zs)[i]? = some p) : (sheetOf zs f)[i]? = some (key2 p, f p) := by
  unfold sheetOf
  rw [List.getElem?_map, h]
  rfl
def spNeedCrowd (C : Addr) : Sp := fun vs H Q _ => ∃ (c : Addr) (zs : List Str) (m : Int), vs = [.ref c] ∧ CrowdOf H C c zs m ∧ Q .non H
def spPageInit (C CP : Addr) : Sp := fun vs H Q _ => ∃ (x dx c d : Addr) (zs : List Str) (m : Int) (kvs : List (List Key × V)), vs = [.ref x, .ref c, .ref d] ∧ H x = some (.ins CP dx []) ∧ CrowdOf H C c zs m ∧ zs.length ≤ 8 ∧ zs.Nodup ∧ MarksAt H zs m d kvs ∧ MarksAll zs kvs ∧
  ∀ H' dx' e, But x H H' → H e = none → H' x = some (.ins CP dx' (pageFs c e)) → H' e = some (.dT (sheetOf zs fun p => (valV kvs (key2 p)).getD .non)) → Q .non H'
theorem page_put {c d : Addr} : putF "_marks" (V.ref d) (putF "crowd" (V.ref c) []) = pageFs c d := by
  show (if (("crowd" : Str)) = "_marks" then _ else _) = _
  rw [if_neg (by decide +kernel)]
  rfl
def spPageMarks (C CP : Addr) : Sp := fun vs H Q _ => ∃ (x : Addr) (zs : List Str) (m : Int) (f : Str × Str → V), vs = [.ref x] ∧ PageOf H C CP x zs m f ∧ zs.length ≤ 8 ∧ zs.Nodup ∧ ∀ H' p, Same H H' → H p = none → H' p = some (.dT (sheetOf zs f)) → Q (.ref p) H'
def fullB (zs : List Str) (f : Str × Str → V) : Bool := (pairsOf zs).all fun p => !decide (f p = .non)
def spPageFull (C CP : Addr) : Sp := fun vs H Q _ => ∃ (x : Addr) (zs : List Str) (m : Int) (f : Str × Str → V), vs = [.ref x] ∧ PageOf H C CP x zs m f ∧ zs.length ≤ 8 ∧ ∀ H', Same H H' → Q (.bl (fullB zs f)) H'
def spPageGet (C CP : Addr) : Sp := fun vs H Q _ => ∃ (x t : Addr) (zs : List Str) (m : Int) (f : Str × Str → V) (p : Str × Str), vs = [.ref x, .ref t] ∧ PageOf H C CP x zs m f ∧ p ∈ pairsOf zs ∧ H t = some (.tup [.str p.1, .str p.2]) ∧ Q (f p) H
def likeB (zs : List Str) (f g : Str × Str → V) : Bool := (pairsOf zs).all fun p => decide (f p = g p)
def spPageEq (C CP : Addr) : Sp := fun vs H Q _ => ∃ (x y : Addr) (zs : List Str) (m : Int) (f : Str × Str → V), vs = [.ref x, .ref y] ∧ PageOf H C CP x zs m f ∧ zs.Nodup ∧ (∀ z ∈ zs, PyData.strOk z = true) ∧ (∀ p ∈ pairsOf zs, isMk (f p) = true) ∧
  ((∃ ys n g, PageOf H C CP y ys n g ∧ (∀ z ∈ ys, PyData.strOk z = true) ∧ (∀ p ∈ pairsOf ys, isMk (g p) = true) ∧ Q (.bl (decide (m = n) && (decide (zs = ys) && likeB zs f g))) H) ∨ ((∃ kvs, H y = some (.dT kvs)) ∧ Q (.bl false) H) ∨ ((∃ ys n, CrowdOf H C y ys n) ∧ Q (.bl false) H))
theorem same_sheets {zs : List Str} (nd : zs.Nodup) (f g : Str × Str → V) : sameB (sheetOf zs f) (sheetOf zs g) = likeB zs f g := by
  unfold sameB likeB
  rw [sheet_len, sheet_len, decide_eq_true rfl, Bool.true_and]
  have key : ∀ l : List (Str × Str), (∀ p ∈ l, p ∈ pairsOf zs) → ((l.map fun p => (key2 p, f p)).all fun e => decide (valV (sheetOf zs g) e.1 = some e.2)) = l.all fun p => decide (f p = g p) := fun l => by
    induction l with
    | nil => intro _; rfl
    | cons p l ih =>
      intro h
      rw [List.map_cons, List.all_cons, List.all_cons, ih fun q hq => h q (List.mem_cons_of_mem _ hq)]
      dsimp only
      rw [valV_sheet (h p (List.mem_cons_self ..))]
      have e : decide (some (g p) = some (f p)) = decide (f p = g p) := by
        by_cases e : f p = g p
        · rw [e]
          simp
        · rw [decide_eq_false e, decide_eq_false (fun z => e (Option.some.inj z).symm)]
      rw [e]
  exact key (pairsOf zs) fun _ h => h
theorem sheet_mk {zs : List Str} {f : Str × Str → V} (h : ∀ p ∈ pairsOf zs, isMk (f p) = true) : ∀ e ∈ sheetOf zs f, isMk e.2 = true := fun e he => by
  unfold sheetOf at he
  obtain ⟨p, hp, rfl⟩ := List.mem_map.mp he
  exact h p hp
theorem valV_none {κ : Type} [DecidableEq κ] {kvs : List (κ × V)} {k : κ} (h : k ∉ kvs.map (·.1)) : valV kvs k = none := by
  cases hv : valV kvs k with
  | none => rfl
  | some v => exact absurd (valV_in hv) h
/-- the row of somebody: its marks for the others -/
def rowK (l : List Str) (f : Str × Str → V) (a : Str) : List (Key × V) := (l.filter fun b => a ≠ b).map fun b => (Sum.inr b, f (a, b))
theorem rowK_take (zs : List Str) (f : Str × Str → V) (a b : Str) (i : Nat) (h : zs[i]? = some b) : rowK (zs.take (i + 1)) f a = rowK (zs.take i) f a ++ (if a ≠ b then [(Sum.inr b, f (a, b))] else []) := by
  unfold rowK
  rw [row_take zs a b i h, List.map_append]
  congr 1
  split <;> rfl
theorem rowK_new {zs : List Str} (nd : zs.Nodup) (f : Str × Str → V) (a b : Str) (i : Nat) (h : zs[i]? = some b) : valV (rowK (zs.take i) f a) (Sum.inr b : Key) = none := by
  refine valV_none fun m => ?_
  unfold rowK at m
  rw [List.map_map] at m
  obtain ⟨c, hc, e⟩ := List.mem_map.mp m
  have e2 : c = b := Sum.inr.inj e
  subst e2
  have m1 := (List.mem_filter.mp hc).1
  have m2 : c ∈ zs.drop i := List.mem_iff_getElem?.mpr ⟨0, by rw [List.getElem?_drop, Nat.add_zero]; exact h⟩
  have e3 : zs = zs.take i ++ zs.drop i := (List.take_append_drop i zs).symm
  rw [e3, List.nodup_append] at nd
  exact absurd rfl (nd.2.2 _ m1 _ m2)
theorem rowK_len {l : List Str} {f : Str × Str → V} {a : Str} : (rowK l f a).length ≤ l.length := by
  unfold rowK
  rw [List.length_map]
  exact List.length_filter_le ..
def spPageRow (C CP : Addr) : Sp := fun vs H Q _ => ∃ (x : Addr) (zs : List Str) (m : Int) (f : Str × Str → V) (a : Str), vs = [.ref x, .str a] ∧ PageOf H C CP x zs m f ∧ zs.Nodup ∧ zs.length ≤ 8 ∧ a ∈ zs ∧ ∀ H' p, Same H H' → H p = none → H' p = some (.dK (rowK zs f a)) → Q (.ref p) H'
theorem mem_pairsOf {zs : List Str} {a b : Str} (ha : a ∈ zs) (hb : b ∈ zs) (h : a ≠ b) : (a, b) ∈ pairsOf zs := by
  unfold pairsOf
  refine List.mem_flatMap.mpr ⟨a, ha, ?_⟩
  unfold rowOf
  exact List.mem_map.mpr ⟨b, List.mem_filter.mpr ⟨hb, by simpa using h⟩, rfl⟩
theorem sheet_congr {zs : List Str} {f g : Str × Str → V} (h : ∀ p ∈ pairsOf zs, f p = g p) : sheetOf zs f = sheetOf zs g := by
  unfold sheetOf
  exact List.map_congr_left fun p hp => by rw [h p hp]
def withF (f : Str × Str → V) (q : Str × Str) (v : V) : Str × Str → V := fun p => if p = q then v else f p
theorem put_sheet {zs : List Str} {f : Str × Str → V} {q : Str × Str} {v : V} (h : q ∈ pairsOf zs) : putK (sheetOf zs f) (key2 q) v = sheetOf zs (withF f q v) := by
  unfold putK
  have any : ((sheetOf zs f).any fun kv => decide (kv.1 = key2 q)) = true := by
    rw [valV_any, valV_sheet h]
    rfl
  rw [if_pos any]
  unfold sheetOf
  rw [List.map_map]
  refine List.map_congr_left fun p hp => ?_
  show (if key2 p = key2 q then (key2 p, v) else (key2 p, f p)) = (key2 p, withF f q v p)
  unfold withF
  by_cases e : p = q
  · subst e
    rw [if_pos rfl, if_pos rfl]
  · rw [if_neg (fun z => e (key2_inj z)), if_neg e]
section
variable {σ : St} {H : Hp} {Q : VK} {C CP : Addr} {zs : List Str} {m : Int} {g : Str × Str → V}
theorem md_page {c d : Addr} {kvs : List (List Key × V)} {H1 : Hp} {R : VK} {E : XK} (s1 : Same H H1) (hc : CrowdOf H1 C c zs m) (z8 : zs.length ≤ 8) (nd : zs.Nodup) (hM : MarksAt H1 zs m d kvs) (hv : ∀ p ∈ pairsOf zs, valV kvs (key2 p) = some (g p))
    (k : ∀ H' x, Same H H' → PageNew H H' C CP x zs m g → R (.ref x) H') : ∀ x dx, H1 x = none → H1 dx = none → dx ≠ x → spPageInit C CP [.ref x, .ref c, .ref d] (upd (upd H1 dx (.own x)) x (.ins CP dx [])) (fun v H2 => v = .non ∧ R (.ref x) H2) E := by
  intro x dx nx ndx nex
  have s2 : Same H1 (upd (upd H1 dx (.own x)) x (.ins CP dx [])) := fun b o e => by
    rw [upd_ne (ne_of_none e nx), upd_ne (ne_of_none e ndx)]
    exact e
  obtain ⟨hd, hl, hk⟩ := hM
  refine ⟨x, dx, c, d, zs, m, kvs, rfl, upd_same, hc.same s2, z8, nd, ⟨s2 _ _ hd, hl, hk⟩, fun p hp => ⟨_, hv p hp⟩, fun H' dx2 e hB ne h1 h2 => ⟨rfl, k H' x (s1.trans fun b o z => hB b o (ne_of_none z nx) (s2 _ _ z)) ⟨s1.free nx, dx2, c, e, s1.free (s2.free ne), h1, ?_, ?_⟩⟩⟩
  · obtain ⟨dc, l, e1, e2⟩ := hc
    exact ⟨dc, l, hB _ _ (ne_of_none e1 nx) (s2 _ _ e1), hB _ _ (ne_of_none e2 nx) (s2 _ _ e2)⟩
  · rw [h2, sheet_congr (g := g) fun p hp => by rw [hv p hp]; rfl]
theorem rd_page {E : XK} {kvs : List (List Key × V)} {t : TA} (z8 : zs.length ≤ 8) (nd : zs.Nodup) (hl : kvs.length = (pairsOf zs).length) (hk : ∀ e ∈ kvs, (∃ p ∈ pairsOf zs, e.1 = key2 p) ∧ mkOk m e.2 = true) (hv : ∀ p ∈ pairsOf zs, valV kvs (key2 p) = some (g p))
    (ht : ∀ Q' : List V → Hp → Prop, (∀ H1 c d, Same H H1 → CrowdOf H1 C c zs m → H1 d = some (.dT kvs) → Q' [.ref c, .ref d] H1) → t σ H Q') (k : ∀ H' x, Same H H' → PageNew H H' C CP x zs m g → Q (.ref x) H') : tMake CP (spPageInit C CP) [] E t σ H Q := by
  refine ht _ fun H1 c d s1 hc hd => ?_
  exact md_page s1 hc z8 nd ⟨hd, hl, hk⟩ hv k
end
theorem sheet_marks {zs : List Str} {m : Int} {f : Str × Str → V} (mk : ∀ p ∈ pairsOf zs, mkOk m (f p) = true) : ∀ e ∈ sheetOf zs f, (∃ p ∈ pairsOf zs, e.1 = key2 p) ∧ mkOk m e.2 = true := fun e he => by
  unfold sheetOf at he
  obtain ⟨p, hp, rfl⟩ := List.mem_map.mp he
  exact ⟨⟨p, hp, rfl⟩, mk p hp⟩
def spWithMark (C CP : Addr) : Sp := fun vs H Q _ => ∃ (x t : Addr) (v : V) (zs : List Str) (m : Int) (f : Str × Str → V) (p : Str × Str), vs = [.ref x, .ref t, v] ∧ PageOf H C CP x zs m f ∧ zs.Nodup ∧ zs.length ≤ 8 ∧ (∀ z ∈ zs, PyData.strOk z = true) ∧
  (∀ p ∈ pairsOf zs, mkOk m (f p) = true) ∧ p ∈ pairsOf zs ∧ H t = some (.tup [.str p.1, .str p.2]) ∧ mkOk m v = true ∧ ∀ H' y, Same H H' → PageNew H H' C CP y zs m (withF f p v) → Q (.ref y) H'
def spFilled (C CP : Addr) : Sp := fun vs H Q _ => ∃ (c : Addr) (v : V) (zs : List Str) (m : Int), vs = [.ref c, v] ∧ CrowdOf H C c zs m ∧ zs.Nodup ∧ zs.length ≤ 8 ∧ mkOk m v = true ∧ ∀ H' y, Same H H' → PageNew H H' C CP y zs m (fun _ => v) → Q (.ref y) H'
theorem eqv_pairD (p q : Str × Str) : PyData.eqv (pairD p) (pairD q) = decide (p = q) := by
  show PyData.eqv (.tuple ([p.1, p.2].map .str)) (.tuple ([q.1, q.2].map .str)) = _
  rw [PyData.eqv, eqvAll_strs]
  refine decide_eq_decide.mpr ⟨fun h => ?_, fun h => by rw [h]⟩
  injection h with h1 h2
  injection h2 with h2 _
  exact Prod.ext h1 h2
theorem shaped_pairD {p : Str × Str} (h1 : PyData.strOk p.1 = true) (h2 : PyData.strOk p.2 = true) : SeqAt.shaped (pairD p) = true := by
  have ok : ∀ z ∈ [p.1, p.2], PyData.strOk z = true := fun z hz => by
    rcases List.mem_cons.mp hz with rfl | hz
    · exact h1
    · rw [List.mem_singleton.mp hz]
      exact h2
  have := depth_strs [p.1, p.2]
  show SeqAt.shaped (.tuple ([p.1, p.2].map .str)) = true
  unfold SeqAt.shaped
  rw [PyData.canLay0, lay_strs ok, Bool.true_and]
  refine decide_eq_true ?_
  rw [PyData.depth]
  omega
theorem dp_pair {K : PySem.W.Frag} {H : Hp} {t : Addr} {p : Str × Str} (h : H t = some (.tup [.str p.1, .str p.2])) : Dp K H (.ref t) (pairD p) := .tup (SqT.of h) (.cons (.str _) (.cons (.str _) .nil))
/-- a row that is given: words and marks -/
def rowD (es : List (Str × V)) : List (Key × V) := es.map fun e => (Sum.inr e.1, e.2)
def RowFor (zs : List Str) (m : Int) (a : Str) (es : List (Str × V)) : Prop := es.length + 1 = zs.length ∧ ∀ e ∈ es, e.1 ∈ zs ∧ e.1 ≠ a ∧ mkOk m e.2 = true
def spIsRow (C : Addr) : Sp := fun vs H Q _ => ∃ (c r : Addr) (a : Str) (zs : List Str) (m : Int) (es : List (Str × V)), vs = [.ref c, .str a, .ref r] ∧ CrowdOf H C c zs m ∧ zs.length ≤ 8 ∧ H r = some (.dK (rowD es)) ∧ RowFor zs m a es ∧ ∀ H', Same H H' → Q (.bl true) H'
def putRow (f : Str × Str → V) (a : Str) (es : List (Str × V)) : Str × Str → V := es.foldl (fun g e => withF g (a, e.1) e.2) f
theorem putRow_snoc (f : Str × Str → V) (a : Str) (es : List (Str × V)) (e : Str × V) : putRow f a (es ++ [e]) = withF (putRow f a es) (a, e.1) e.2 := by
  unfold putRow
  rw [List.foldl_append]
  rfl
theorem putRow_mk {m : Int} {a : Str} {ps : List (Str × Str)} : ∀ {es : List (Str × V)} {f : Str × Str → V}, (∀ e ∈ es, mkOk m e.2 = true) → (∀ p ∈ ps, mkOk m (f p) = true) → ∀ p ∈ ps, mkOk m (putRow f a es p) = true
  | [], _, _, h2 => h2
  | e :: es, f, h1, h2 => fun p hp => by
    refine putRow_mk (es := es) (f := withF f (a, e.1) e.2) (fun x hx => h1 x (List.mem_cons_of_mem _ hx)) (fun q hq => ?_) p hp
    unfold withF
    split
    · exact h1 e (List.mem_cons_self ..)
    · exact h2 q hq
def spWithRow (C CP : Addr) : Sp := fun vs H Q _ => ∃ (x r : Addr) (a : Str) (zs : List Str) (m : Int) (f : Str × Str → V) (es : List (Str × V)), vs = [.ref x, .str a, .ref r] ∧ PageOf H C CP x zs m f ∧ zs.Nodup ∧ zs.length ≤ 8 ∧ a ∈ zs ∧
  (∀ p ∈ pairsOf zs, mkOk m (f p) = true) ∧ H r = some (.dK (rowD es)) ∧ RowFor zs m a es ∧ ∀ H' y, Same H H' → PageNew H H' C CP y zs m (putRow f a es) → Q (.ref y) H'
/-- a law's plan of a crowd: its people and the greatest mark -/
def planK (l : Addr) (m : Int) : List (Key × V) := [(Sum.inr "people", V.ref l), (Sum.inr "most", V.int m)]
theorem plan_people {l : Addr} {m : Int} : valV (planK l m) (Sum.inr "people" : Key) = some (V.ref l) := valV_pos rfl
theorem plan_most {l : Addr} {m : Int} : valV (planK l m) (Sum.inr "most" : Key) = some (V.int m) := by
  unfold planK
  rw [valV_neg (fun z => absurd (Sum.inr.inj z) (by decide +kernel))]
  exact valV_pos rfl
theorem get_people {H : Hp} {pl l : Addr} {m : Int} (h : H pl = some (.dK (planK l m))) : DGet H pl (.str "people") (some (.ref l)) := .inl ⟨_, Sum.inr "people", .inl h, rfl, plan_people.symm⟩
theorem get_most {H : Hp} {pl l : Addr} {m : Int} (h : H pl = some (.dK (planK l m))) : DGet H pl (.str "most") (some (.int m)) := .inl ⟨_, Sum.inr "most", .inl h, rfl, plan_most.symm⟩
def spSheet (K : PySem.W.Frag) : Sp := fun vs H Q _ => ∃ (a pl l : Addr) (r : Int) (zs : List Str) (m : Int), vs = [.ref a, .ref pl, .int r] ∧ Pool H a ∧ H pl = some (.dK (planK l m)) ∧ H l = some (.lst (zs.map V.str)) ∧ zs.Nodup ∧ zs.length ≤ 8 ∧ 1 ≤ m ∧ m ≤ 10 ∧ r ≤ 100 ∧
  ∀ H' p f, Pool H' a → But a H H' → H p = none → H' p = some (.dT (sheetOf zs f)) → (∀ q ∈ pairsOf zs, mkOk m (f q) = true) → Q (.ref p) H'
theorem sheet_take_with {zs : List Str} (nd : zs.Nodup) {f : Str × Str → V} {q : Str × Str} {v : V} {i : Nat} (h : (pairsOf zs)[i]? = some q) : (sheetOf zs (withF f q v)).take i = (sheetOf zs f).take i := by
  unfold sheetOf
  rw [← List.map_take, ← List.map_take]
  refine List.map_congr_left fun p hp => ?_
  have ne : p ≠ q := fun e => by
    subst e
    have e2 : pairsOf zs = (pairsOf zs).take i ++ (pairsOf zs).drop i := (List.take_append_drop i _).symm
    have n := pairs_nodup nd
    rw [e2, List.nodup_append] at n
    exact absurd rfl (n.2.2 _ hp _ (List.mem_iff_getElem?.mpr ⟨0, by rw [List.getElem?_drop, Nat.add_zero]; exact h⟩))
  unfold withF
  rw [if_neg ne]
end L2

set_option Elab.async false
set_option linter.all false
set_option maxRecDepth 100000
set_option maxHeartbeats 4000000
/-! list(d.items()), the keys numbers or texts. -/
namespace L2
open PySem PySem.Spec PyProof.Rows
section
variable {X : Cx}
theorem Inv.rawK {pins : List (Addr × Obj)} {σ : St} {H : Hp} {s : Shared} {d : Addr} {kvs : List (Key × V)} (I : Inv X pins σ H s) (h : H d = some (.dK kvs)) :
    (d == sysModules) = false ∧ ∃ (es : Array DictEntry) (ep : Nat), s.heap.DictRaw d es ep ∧ es.size = kvs.length ∧ kvs.length ≤ sizeLine ∧
      ∀ (i : Nat) (k : Key) (v : V), kvs[i]? = some (k, v) → ∃ (hi : i < es.size), RelV (kV k) es[i].key ∧ RelV v es[i].val := by
  obtain ⟨z, low, vs, rel, dd⟩ := dk_of I.hok h
  obtain ⟨es, ep, hr, hs, he⟩ := dd.raw
  have l : kvs.length = vs.length := Paired.length rel
  refine ⟨low, es, ep, hr, by omega, z, fun i k v e => ?_⟩
  obtain ⟨u, hu, ru⟩ := kv_get rel e
  have hi : i < es.size := by
    have := (List.getElem?_eq_some_iff.mp e).1
    omega
  obtain ⟨e1, e2⟩ := he i hi k u hu
  exact ⟨hi, relV_key (show keyIs k es[i].key = true from e1), by rw [e2]; exact ru⟩
def rItemsK : V → List V → Hp → VK → Prop := fun x xs H Q => ∃ (a : Addr) (kvs : List (Key × V)), x = .ref a ∧ xs = [] ∧ H a = some (.dK kvs) ∧ ∀ p, H p = none → Q (.ref p) (upd H p (DX.itemsO p a))
theorem mt_itemsK : MtR X "dict.items" rItemsK := by
  intro pins s σ H x xs v us Q I rx rxs h
  obtain ⟨a, kvs, rfl, rfl, ha, q⟩ := h
  cases rx
  cases rxs
  obtain ⟨low, es, ep, hr, _⟩ := I.rawK ha
  refine call_meetsIn PySem.F.slot_dict_items hr.typeIs PySem.F.entry_dict_items (PySem.F.args_dict_items_1 _) (meets_dict_items_raw a low) ⟨⟨es, ep, hr⟩, ?_⟩
  exact ⟨.ref s.heap.objs.size, upd H s.heap.objs.size (DX.itemsO s.heap.objs.size a), I.laid (t' := s.toks) (fun b u e => Heap.get?_push_of_some _ e) (Nat.le_refl _) (DX.itemsO_ok (Heap.get?_push_size _ rfl)), rfl, q _ (I.hok.fresh (Nat.le_refl _))⟩
/-- new tuples of the entries of a dict -/
def ItemsK (H : Hp) (ts : List Addr) (kvs : List (Key × V)) : Prop := ts.length = kvs.length ∧ ∀ (j : Nat) (t : Addr) (kv : Key × V), ts[j]? = some t → kvs[j]? = some kv → H t = some (.tup [kV kv.1, kv.2])
theorem call_list_items (hc : X.calm = true) : CallR X (.type "list") (fun xs H Q => ∃ p d kvs, xs = [V.ref p] ∧ H p = some (DX.itemsO p d) ∧ H d = some (.dK kvs) ∧ ∀ H' l ts, Same H H' → H' l = some (.lst (ts.map V.ref)) → ItemsK H' ts kvs → Q (.ref l) H') := by
  intro pins s σ H xs us Q I r h
  obtain ⟨p, d, kvs, rfl, hp, hd, q⟩ := h
  obtain ⟨u, rfl, rx⟩ := r.one
  cases rx
  obtain ⟨low, es, ep, hr, hsz, z, ent⟩ := I.rawK hd
  have hv : s.heap.IsItemsView p d := (show ObjOk X.prog X.w H s.heap p (DX.itemsO p d) from I.hok p _ hp).1
  refine PySem.W.dil_call (es := es) (ep := ep) (I.ok.hd hc) hv hr (by omega) fun h' tk acc c as kp hl len G ea => ?_
  have free : H s.heap.objs.size = none := I.hok.fresh (Nat.le_refl _)
  have I1 : Inv X pins σ (upd H s.heap.objs.size (.lst (as.map V.ref))) { s with heap := h', toks := tk } := by
    refine I.laid (t' := tk) (o := .lst (as.map V.ref)) kp (Nat.le_refl _) ⟨by rw [List.length_map]; omega, acc.toList, c, ?_, by rw [Array.toArray_toList]; exact hl⟩
    rw [ea]
    exact vals_refs as
  have nd : as.Nodup := G.rise.imp fun h => Nat.ne_of_lt h
  obtain ⟨H2, I2, g, qt⟩ := DX.takeT (P := fun b vs => ∃ (j : Nat) (kv : Key × V), as[j]? = some b ∧ kvs[j]? = some kv ∧ vs = [kV kv.1, kv.2]) I as _ I1 nd fun b hb => by
    obtain ⟨j, hj⟩ := List.mem_iff_getElem?.mp hb
    obtain ⟨hje, hg⟩ := G.pairs j b hj
    have hk : j < kvs.length := by omega
    obtain ⟨_, r1, r2⟩ := ent j kvs[j].1 kvs[j].2 (List.getElem?_eq_getElem hk)
    have hbl := G.above b hb
    refine ⟨Nat.le_of_lt hbl, ?_, [kV kvs[j].1, kvs[j].2], ⟨j, kvs[j], hj, List.getElem?_eq_getElem hk, rfl⟩, fun H3 => ⟨by show 2 ≤ sizeLine; decide, [es[j].key, es[j].val], .cons r1 (.cons r2 .nil), ⟨_, hg, rfl, _, rfl⟩⟩⟩
    rw [upd_ne (Nat.ne_of_gt hbl)]
    exact I.hok.fresh (Nat.le_of_lt hbl)
  refine ⟨.ref s.heap.objs.size, H2, I2, rfl, q H2 _ as (fun b o e => g b o (by rw [upd_ne (ne_of_none e free)]; exact e)) (g _ _ upd_same) ⟨by omega, fun j t kv h1 h2 => ?_⟩⟩
  obtain ⟨vs, ⟨i, kv2, j1, j2, ev⟩, hH⟩ := qt t (List.mem_of_getElem? h1)
  have eij : j = i := (List.getElem?_inj (List.getElem?_eq_some_iff.mp h1).1 nd).mp (h1.trans j1.symm)
  subst eij
  obtain rfl := Option.some.inj (h2.symm.trans j2)
  rw [hH, ev]
end
end L2

set_option Elab.async false
set_option linter.all false
set_option maxRecDepth 100000
set_option maxHeartbeats 4000000
/-! Marks, and rows of marks, as data: their texts, and that they are equal to themselves. -/
namespace L2
open PySem PySem.Spec PyProof.Rows
/-- data of few signs -/
def Small (d : PyData) : Prop := d.hasDict = false ∧ d.showable = true ∧ d.depth ≤ 2 ∧ d.shown.length ≤ 30 ∧ d.canLay0 = true
theorem small_all : ∀ {ds : List PyData}, (∀ d ∈ ds, Small d) → PyData.hasDictAll ds = false ∧ PyData.showableAll ds = true ∧ PyData.depthAll ds ≤ 2 ∧ (∀ t ∈ PyData.shownAll ds, t.length ≤ 30) ∧ PyData.canLayAll0 ds = true
  | [], _ => ⟨rfl, rfl, by simp [PyData.depthAll], fun t h => (nomatch h), rfl⟩
  | d :: ds, h => by
    obtain ⟨h1, h2, h3, h4, h5⟩ := small_all fun e he => h e (List.mem_cons_of_mem _ he)
    obtain ⟨k1, k2, k3, k4, k5⟩ := h d (List.mem_cons_self ..)
    refine ⟨?_, ?_, ?_, fun t ht => ?_, ?_⟩
    · rw [PyData.hasDictAll, k1, h1]
      rfl
    · rw [PyData.showableAll, k2, h2]
      rfl
    · simp only [PyData.depthAll]
      omega
    · rw [PyData.shownAll] at ht
      rcases List.mem_cons.mp ht with e | e
      · rw [e]
        exact k4
      · exact h4 t e
    · rw [PyData.canLayAll0, k5, h5]
      rfl
theorem small_list {ds : List PyData} (h : ∀ d ∈ ds, Small d) (hl : ds.length ≤ 64) : (PyData.list ds).hasDict = false ∧ (PyData.list ds).showable = true ∧ (PyData.list ds).depth ≤ 100 ∧ (PyData.list ds).shown.length ≤ sizeLine := by
  obtain ⟨h1, h2, h3, h4, _⟩ := small_all h
  refine ⟨by rw [PyData.hasDict]; exact h1, by rw [PyData.showable]; exact h2, by rw [PyData.depth]; omega, ?_⟩
  rw [PyData.shown]
  unfold listText
  rw [Str.length_append]
  have k := from_len (PyData.shownAll ds) 0 30 "[" h4
  rw [shownAll_len] at k
  have c1 : (Str.ofString "[").length = 1 := by decide
  have c2 : (Str.ofString "]").length = 1 := by decide
  have h5 : ds.length * (30 + 2) ≤ 64 * 32 := Nat.mul_le_mul_right _ hl
  rw [sizeLine_eq]
  omega
theorem small_shaped {ds : List PyData} (h : ∀ d ∈ ds, Small d) : SeqAt.shaped (.list ds) = true := by
  obtain ⟨_, _, h3, _, h5⟩ := small_all h
  unfold SeqAt.shaped
  rw [PyData.canLay0, h5, Bool.true_and]
  refine decide_eq_true ?_
  rw [PyData.depth]
  omega
theorem small_eqv {ds : List PyData} (h : ∀ d ∈ ds, Small d) : PyData.eqv (.list ds) (.list ds) = true := by
  obtain ⟨_, _, _, _, h5⟩ := small_all h
  exact SeqAt.eqv_refl _ (by rw [PyData.canLay0]; exact h5)
def markD : V → PyData
  | .int i => .int i
  | _ => .none
theorem mark_cases {m : Int} {v : V} (h : mkOk m v = true) (hm : m ≤ 10) : v = .non ∨ ∃ k : Nat, k < 11 ∧ v = .int (k : Int) := by
  cases v with
  | non => exact .inl rfl
  | int i =>
    have e : (decide (0 ≤ i) && decide (i ≤ m)) = true := by
      have : (decide (V.int i = V.non) || (decide (0 ≤ i) && decide (i ≤ m))) = true := h
      simpa using this
    rw [Bool.and_eq_true] at e
    have e1 := of_decide_eq_true e.1
    have e2 := of_decide_eq_true e.2
    exact .inr ⟨i.toNat, by omega, by rw [Int.toNat_of_nonneg e1]⟩
  | _ => cases h
theorem small_none : Small .none := by
  unfold Small
  decide +kernel
theorem small_int11 : ∀ k < 11, Small (.int ((k : Nat) : Int)) := by
  unfold Small
  decide +kernel
theorem small_mark {m : Int} {v : V} (h : mkOk m v = true) (hm : m ≤ 10) : Small (markD v) := by
  rcases mark_cases h hm with rfl | ⟨k, hk, rfl⟩
  · exact small_none
  · exact small_int11 k hk
theorem dp_mark {K : PySem.W.Frag} {H : Hp} {m : Int} {v : V} (h : mkOk m v = true) : Dp K H v (markD v) := by
  cases v with
  | non => exact .non
  | int i => exact .int i
  | _ => cases h
theorem dp_marks {K : PySem.W.Frag} {H : Hp} {m : Int} : ∀ {vs : List V}, (∀ v ∈ vs, mkOk m v = true) → DpAll K H vs (vs.map markD)
  | [], _ => .nil
  | v :: vs, h => .cons (dp_mark (h v (List.mem_cons_self ..))) (dp_marks fun x hx => h x (List.mem_cons_of_mem _ hx))
/-- a word and a mark -/
def rowDat (b : Str) (v : V) : PyData := .tuple [.str b, markD v]
theorem small_rows : ∀ b ∈ names8, Small (rowDat b .non) ∧ ∀ k < 11, Small (rowDat b (.int ((k : Nat) : Int))) := by
  unfold Small rowDat
  decide +kernel
theorem small_row {m : Int} {v : V} {b : Str} (hb : b ∈ names8) (h : mkOk m v = true) (hm : m ≤ 10) : Small (rowDat b v) := by
  rcases mark_cases h hm with rfl | ⟨k, hk, rfl⟩
  · exact (small_rows b hb).1
  · exact (small_rows b hb).2 k hk
theorem small_pairs : ∀ a ∈ names8, ∀ b ∈ names8, Small (pairD (a, b)) := by
  unfold Small pairD
  decide +kernel
theorem dp_row {K : PySem.W.Frag} {H : Hp} {m : Int} {t : Addr} {b : Str} {v : V} (h : H t = some (.tup [.str b, v])) (hv : mkOk m v = true) : Dp K H (.ref t) (rowDat b v) := .tup (SqT.of h) (.cons (.str _) (.cons (dp_mark hv) .nil))
theorem small_bool : ∀ b : Bool, (PyData.bool b).hasDict = false ∧ (PyData.bool b).showable = true ∧ (PyData.bool b).depth ≤ 100 ∧ (PyData.bool b).shown.length ≤ sizeLine := by
  intro b
  rw [sizeLine_eq]
  cases b <;> decide +kernel
section
variable {te : TE} {g : TG} {D : Ends} {σ : St} {H : Hp}
theorem st_asg (h : te σ H fun x H1 => g x σ H1 D.nx) : tAsg te g D σ H := h
end
/-- a page as its plan and its sheet tell -/
structure Told (zs : List Str) (m : Int) (f : Str × Str → V) : Prop where
  mem : ∀ z ∈ zs, z ∈ names8
  nd : zs.Nodup
  one : 1 ≤ zs.length
  most : zs.length ≤ 8
  m1 : 1 ≤ m
  m10 : m ≤ 10
  marks : ∀ p ∈ pairsOf zs, mkOk m (f p) = true
def spPageRight (C CP : Addr) : Sp := fun vs H Q _ => ∃ (x pl l sd : Addr) (zs : List Str) (m : Int) (f : Str × Str → V), vs = [.ref x, .ref pl, .ref sd] ∧ PageOf H C CP x zs m f ∧ NotOwn H CP x sd ∧ H pl = some (.dK (planK l m)) ∧ H l = some (.lst (zs.map V.str)) ∧ H sd = some (.dT (sheetOf zs f)) ∧ Told zs m f ∧ ∀ G, Same H G → Q (.bl true) G
theorem eqv_none {m : Int} {v : V} (h : mkOk m v = true) : PyData.eqv (markD v) .none = decide (v = .non) := by
  cases v with
  | non => decide +kernel
  | int i =>
    rw [decide_eq_false (by intro z; cases z)]
    show PyData.eqv (.int i) .none = false
    simp [PyData.eqv]
  | _ => cases h
theorem none_in {m : Int} : ∀ {vs : List V}, (∀ v ∈ vs, mkOk m v = true) → ((vs.map markD).any fun z => PyData.eqv z .none) = vs.any fun v => decide (v = .non)
  | [], _ => rfl
  | v :: vs, h => by
    rw [List.map_cons, List.any_cons, List.any_cons, eqv_none (h v (List.mem_cons_self ..)), none_in fun x hx => h x (List.mem_cons_of_mem _ hx)]
theorem likeB_self (zs : List Str) (f : Str × Str → V) : likeB zs f f = true := by
  unfold likeB
  rw [List.all_eq_true]
  intro p _
  exact decide_eq_true rfl
theorem isKeys_same {H H2 : Hp} (s : Same H H2) {kvs : List (List Key × V)} {bs : List Addr} (h : IsKeys H kvs bs) : IsKeys H2 kvs bs := by
  unfold IsKeys at h ⊢
  induction h with
  | nil => exact .nil
  | cons h t ih => exact .cons (s _ _ h) ih
theorem isKeys_dp {K : PySem.W.Frag} {H : Hp} {f : Str × Str → V} : ∀ {l : List (Str × Str)} {bs : List Addr}, IsKeys H (l.map fun p => (key2 p, f p)) bs → DpAll K H (bs.map V.ref) (l.map pairD)
  | [], _, h => by
    cases h
    exact .nil
  | p :: l, _, h => by
    cases h with
    | cons h t => exact .cons (.tup (SqT.of h) (.cons (.str _) (.cons (.str _) .nil))) (isKeys_dp t)
theorem small_pairsOf {zs : List Str} (h : ∀ z ∈ zs, z ∈ names8) : ∀ d ∈ (pairsOf zs).map pairD, Small d := fun d hd => by
  obtain ⟨p, hp, rfl⟩ := List.mem_map.mp hd
  obtain ⟨h1, h2, _⟩ := mem_pairs hp
  exact small_pairs p.1 (h _ h1) p.2 (h _ h2)
theorem small_sheet {zs : List Str} {m : Int} {f : Str × Str → V} (t : Told zs m f) : ∀ d ∈ ((pairsOf zs).map f).map markD, Small d := fun d hd => by
  obtain ⟨v, hv, rfl⟩ := List.mem_map.mp hd
  obtain ⟨p, hp, rfl⟩ := List.mem_map.mp hv
  exact small_mark (t.marks p hp) t.m10
theorem full_none {zs : List Str} {m : Int} {f : Str × Str → V} (t : Told zs m f) : (!(((pairsOf zs).map f).map markD).any fun z => PyData.eqv z .none) = fullB zs f := by
  rw [none_in (m := m) fun v hv => by obtain ⟨p, hp, rfl⟩ := List.mem_map.mp hv; exact t.marks p hp]
  unfold fullB
  rw [List.any_map]
  induction pairsOf zs with
  | nil => rfl
  | cons p l ih =>
    rw [List.any_cons, List.all_cons, ← ih, Bool.not_or]
    rfl
theorem ItemsK.snoc {H : Hp} {ts : List Addr} {kvs : List (Key × V)} {t : Addr} {k : Key} {v : V} (h : ItemsK H ts kvs) (e : H t = some (.tup [kV k, v])) : ItemsK H (ts ++ [t]) (kvs ++ [(k, v)]) := by
  refine ⟨by rw [List.length_append, List.length_append, h.1]; rfl, fun j x kv h1 h2 => ?_⟩
  rcases Nat.lt_trichotomy j ts.length with c | c | c
  · rw [List.getElem?_append_left c] at h1
    rw [List.getElem?_append_left (by rw [← h.1]; exact c)] at h2
    exact h.2 j x kv h1 h2
  · subst c
    rw [List.getElem?_append_right (Nat.le_refl _), Nat.sub_self] at h1
    rw [h.1, List.getElem?_append_right (Nat.le_refl _), Nat.sub_self] at h2
    cases h1
    cases h2
    exact e
  · rw [List.getElem?_eq_none (by rw [List.length_append, List.length_singleton]; omega)] at h1
    cases h1
theorem ItemsK.keep {H H2 : Hp} {ts : List Addr} {kvs : List (Key × V)} (h : ItemsK H ts kvs) (k : ∀ t ∈ ts, ∀ o, H t = some o → H2 t = some o) : ItemsK H2 ts kvs := ⟨h.1, fun j t kv h1 h2 => k t (List.mem_of_getElem? h1) _ (h.2 j t kv h1 h2)⟩
theorem itemsK_dp {K : PySem.W.Frag} {H : Hp} {m : Int} : ∀ {es : List (Str × V)} {ts : List Addr}, ItemsK H ts (rowD es) → (∀ e ∈ es, mkOk m e.2 = true) → DpAll K H (ts.map V.ref) (es.map fun e => rowDat e.1 e.2)
  | [], [], _, _ => .nil
  | [], t :: ts, h, _ => by cases h.1
  | e :: es, [], h, _ => by cases h.1
  | e :: es, t :: ts, h, hm => .cons (dp_row (h.2 0 t _ rfl rfl) (hm e (List.mem_cons_self ..))) (itemsK_dp ⟨Nat.succ.inj h.1, fun j x kv h1 h2 => h.2 (j + 1) x kv h1 h2⟩ fun x hx => hm x (List.mem_cons_of_mem _ hx))
/-- the row of somebody, word by word -/
def rowEs (zs : List Str) (f : Str × Str → V) (a : Str) : List (Str × V) := (zs.filter fun b => a ≠ b).map fun b => (b, f (a, b))
theorem rowK_es (zs : List Str) (f : Str × Str → V) (a : Str) : rowK zs f a = rowD (rowEs zs f a) := by
  unfold rowK rowD rowEs
  rw [List.map_map]
  rfl
theorem mem_rowEs {zs : List Str} {f : Str × Str → V} {a : Str} {e : Str × V} (h : e ∈ rowEs zs f a) : e.1 ∈ zs ∧ e.1 ≠ a ∧ e.2 = f (a, e.1) := by
  unfold rowEs at h
  obtain ⟨b, hb, rfl⟩ := List.mem_map.mp h
  obtain ⟨h1, h2⟩ := List.mem_filter.mp hb
  exact ⟨h1, fun z => (of_decide_eq_true h2) z.symm, rfl⟩
theorem small_rowEs {zs : List Str} {m : Int} {f : Str × Str → V} (t : Told zs m f) {a : Str} (ha : a ∈ zs) : ∀ d ∈ (rowEs zs f a).map fun e => rowDat e.1 e.2, Small d := fun d hd => by
  obtain ⟨e, he, rfl⟩ := List.mem_map.mp hd
  obtain ⟨h1, h2, h3⟩ := mem_rowEs he
  rw [h3]
  exact small_row (t.mem _ h1) (t.marks _ (mem_pairsOf ha h1 h2.symm)) t.m10
end L2

set_option Elab.async false
set_option linter.all false
set_option maxRecDepth 100000
set_option maxHeartbeats 4000000
namespace K09
open PySem PySem.Spec PyProof.Rows L2
def topS (i : Nat) : Stmt := PySem.Challenge.pw_ownmarks_k09_rules_changed.main.body.getD i (.Pass ⟨0, 0, 0, 0⟩)
abbrev sIsInteger : Stmt := topS 10
theorem scIsInteger : FnScope ["value"] ["value"] (defScope sIsInteger) := ⟨rfl, rfl, rfl, by decide +kernel, rfl, by decide +kernel, by decide +kernel⟩
abbrev sIsIntegerWithin : Stmt := topS 11
theorem scIsIntegerWithin : FnScope ["value", "least", "most"] ["value", "least", "most"] (defScope sIsIntegerWithin) := ⟨rfl, rfl, rfl, by decide +kernel, rfl, by decide +kernel, by decide +kernel⟩
abbrev sIsWord : Stmt := topS 12
theorem scIsWord : FnScope ["value", "sign"] ["value"] (defScope sIsWord) := ⟨rfl, rfl, rfl, by decide +kernel, rfl, by decide +kernel, by decide +kernel⟩
abbrev sBadCrowdInit : Stmt := inClass (topS 3) 0
theorem scBadCrowdInit : FnScope ["self", "part"] ["self", "part"] (defScope sBadCrowdInit) := ⟨rfl, rfl, rfl, by decide +kernel, rfl, by decide +kernel, by decide +kernel⟩
abbrev sBadRuleInit : Stmt := inClass (topS 4) 0
theorem scBadRuleInit : FnScope ["self", "part"] ["self", "part"] (defScope sBadRuleInit) := ⟨rfl, rfl, rfl, by decide +kernel, rfl, by decide +kernel, by decide +kernel⟩
abbrev sNotThereInit : Stmt := inClass (topS 6) 0
theorem scNotThereInit : FnScope ["self", "word"] ["self", "word"] (defScope sNotThereInit) := ⟨rfl, rfl, rfl, by decide +kernel, rfl, by decide +kernel, by decide +kernel⟩
abbrev sArePeople : Stmt := topS 16
theorem scArePeople : FnScope ["value", "person"] ["value"] (defScope sArePeople) := ⟨rfl, rfl, rfl, by decide +kernel, rfl, by decide +kernel, by decide +kernel⟩
abbrev sCrowdInit : Stmt := inClass (topS 17) 0
theorem scCrowdInit : FnScope ["self", "people", "most"] ["self", "people", "most"] (defScope sCrowdInit) := ⟨rfl, rfl, rfl, by decide +kernel, rfl, by decide +kernel, by decide +kernel⟩
abbrev sCrowdPeople : Stmt := inClass (topS 17) 1
theorem scCrowdPeople : FnScope ["self"] ["self"] (defScope sCrowdPeople) := ⟨rfl, rfl, rfl, by decide +kernel, rfl, by decide +kernel, by decide +kernel⟩
abbrev sCrowdLen : Stmt := inClass (topS 17) 2
theorem scCrowdLen : FnScope ["self"] ["self"] (defScope sCrowdLen) := ⟨rfl, rfl, rfl, by decide +kernel, rfl, by decide +kernel, by decide +kernel⟩
abbrev sCrowdContains : Stmt := inClass (topS 17) 3
theorem scCrowdContains : FnScope ["self", "x"] ["self", "x"] (defScope sCrowdContains) := ⟨rfl, rfl, rfl, by decide +kernel, rfl, by decide +kernel, by decide +kernel⟩
abbrev sCrowdEq : Stmt := inClass (topS 17) 5
theorem scCrowdEq : FnScope ["self", "other"] ["self", "other"] (defScope sCrowdEq) := ⟨rfl, rfl, rfl, by decide +kernel, rfl, by decide +kernel, by decide +kernel⟩
abbrev sCrowdPairs : Stmt := inClass (topS 17) 7
theorem scCrowdPairs : FnScope ["self", "marker", "marked"] ["self"] (defScope sCrowdPairs) := ⟨rfl, rfl, rfl, by decide +kernel, rfl, by decide +kernel, by decide +kernel⟩
abbrev sCrowdIsPair : Stmt := inClass (topS 17) 8
theorem scCrowdIsPair : FnScope ["self", "value"] ["self", "value"] (defScope sCrowdIsPair) := ⟨rfl, rfl, rfl, by decide +kernel, rfl, by decide +kernel, by decide +kernel⟩
abbrev sNeedCrowd : Stmt := topS 18
theorem scNeedCrowd : FnScope ["crowd"] ["crowd"] (defScope sNeedCrowd) := ⟨rfl, rfl, rfl, by decide +kernel, rfl, by decide +kernel, by decide +kernel⟩
abbrev sNeedPerson : Stmt := topS 19
theorem scNeedPerson : FnScope ["crowd", "person"] ["crowd", "person"] (defScope sNeedPerson) := ⟨rfl, rfl, rfl, by decide +kernel, rfl, by decide +kernel, by decide +kernel⟩
abbrev sIsTurn : Stmt := topS 26
theorem scIsTurn : FnScope ["value"] ["value"] (defScope sIsTurn) := ⟨rfl, rfl, rfl, by decide +kernel, rfl, by decide +kernel, by decide +kernel⟩
abbrev sAreReads : Stmt := topS 27
theorem scAreReads : FnScope ["crowd", "value", "pair"] ["crowd", "value"] (defScope sAreReads) := ⟨rfl, rfl, rfl, by decide +kernel, rfl, by decide +kernel, by decide +kernel⟩
abbrev sIsGather : Stmt := topS 28
theorem scIsGather : FnScope ["turn", "value"] ["turn", "value"] (defScope sIsGather) := ⟨rfl, rfl, rfl, by decide +kernel, rfl, by decide +kernel, by decide +kernel⟩
abbrev sIsTrim : Stmt := topS 29
theorem scIsTrim : FnScope ["gather", "value"] ["gather", "value"] (defScope sIsTrim) := ⟨rfl, rfl, rfl, by decide +kernel, rfl, by decide +kernel, by decide +kernel⟩
abbrev sAreLists : Stmt := topS 30
theorem scAreLists : FnScope ["crowd", "value", "members", "parted", "person"] ["crowd", "value"] (defScope sAreLists) := ⟨rfl, rfl, rfl, by decide +kernel, rfl, by decide +kernel, by decide +kernel⟩
abbrev sListsInOrder : Stmt := topS 31
theorem scListsInOrder : FnScope ["crowd", "lists", "ordered", "person", "members", "first"] ["crowd", "lists"] (defScope sListsInOrder) := ⟨rfl, rfl, rfl, by decide +kernel, rfl, by decide +kernel, by decide +kernel⟩
abbrev sIsShortOfReaders : Stmt := topS 32
theorem scIsShortOfReaders : FnScope ["readers", "lists", "trim", "ranked", "members", "person"] ["readers", "lists", "trim"] (defScope sIsShortOfReaders) := ⟨rfl, rfl, rfl, by decide +kernel, rfl, by decide +kernel, by decide +kernel⟩
abbrev sRuleInit : Stmt := inClass (topS 33) 0
theorem scRuleInit : FnScope ["self", "crowd", "turn", "reads", "gather", "trim", "lists", "prizes", "pair", "person"] ["self", "crowd", "turn", "reads", "gather", "trim", "lists", "prizes"] (defScope sRuleInit) := ⟨rfl, rfl, rfl, by decide +kernel, rfl, by decide +kernel, by decide +kernel⟩
abbrev sRuleReads : Stmt := inClass (topS 33) 1
theorem scRuleReads : FnScope ["self"] ["self"] (defScope sRuleReads) := ⟨rfl, rfl, rfl, by decide +kernel, rfl, by decide +kernel, by decide +kernel⟩
abbrev sRuleLists : Stmt := inClass (topS 33) 2
theorem scRuleLists : FnScope ["self", "members"] ["self"] (defScope sRuleLists) := ⟨rfl, rfl, rfl, by decide +kernel, rfl, by decide +kernel, by decide +kernel⟩
abbrev sRuleEq : Stmt := inClass (topS 33) 6
theorem scRuleEq : FnScope ["self", "other"] ["self", "other"] (defScope sRuleEq) := ⟨rfl, rfl, rfl, by decide +kernel, rfl, by decide +kernel, by decide +kernel⟩
abbrev sRuleChanged : Stmt := inClass (topS 33) 11
theorem scRuleChanged : FnScope ["self", "turn", "reads", "gather", "trim", "lists", "prizes"] ["self", "turn", "reads", "gather", "trim", "lists", "prizes"] (defScope sRuleChanged) := ⟨rfl, rfl, rfl, by decide +kernel, rfl, by decide +kernel, by decide +kernel⟩
abbrev sPartsButReads : Stmt := topS 34
theorem scPartsButReads : FnScope ["rule"] ["rule"] (defScope sPartsButReads) := ⟨rfl, rfl, rfl, by decide +kernel, rfl, by decide +kernel, by decide +kernel⟩
abbrev sIsLikeButForReads : Stmt := topS 35
theorem scIsLikeButForReads : FnScope ["rule", "value"] ["rule", "value"] (defScope sIsLikeButForReads) := ⟨rfl, rfl, rfl, by decide +kernel, rfl, by decide +kernel, by decide +kernel⟩
abbrev sOpened : Stmt := topS 37
theorem scOpened : FnScope ["_law_script", "_law_k", "_law_cell", "_law_great"] ["_law_script", "_law_k"] (defScope sOpened) := ⟨rfl, rfl, rfl, by decide +kernel, rfl, by decide +kernel, by decide +kernel⟩
abbrev sDraw : Stmt := topS 38
theorem scDraw : FnScope ["_law_pool", "_law_many", "_law_found"] ["_law_pool", "_law_many"] (defScope sDraw) := ⟨rfl, rfl, rfl, by decide +kernel, rfl, by decide +kernel, by decide +kernel⟩
abbrev sPick : Stmt := topS 39
theorem scPick : FnScope ["_law_pool", "_law_some"] ["_law_pool", "_law_some"] (defScope sPick) := ⟨rfl, rfl, rfl, by decide +kernel, rfl, by decide +kernel, by decide +kernel⟩
abbrev sPeople : Stmt := topS 40
theorem scPeople : FnScope ["_law_pool", "_law_many", "_law_menu", "_law_found", "_law_step"] ["_law_pool", "_law_many"] (defScope sPeople) := ⟨rfl, rfl, rfl, by decide +kernel, rfl, by decide +kernel, by decide +kernel⟩
abbrev sPairs : Stmt := topS 41
theorem scPairs : FnScope ["_law_people_here", "_law_found", "_law_one", "_law_other"] ["_law_people_here"] (defScope sPairs) := ⟨rfl, rfl, rfl, by decide +kernel, rfl, by decide +kernel, by decide +kernel⟩
abbrev sParted : Stmt := topS 42
theorem scParted : FnScope ["_law_pool", "_law_people_here", "_law_many", "_law_found", "_law_where", "_law_person", "_law_number", "_law_at"] ["_law_pool", "_law_people_here"] (defScope sParted) := ⟨rfl, rfl, rfl, by decide +kernel, rfl, by decide +kernel, by decide +kernel⟩
abbrev sUnlike : Stmt := topS 43
theorem scUnlike : FnScope ["_law_some", "_law_at", "_law_one"] ["_law_some"] (defScope sUnlike) := ⟨rfl, rfl, rfl, by decide +kernel, rfl, by decide +kernel, by decide +kernel⟩
abbrev sReaders : Stmt := topS 44
theorem scReaders : FnScope ["_law_plan_here", "_law_person", "_law_one"] ["_law_plan_here", "_law_person"] (defScope sReaders) := ⟨rfl, rfl, rfl, by decide +kernel, rfl, by decide +kernel, by decide +kernel⟩
abbrev sList : Stmt := topS 45
theorem scList : FnScope ["_law_plan_here", "_law_person", "_law_members"] ["_law_plan_here", "_law_person"] (defScope sList) := ⟨rfl, rfl, rfl, by decide +kernel, rfl, by decide +kernel, by decide +kernel⟩
abbrev sPlan : Stmt := topS 46
theorem scPlan : FnScope ["_law_pool", "_law_least", "_law_many", "_law_top", "_law_menu", "_law_people_here", "_law_plan_here", "_law_rarely", "_law_pair", "_law_members", "_law_person", "_law_one", "_law_kinds", "_law_counts"] ["_law_pool", "_law_least", "_law_many", "_law_top", "_law_menu"] (defScope sPlan) := ⟨rfl, rfl, rfl, by decide +kernel, rfl, by decide +kernel, by decide +kernel⟩
abbrev sMade : Stmt := topS 47
theorem scMade : FnScope ["_law_plan_here", "_law_one"] ["_law_plan_here"] (defScope sMade) := ⟨rfl, rfl, rfl, by decide +kernel, rfl, by decide +kernel, by decide +kernel⟩
abbrev sFirstWrong : Stmt := topS 48
theorem scFirstWrong : FnScope ["_law_plan_here", "_law_members", "_law_person"] ["_law_plan_here"] (defScope sFirstWrong) := ⟨rfl, rfl, rfl, by decide +kernel, rfl, by decide +kernel, by decide +kernel⟩
abbrev sChanged : Stmt := topS 49
theorem scChanged : FnScope ["_law_rule", "_law_parts", "e"] ["_law_rule", "_law_parts"] (defScope sChanged) := ⟨rfl, rfl, rfl, by decide +kernel, rfl, by decide +kernel, by decide +kernel⟩
abbrev sLaw : Stmt := topS 50
theorem scLaw : FnScope ["_law_script", "_law_names", "_law_k", "_law_pool", "_law_plan_here", "_law_later", "_law_names_of", "_law_one", "_law_two", "_law_members", "_law_pair", "_law_rule", "_law_step", "_law_parts", "_law_part", "_law_due", "_law_wrong", "_law_found"] ["_law_script"] (defScope sLaw) := ⟨rfl, rfl, rfl, by decide +kernel, rfl, by decide +kernel, by decide +kernel⟩
/-! ### the law's own draws -/
section
variable {P : Program} {w : World} {K : PySem.W.Frag} {mg : Str → Option Value} {base : Heap}
structure Bt (mg : Str → Option Value) : Prop where
  len : mg "len" = none
  max : mg "max" = none
  min : mg "min" = none
  int : mg "int" = none
  range : mg "range" = none
theorem ok_opened {f : Addr} {fd : FuncData} (F : Fun K "_law_opened" "_law_opened" sOpened f fd) (B : Bt mg) : FnOk P w K mg base CX0 1 f fd ["_law_script", "_law_k"] (spOpened K) := by
  refine F.ok scOpened (fun vs H Q E h => ?_) (fun cdv A outer s H vs Q E hr h => ?_)
  · obtain ⟨a, ns, k, rfl, _⟩ := h
    rfl
  · obtain ⟨a, ns, k, rfl, hS, hk, q⟩ := h
    refine ⟨_, pss_cons (ps_set (i := 2) scOpened.nd rfl (.inl rfl) (pe_cut (fun _ H v H' => H' = H ∧ ∃ z : Int, v = .int z) (pe_ifExp (pt_cmpR op_lt (pv 1) (pe_callB call_len_seq (by rfl) B.len PySem.boot_len (pa_cons (pv 0) pa_nil)) (nomark _)) (pe_ix ix_list (pv 0) (pv 1) (fun _ _ => rfl)) pe_int)))
      (pss_cons (ps_set (i := 3) scOpened.nd rfl (.inl rfl) (pe_callB (call_max2 rfl) (by rfl) B.max (by decide +kernel) (pa_cons (pe_callTy call_int1 (by rfl) B.int (by decide +kernel) (pa_cons (pv 2) pa_nil))
        (pa_cons (pe_callTy call_int1 (by rfl) B.int (by decide +kernel) (pa_cons (pe_op op_sub (pe_un un_neg pe_int) (pv 2)) pa_nil)) pa_nil))))
      (pss_one (ps_ret (pe_lst (pa_cons (pe_op op_mul (pv 3) (pe_callTy call_int1 (by rfl) B.int (by decide +kernel) (pa_cons (pe_cmpR op_ge (pv 3) (pe_op op_pow pe_int pe_int) (nomark _)) pa_nil)))
        (pa_cons (pe_op op_mod (pe_callTy call_int1 (by rfl) B.int (by decide +kernel) (pa_cons (pe_op op_mul (pe_op op_add (pe_op op_add (pe_op op_mod (pv 3) pe_int) (pe_op op_mul pe_int (pv 1))) pe_int) pe_int) pa_nil)) pe_int) pa_nil)))))), ?_⟩
    refine ⟨?_, ?_⟩
    · -- the cell
      refine ⟨_, rfl, _, rfl, _, _, rfl, .inl hS, _, _, rfl, rfl, _, rfl, ite2 (fun c => ?_) (fun _ => ⟨rfl, 5, rfl⟩)⟩
      have c1 : (k : Int) < ((ns.map V.int).length : Int) := of_decide_eq_true c
      have c2 : k < ns.length := by
        rw [List.length_map] at c1
        omega
      exact ⟨_, rfl, _, rfl, a, _, k, .int ns[k], rfl, rfl, hS, atI_nat (by rw [List.getElem?_map, List.getElem?_eq_getElem c2]; rfl), rfl, _, rfl⟩
    · rintro v H1 ⟨rfl, z, rfl⟩
      refine ⟨_, rfl, .inl ⟨_, rfl, 1, rfl, _, rfl, _, _, rfl, rfl, .inl ⟨_, rfl, _, _, rfl, ?_⟩⟩⟩
      generalize hg : (if (-1 : Int) - z > z then -1 - z else z) = g
      have g0 : 0 ≤ g := by
        rw [← hg]
        split <;> omega
      refine ⟨_, rfl, _, rfl, _, _, rfl, rfl, ⟨by decide, by decide, by decide⟩, _, _, rfl, rfl, .inr ⟨_, rfl, _, _, rfl, rfl, .inr ?_, ?_⟩⟩
      · split <;> omega
      · have km : 0 ≤ g % 2147483629 ∧ g % 2147483629 < 2147483629 := ⟨Int.emod_nonneg _ (by decide), Int.emod_lt_of_pos _ (by decide)⟩
        refine ⟨_, rfl, _, _, rfl, rfl, (by show (0 : Int) < 2147483629; decide), _, rfl, _, _, rfl, rfl, .inl ⟨by omega, by omega⟩, _, _, rfl, rfl, _, _, rfl, rfl, _, _, rfl, rfl, .inr ⟨by decide, by decide⟩, .inl ⟨_, rfl, _, _, rfl, rfl, (by show (0 : Int) < 2147483647; decide), ?_, fun p hp => ?_⟩⟩
        · show 2 ≤ sizeLine
          decide
        · refine newH hp fun H2 s2 h2 => q H2 p s2 hp ⟨_, _, h2, ?_, Int.emod_nonneg _ (by decide), Int.emod_lt_of_pos _ (by decide)⟩
          split
          · omega
          · omega
theorem pool_set0 {g q x : Int} : ([V.int g, V.int q]).set 0 (.int x) = [V.int x, V.int q] := rfl
theorem ok_draw {f : Addr} {fd : FuncData} (F : Fun K "_law_draw" "_law_draw" sDraw f fd) (B : Bt mg) : FnOk P w K mg base CX0 1 f fd ["_law_pool", "_law_many"] spDraw := by
  refine F.ok scDraw (fun vs H Q E h => ?_) (fun cdv A outer s H vs Q E hr h => ?_)
  · obtain ⟨a, m, rfl, _⟩ := h
    rfl
  · obtain ⟨a, m, rfl, ⟨g, q, ha, hg, hq0, hq1⟩, m1, m2, kk⟩ := h
    refine ⟨_, pss_cons (ps_if (pt_cmpR op_gt (pe_ix ix_list (pv 0) pe_int (fun _ _ => rfl)) pe_int (nomark _))
        (pss_cons (ps_set (i := 2) scDraw.nd rfl (.inl rfl) (pe_op op_modN (pe_callTy call_int1 (by rfl) B.int (by decide +kernel) (pa_cons (pe_ix ix_list (pv 0) pe_int (fun _ _ => rfl)) pa_nil)) (pv 1)))
        (pss_cons (ps_asg (pe_op op_fdivN (pe_ix ix_list (pv 0) pe_int (fun _ _ => rfl)) (pv 1)) (pg_sub (pv 0) pe_int set_list)) (pss_one (ps_ret (pv 2))))) pss_nil)
      (pss_cons (ps_asg (pe_op op_mod (pe_callTy call_int1 (by rfl) B.int (by decide +kernel) (pa_cons (pe_op op_add (pe_op op_mul (pe_ix ix_list (pv 0) pe_int (fun _ _ => rfl)) pe_int) pe_int) pa_nil)) pe_int) (pg_sub (pv 0) pe_int set_list))
      (pss_one (ps_ret (pe_op op_modN (pe_op op_fdiv (pe_op op_mod (pe_callTy call_int1 (by rfl) B.int (by decide +kernel) (pa_cons (pe_op op_mul (pe_ix ix_list (pv 0) pe_int (fun _ _ => rfl)) (pe_ix ix_list (pv 0) pe_int (fun _ _ => rfl))) pa_nil)) pe_int) pe_int) (pv 1))))), ?_⟩
    have S0 := SqL.of (K := K) ha
    have x0 : atI [V.int g, V.int q] 0 = some (.int g) := rfl
    have x1 : atI [V.int g, V.int q] 1 = some (.int q) := rfl
    have mnz : m ≠ 0 := by omega
    refine ⟨_, rfl, a, _, 0, _, rfl, rfl, S0, x0, _, _, rfl, rfl, _, rfl, ite2 (fun c => ?_) (fun _ => ?_)⟩
    · refine ⟨_, rfl, a, _, 0, _, rfl, rfl, S0, x0, .inl ⟨_, rfl, _, rfl, _, _, rfl, rfl, mnz, ?_⟩⟩
      refine ⟨_, rfl, a, _, 0, _, rfl, rfl, S0, x0, _, rfl, _, _, rfl, rfl, ⟨mnz, by omega⟩, _, rfl, a, _, 0, 0, rfl, rfl, ha, rfl, ?_⟩
      refine ⟨_, rfl, kk _ _ (Int.fmod_nonneg_of_pos _ (by omega)) (Int.fmod_lt_of_pos _ (by omega)) ⟨g.fdiv m, q, upd_same, Int.fdiv_nonneg hg (by omega), hq0, hq1⟩ But.upd⟩
    · refine ⟨_, rfl, a, _, 1, _, rfl, rfl, S0, x1, _, _, rfl, rfl, .inr ⟨by decide, by decide⟩, _, _, rfl, rfl, .inl ⟨_, rfl, _, _, rfl, rfl, (by show (0 : Int) < 2147483647; decide), ?_⟩⟩
      have z0 : 0 ≤ (q * 39373 + 7) % 2147483647 := Int.emod_nonneg _ (by decide)
      have z1 : (q * 39373 + 7) % 2147483647 < 2147483647 := Int.emod_lt_of_pos _ (by decide)
      refine ⟨_, rfl, a, _, 1, 1, rfl, rfl, ha, rfl, ?_⟩
      have h2 : upd H a (.lst [V.int g, V.int ((q * 39373 + 7) % 2147483647)]) a = some (.lst [V.int g, V.int ((q * 39373 + 7) % 2147483647)]) := upd_same
      have S2 := SqL.of (K := K) h2
      have y1 : atI [V.int g, V.int ((q * 39373 + 7) % 2147483647)] 1 = some (.int ((q * 39373 + 7) % 2147483647)) := rfl
      refine ⟨_, rfl, a, _, 1, _, rfl, rfl, S2, y1, _, rfl, a, _, 1, _, rfl, rfl, S2, y1, _, _, rfl, rfl, .inl ⟨by omega, by omega⟩, .inl ⟨_, rfl, _, _, rfl, rfl, (by show (0 : Int) < 2147483629; decide), _, _, rfl, rfl, ⟨by decide, by decide⟩, _, rfl, _, _, rfl, rfl, mnz, ?_⟩⟩
      exact kk _ _ (Int.fmod_nonneg_of_pos _ (by omega)) (Int.fmod_lt_of_pos _ (by omega)) ⟨g, _, h2, hg, z0, z1⟩ But.upd
end

section
variable {P : Program} {w : World} {K : PySem.W.Frag} {mg : Str → Option Value} {base : Heap}
theorem ok_people {f fD : Addr} {fd fdD : FuncData} (F : Fun K "_law_people" "_law_people" sPeople f fd) (FD : Fun K "_law_draw" "_law_draw" sDraw fD fdD) (bD : Binds K fdD ["_law_pool", "_law_many"] []) (gD : mg "_law_draw" = some (.ref fD)) (B : Bt mg) :
    FnOk P w K mg base CX0 2 f fd ["_law_pool", "_law_many"] spPeople := by
  have GD : FnOk P w K mg base CX0 1 fD fdD ["_law_pool", "_law_many"] spDraw := ok_draw FD B
  refine F.ok scPeople (fun vs H Q E h => ?_) (fun cdv A outer s H vs Q E hr h => ?_)
  · obtain ⟨a, m, rfl, _⟩ := h
    rfl
  · obtain ⟨a, m, rfl, hP, hm, q⟩ := h
    refine ⟨_, pss_cons (ps_par (i := 2) (j := 3) (by rfl) scPeople.nd rfl rfl (by decide) rfl rfl (pa_cons (pe_lst (pa_cons pe_str (pa_cons pe_str (pa_cons pe_str (pa_cons pe_str (pa_cons pe_str (pa_cons pe_str (pa_cons pe_str (pa_cons pe_str pa_nil)))))))))
        (pa_cons (pe_lst pa_nil) pa_nil)) (by rfl))
      (pss_cons (ps_for PassesOwn.never rfl (pi_range1 (by rfl) B.range (pa_cons (pv 1) pa_nil)) (pg_name (i := 4) scPeople.nd rfl (.inl rfl))
        (pss_one (ps_expr (pe_bm PySem.F.plainAttrs_list PySem.F.slot_list_append PySem.F.type_list_append mt_append (pv 3) (pa_cons
          (pe_bm PySem.F.plainAttrs_list PySem.F.slot_list_pop PySem.F.type_list_pop mt_popAt (pv 2) (pa_cons
            (pe_call GD hr (by rfl) gD FD.kp bD .nil pass0 (pa_cons (pv 0) (pa_cons (pe_callB call_len_seq (by rfl) B.len PySem.boot_len (pa_cons (pv 2) pa_nil)) pa_nil))) pa_nil)) pa_nil)))))
      (pss_one (ps_ret (pv 3)))), ?_⟩
    refine ⟨(by show 8 ≤ sizeLine; decide), fun x nx => ?_⟩
    generalize e1 : upd H x _ = H1
    have s1 : Same H H1 := e1 ▸ same_new nx
    have hx : H1 x = some (.lst (names8.map V.str)) := e1 ▸ upd_same
    refine ⟨Nat.zero_le _, fun y ny => ?_⟩
    generalize e2 : upd H1 y _ = H2
    have s2 : Same H1 H2 := e2 ▸ same_new ny
    have hy : H2 y = some (.lst []) := e2 ▸ upd_same
    refine ⟨_, _, rfl, ?_⟩
    have hx2 := s2 _ _ hx
    have nxy : x ≠ y := fun e => by
      rw [e, ny] at hx
      cases hx
    have hP2 : Pool H2 a := by
      obtain ⟨g, r, ha, hb⟩ := hP
      exact ⟨g, r, s2 _ _ (s1 _ _ ha), hb⟩
    have nax : a ≠ x := fun e => by
      obtain ⟨g, r, ha, hb⟩ := hP
      rw [e, nx] at ha
      cases ha
    have nay : a ≠ y := fun e => by
      obtain ⟨g, r, ha, hb⟩ := hP
      have := s1 _ _ ha
      rw [e, ny] at this
      cases this
    refine ⟨_, rfl, m, rfl, by omega, by omega, for_range (lo := 0) (n := (m : Int).toNat) (fun i σ H' => ∃ (v : Option V) (menu found : List Str), σ = [some (.ref a), some (.int m), some (.ref x), some (.ref y), v] ∧ Pool H' a ∧ But a H H' ∧
      H' x = some (.lst (menu.map V.str)) ∧ H' y = some (.lst (found.map V.str)) ∧ found.length = i ∧ (found ++ menu).Perm names8)
      ⟨none, names8, [], rfl, hP2, But.of_same (s1.trans s2), hx2, hy, rfl, .refl _⟩ ?_ ?_⟩
    · rintro i σ H3 hi ⟨v, menu, found, rfl, hP3, hB, hx3, hy3, hl, hp⟩
      have len8 : found.length + menu.length = 8 := by
        have := hp.length_eq
        rw [List.length_append] at this
        exact this
      refine ⟨_, rfl, .inl ⟨rfl, _, SqL.of hy3⟩, _, rfl, .inl ⟨rfl, _, SqL.of hx3⟩, _, rfl, _, rfl, x, _, rfl, .inl (SqL.of hx3), ?_⟩
      refine ⟨a, _, rfl, hP3, by rw [List.length_map]; omega, by rw [List.length_map]; omega, fun r H4 r0 r1 hP4 hB4 => ?_⟩
      have hx4 := hB4 _ _ (Ne.symm nax) hx3
      have hy4 := hB4 _ _ (Ne.symm nay) hy3
      rw [List.length_map] at r1
      have hk : r.toNat < menu.length := by omega
      have hk' : menu[r.toNat]? = some menu[r.toNat] := List.getElem?_eq_getElem hk
      refine ⟨x, _, r, r.toNat, .str menu[r.toNat], rfl, rfl, hx4, by omega, by omega, seqIndex_of r0 (by rw [List.length_map]; omega), by rw [List.getElem?_map, hk']; rfl, ?_⟩
      have hy5 : upd H4 x (.lst ((menu.map V.str).eraseIdx r.toNat)) y = some (.lst (found.map V.str)) := by
        rw [upd_ne (Ne.symm nxy)]
        exact hy4
      refine ⟨y, _, _, rfl, rfl, hy5, by rw [List.length_map]; exact small1000 (by omega), ?_⟩
      refine ⟨_, menu.eraseIdx r.toNat, found ++ [menu[r.toNat]], rfl, ?_, ?_, ?_, ?_, ?_, ?_⟩
      · obtain ⟨g, z, ha, hb⟩ := hP4
        exact ⟨g, z, by rw [upd_ne nay, upd_ne nax]; exact ha, hb⟩
      · intro b o hb e
        have nbx : b ≠ x := fun z => by
          rw [z, nx] at e
          cases e
        have nby : b ≠ y := fun z => by
          have := s1 _ _ e
          rw [z, ny] at this
          cases this
        rw [upd_ne nby, upd_ne nbx]
        exact hB4 b o hb (hB b o hb e)
      · rw [upd_ne nxy, upd_same, eraseIdx_map]
      · rw [upd_same, List.map_append]
        rfl
      · rw [List.length_append, hl]
        rfl
      · rw [List.append_assoc]
        exact ((perm_pop hk').append_left found).trans hp
    · rintro σ H3 ⟨v, menu, found, rfl, hP3, hB, hx3, hy3, hl, hp⟩
      have nd : (found ++ menu).Nodup := hp.nodup_iff.mpr names8_nd
      exact ⟨_, rfl, q H3 y found hP3 hB (s1.free ny) hy3 (by omega) (List.nodup_append.mp nd).1 fun z hz => hp.mem_iff.mp (List.mem_append_left _ hz)⟩
end

/-! ### the program: integers, words, people -/
structure Tx (mg : Str → Option Value) : Prop where
  isi : mg "isinstance" = none
  str : mg "str" = none
  bool : mg "bool" = none
  list : mg "list" = none
  tuple : mg "tuple" = none
  set : mg "set" = none
  all : mg "all" = none
  letters : ∃ t, mg "LETTERS" = some (.str letters t)
  longest : ∃ t, mg "LONGEST" = some (.int 8 t)
  mostP : ∃ t, mg "MOST_PEOPLE" = some (.int 8 t)
  greatest : ∃ t, mg "GREATEST_MARK" = some (.int 10 t)
section
variable {P : Program} {w : World} {K : PySem.W.Frag} {mg : Str → Option Value} {base : Heap}
theorem ok_isInteger {f : Addr} {fd : FuncData} (F : Fun K "is_integer" "is_integer" sIsInteger f fd) (B : Bt mg) (T : Tx mg) : FnOk P w K mg base CX0 1 f fd ["value"] (spIsInteger K) := by
  refine F.ok scIsInteger (fun vs H Q E h => ?_) (fun cdv A outer s H vs Q E hr h => ?_)
  · obtain ⟨v, T, rfl, _⟩ := h
    rfl
  · obtain ⟨v, N, rfl, ⟨ty, hk⟩, q⟩ := h
    refine ⟨_, pss_one (ps_ret (pe_and (pe_callB call_isi (by rfl) T.isi (by decide +kernel) (pa_cons (pv 0) (pa_cons (pe_bltn (v := .ty "int") (by rfl) B.int (by decide +kernel) rfl) pa_nil)))
      (pe_one (pe_not (pe_callB call_isi (by rfl) T.isi (by decide +kernel) (pa_cons (pv 0) (pa_cons (pe_bltn (v := .ty "bool") (by rfl) T.bool (by decide +kernel) rfl) pa_nil))))))), ?_⟩
    refine ⟨_, rfl, v, .ty "int", _, _, _, rfl, .ty "int", ty, kit_ty (kit_int hk), _, rfl, ite2 (fun c => ?_) (fun c => ?_)⟩
    · refine ⟨_, rfl, v, .ty "bool", _, _, _, rfl, .ty "bool", ty, kit_ty (kit_bool hk), _, rfl, ?_⟩
      have e : (!decide (N = "bool")) = decide (N = "int") := by
        by_cases h1 : N = "bool"
        · subst h1
          rfl
        · rw [decide_eq_false h1, Bool.or_false] at c
          rw [decide_eq_false h1, c]
          rfl
      rw [e]
      exact q
    · have e : decide (N = "int") = false := by
        cases h1 : decide (N = "int") with
        | false => rfl
        | true =>
          rw [h1] at c
          exact absurd rfl c
      rw [e] at q
      exact q
theorem ok_within {f fI : Addr} {fd fdI : FuncData} (F : Fun K "is_integer_within" "is_integer_within" sIsIntegerWithin f fd) (FI : Fun K "is_integer" "is_integer" sIsInteger fI fdI) (bI : Binds K fdI ["value"] []) (gI : mg "is_integer" = some (.ref fI)) (B : Bt mg) (T : Tx mg) :
    FnOk P w K mg base CX0 2 f fd ["value", "least", "most"] (spWithin K) := by
  have GI : FnOk P w K mg base CX0 1 fI fdI ["value"] (spIsInteger K) := ok_isInteger FI B T
  refine F.ok scIsIntegerWithin (fun vs H Q E h => ?_) (fun cdv A outer s H vs Q E hr h => ?_)
  · obtain ⟨v, lo, hi, rfl, _⟩ := h
    rfl
  · obtain ⟨v, lo, hi, rfl, ⟨N, ty⟩, q⟩ := h
    refine ⟨_, pss_one (ps_ret (pe_and (pe_call GI hr (by rfl) gI FI.kp bI .nil pass0 (pa_cons (pv 0) pa_nil)) (pe_one (pe_chain op_le op_le (pv 1) (pv 0) (pv 2))))), ?_⟩
    refine ⟨_, rfl, v, N, rfl, ty, _, rfl, ite2 (fun c => ?_) (fun c => ?_)⟩
    · have e : N = "int" := of_decide_eq_true c
      subst e
      obtain ⟨i, rfl⟩ := ty_int ty.1
      refine ⟨_, rfl, _, rfl, _, _, rfl, rfl, _, rfl, ite2 (fun c1 => ?_) (fun c1 => ?_)⟩
      · refine ⟨_, rfl, _, _, rfl, rfl, ?_⟩
        have e : markB lo hi (.int i) = decide (i ≤ hi) := by
          show (decide (lo ≤ i) && decide (i ≤ hi)) = _
          rw [show decide (lo ≤ i) = true from c1, Bool.true_and]
        rw [e] at q
        exact q
      · have e : markB lo hi (.int i) = false := by
          show (decide (lo ≤ i) && decide (i ≤ hi)) = _
          rw [show decide (lo ≤ i) = false from Bool.eq_false_iff.mpr c1, Bool.false_and]
        rw [e] at q
        exact q
    · have e : markB lo hi v = false := by
        cases v with
        | int i => exact absurd (decide_eq_true (int_ty ty.1)) c
        | _ => rfl
      rw [e] at q
      exact q
theorem ok_isWord {f : Addr} {fd : FuncData} (F : Fun K "is_word" "is_word" sIsWord f fd) (B : Bt mg) (T : Tx mg) : FnOk P w K mg base CX0 1 f fd ["value"] (spIsWord K) := by
  obtain ⟨t1, g1⟩ := T.letters
  obtain ⟨t2, g2⟩ := T.longest
  refine F.ok scIsWord (fun vs H Q E h => ?_) (fun cdv A outer s H vs Q E hr h => ?_)
  · obtain ⟨v, rfl, _⟩ := h
    rfl
  · obtain ⟨v, rfl, ⟨⟨N, ty, hk⟩, hz⟩, q⟩ := h
    refine ⟨_, pss_cons (ps_if (PW.pt (pw_or (pt_not (pt_val (pe_callB call_isi (by rfl) T.isi (by decide +kernel) (pa_cons (pv 0) (pa_cons (pe_bltn (v := .ty "str") (by rfl) T.str (by decide +kernel) rfl) pa_nil)))))
        (pw_or1 (pt_not (pt_chain op_le op_le pe_int (pe_callB call_len (by rfl) B.len PySem.boot_len (pa_cons (pv 0) pa_nil)) (pe_glob (v := .int 8) (by rfl) g2 ⟨_, rfl⟩)))))) (pss_one (ps_ret pe_bl)) pss_nil)
      (pss_one (ps_ret (pe_callB (cr_all rfl) (by rfl) T.all (by decide +kernel) (pa_cons (pe_lc (own := [("sign", 1)]) (g := gName 1) (by rfl) scIsWord.nd (pi_str (pv 0)) (blkOk_by (own := [("sign", 1)]) (N := ["value", "sign"]) (sc := defScope sIsWord) (by decide +kernel))
        (fun _ _ _ _ _ => pg_name (i := 1) scIsWord.nd rfl (Or.inl rfl)) (fun _ _ _ _ _ => pts_nil) (fun _ _ _ _ _ => pe_cmpR op_in_sign (pv 1) (pe_glob (v := .str letters) (by rfl) g1 ⟨_, rfl⟩) (by rfl))) pa_nil)))), ?_⟩
    refine ⟨_, rfl, v, .ty "str", _, _, _, rfl, .ty "str", ty, kit_ty (kit_str hk), _, rfl, ?_⟩
    by_cases hs : N = "str"
    · subst hs
      obtain ⟨z, rfl⟩ := ty_str ty
      have hl := hz z rfl
      refine iteF ?_
      refine ⟨_, rfl, _, z.length, rfl, ⟨Nat.le_trans hl (by decide), rfl⟩, _, _, rfl, rfl, _, rfl, ite2 (fun c1 => ?_) (fun c1 => ?_)⟩
      · have h1 : 1 ≤ z.length := by
          have := of_decide_eq_true c1
          omega
        refine ⟨_, _, rfl, rfl, _, rfl, ?_⟩
        by_cases h2 : z.length ≤ 8
        · have h2' : decide (((z.length : Nat) : Int) ≤ 8) = true := decide_eq_true (by omega)
          rw [h2']
          refine iteF ?_
          refine ⟨_, rfl, z, rfl, fun D nD => ?_⟩
          refine lc_map (ys := (z.cps.toList.map fun c => decide (c ∈ letters.cps.toList)).map V.bl) walk_kmSigns (by unfold kmSigns; simp) ?_ nD (fun _ _ => trivial) (fun _ => rfl) (fun i x y H1 Q1 hx hy s1 k => ?_) (fun H1 s1 hD => ?_)
          · have : (kmSigns z).length = z.length := by
              unfold kmSigns
              rw [List.length_map, Array.length_toList]
              rfl
            rw [this]
            exact small1000 hl
          · unfold kmSigns at hx
            rw [List.getElem?_map] at hx hy
            rw [List.getElem?_map] at hy
            cases hc : z.cps.toList[i]? with
            | none =>
              rw [hc] at hx
              cases hx
            | some c =>
              rw [hc] at hx hy
              obtain rfl := Option.some.inj hx
              obtain rfl := Option.some.inj hy
              exact ⟨_, rfl, c, letters, rfl, rfl, k H1 (Same.refl H1)⟩
          · refine ⟨D, _, rfl, SqL.of hD, ?_⟩
            have e : isW (.str z) = (z.cps.toList.map fun c => decide (c ∈ letters.cps.toList)).all id := by
              show ((decide (1 ≤ z.length) && decide (z.length ≤ 8)) && _) = _
              rw [decide_eq_true h1, decide_eq_true h2, Bool.true_and, Bool.true_and, List.all_map]
              rfl
            rw [← e]
            exact q H1 s1
        · have h2' : decide (((z.length : Nat) : Int) ≤ 8) = false := decide_eq_false (by omega)
          rw [h2']
          refine iteT ?_
          have e : isW (.str z) = false := by
            show ((decide (1 ≤ z.length) && decide (z.length ≤ 8)) && _) = false
            rw [decide_eq_false h2, Bool.and_false, Bool.false_and]
          rw [e] at q
          exact q H (Same.refl H)
      · have h1 : ¬ 1 ≤ z.length := fun h => c1 (decide_eq_true (by omega))
        refine ⟨_, rfl, iteT ?_⟩
        have e : isW (.str z) = false := by
          show ((decide (1 ≤ z.length) && decide (z.length ≤ 8)) && _) = false
          rw [decide_eq_false h1, Bool.false_and, Bool.false_and]
        rw [e] at q
        exact q H (Same.refl H)
    · have e : decide (N = "str") = false := decide_eq_false hs
      rw [e]
      refine iteT (iteT ?_)
      have e2 : isW v = false := by
        cases v with
        | str z => exact absurd (str_ty ty) hs
        | _ => rfl
      rw [e2] at q
      exact q H (Same.refl H)
end

section
variable {P : Program} {w : World} {K : PySem.W.Frag} {mg : Str → Option Value} {base : Heap}
/-- the law of a list's or a tuple's items, given how it is walked and measured -/
theorem ok_arePeople {f fW : Addr} {fd fdW : FuncData} (F : Fun K "are_people" "are_people" sArePeople f fd) (FW : Fun K "is_word" "is_word" sIsWord fW fdW) (bW : Binds K fdW ["value"] []) (gW : mg "is_word" = some (.ref fW)) (B : Bt mg) (T : Tx mg) :
    FnOk P w K mg base CX0 2 f fd ["value"] (spArePeople K) := by
  have GW : FnOk P w K mg base CX0 1 fW fdW ["value"] (spIsWord K) := ok_isWord FW B T
  obtain ⟨t1, g1⟩ := T.mostP
  refine F.ok scArePeople (fun vs H Q E h => ?_) (fun cdv A outer s H vs Q E hr h => ?_)
  · obtain ⟨v, b, xs, rfl, _⟩ := h
    rfl
  · obtain ⟨v, b, xs, rfl, ha, q⟩ := h
    cases ha with
    | @no _ N t h1 h2 =>
      refine ⟨_, pss_cons (ps_if (PW.pt (pw_or (pt_not (pt_val (pe_callB call_isiT (by rfl) T.isi (by decide +kernel) (pa_cons (pv 0) (pa_cons (pe_tup (pa_cons (pe_bltn (v := .ty "list") (by rfl) T.list (by decide +kernel) rfl) (pa_cons (pe_bltn (v := .ty "tuple") (by rfl) T.tuple (by decide +kernel) rfl) pa_nil))) pa_nil)))))
          (pw_or1 (pt_not (pt_chain op_le op_le pe_int (pe_callB call_len_seq (by rfl) B.len PySem.boot_len (pa_cons (pv 0) pa_nil)) (pe_glob (v := .int 8) (by rfl) g1 ⟨_, rfl⟩)))))) (pss_one (ps_ret pe_bl)) pss_nil)
        (pss_one ps_never), ?_⟩
      refine ⟨_, rfl, (by show 2 ≤ sizeLine; decide), fun p np => ?_⟩
      refine ⟨v, p, _, _, _, _, rfl, upd_same, .cons (.ty "list") (.cons (.ty "tuple") .nil), TyX.same (same_new np) t.1, kit_listTuple t.2, _, rfl, ?_⟩
      rw [decide_eq_false h1, decide_eq_false h2]
      exact iteT (iteT (q _ (same_new np)))
    | @lst a _ e hx hl =>
      refine ⟨_, pss_cons (ps_if (PW.pt (pw_or (pt_not (pt_val (pe_callB call_isiT (by rfl) T.isi (by decide +kernel) (pa_cons (pv 0) (pa_cons (pe_tup (pa_cons (pe_bltn (v := .ty "list") (by rfl) T.list (by decide +kernel) rfl) (pa_cons (pe_bltn (v := .ty "tuple") (by rfl) T.tuple (by decide +kernel) rfl) pa_nil))) pa_nil)))))
          (pw_or1 (pt_not (pt_chain op_le op_le pe_int (pe_callB call_len_seq (by rfl) B.len PySem.boot_len (pa_cons (pv 0) pa_nil)) (pe_glob (v := .int 8) (by rfl) g1 ⟨_, rfl⟩)))))) (pss_one (ps_ret pe_bl)) pss_nil)
        (pss_one (ps_ret (pe_and (pe_callB (cr_all rfl) (by rfl) T.all (by decide +kernel) (pa_cons (pe_lc (own := [("person", 1)]) (g := gName 1) (by rfl) scArePeople.nd (pi_list (pv 0)) (blkOk_by (own := [("person", 1)]) (N := ["value", "person"]) (sc := defScope sArePeople) (by decide +kernel))
            (fun _ _ _ _ _ => pg_name (i := 1) scArePeople.nd rfl (Or.inl rfl)) (fun _ _ _ _ _ => pts_nil) (fun _ _ _ _ _ => pe_call GW (by exact hr) (by rfl) gW FW.kp bW .nil pass0 (pa_cons (pv 1) pa_nil))) pa_nil))
          (pe_one (pe_cmpR op_eq (pe_callB cr_lenK (by rfl) B.len PySem.boot_len (pa_cons (pe_callTy (cr_setK rfl) (by rfl) T.set (by decide +kernel) (pa_cons (pv 0) pa_nil)) pa_nil)) (pe_callB call_len_seq (by rfl) B.len PySem.boot_len (pa_cons (pv 0) pa_nil)) (nomark _)))))), ?_⟩
      refine ⟨_, rfl, (by show 2 ≤ sizeLine; decide), fun p np => ?_⟩
      refine ⟨_, p, _, _, _, _, rfl, upd_same, .cons (.ty "list") (.cons (.ty "tuple") .nil), .base (.lst (same_new np _ _ e)), kit_listTuple (by decide), _, rfl, ?_⟩
      refine iteF ?_
      generalize e1 : upd H p _ = H1
      have s1 : Same H H1 := e1 ▸ same_new np
      have ha1 := s1 _ _ e
      refine ⟨_, rfl, a, xs, rfl, .inl (SqL.of ha1), _, _, rfl, rfl, _, rfl, ite2 (fun c1 => ?_) (fun c1 => ?_)⟩
      · have h1 : 1 ≤ xs.length := by
          have := of_decide_eq_true c1
          omega
        refine ⟨_, _, rfl, rfl, _, rfl, ?_⟩
        by_cases h2 : xs.length ≤ 8
        · rw [show decide (((xs.length : Nat) : Int) ≤ 8) = true from decide_eq_true (by omega)]
          refine iteF ?_
          refine ⟨_, rfl, a, rfl, ⟨xs, SqL.of ha1⟩, fun D nD => ?_⟩
          refine lc_map (ys := (xs.map isW).map V.bl) (w := walk_list (K := K) (a := a) (xs := xs)) (by simp) (small1000 hl) nD (fun H2 s2 => SqL.of (s2 _ _ ha1)) (fun _ => rfl) (fun i x y H2 Q2 hxi hyi s2 k => ?_) (fun H2 s2 hD => ?_)
          · rw [List.getElem?_map, List.getElem?_map, hxi] at hyi
            obtain rfl := Option.some.inj hyi
            exact ⟨_, rfl, x, rfl, (hx x (List.mem_of_getElem? hxi)).same (s1.trans s2), fun H3 s3 => k H3 s3⟩
          · refine ⟨D, xs.map isW, rfl, SqL.of hD, _, rfl, ite2 (fun c2 => ?_) (fun c2 => ?_)⟩
            · have c3 : xs.all isW = true := by
                rw [List.all_map] at c2
                exact c2
              obtain ⟨zs, rfl⟩ := strs_of_isW c3
              refine ⟨_, rfl, a, zs.map Sum.inr, rfl, .inl (by rw [← keys_of_strs]; exact SqL.of (s2 _ _ ha1)), (by rw [List.length_map] at hl ⊢; exact hl), fun r nr => ?_⟩
              refine ⟨r, _, _, rfl, upd_same, ?_, _, rfl, a, _, rfl, .inl (SqL.of (same_new nr _ _ (s2 _ _ ha1))), rfl, ?_⟩
              · have := Km.uniq_le (zs.map (Sum.inr : Str → Key))
                rw [List.length_map] at this hl
                omega
              · rw [uniq_strs]
                have e2 : peopleB (zs.map V.str) = decide (zs.map V.str).Nodup := by
                  show ((decide (1 ≤ (zs.map V.str).length) && decide ((zs.map V.str).length ≤ 8)) && ((zs.map V.str).all isW && _)) = _
                  rw [decide_eq_true h1, decide_eq_true h2, c3, Bool.true_and, Bool.true_and, Bool.true_and]
                rw [← e2]
                exact q _ ((s1.trans s2).trans (same_new nr))
            · have e2 : peopleB xs = false := by
                show ((decide (1 ≤ xs.length) && decide (xs.length ≤ 8)) && (xs.all isW && _)) = _
                have : xs.all isW = false := by
                  cases z : xs.all isW with
                  | false => rfl
                  | true =>
                    refine absurd ?_ c2
                    rw [List.all_map]
                    exact z
                rw [this, Bool.false_and, Bool.and_false]
              rw [e2] at q
              exact q H2 (s1.trans s2)
        · rw [show decide (((xs.length : Nat) : Int) ≤ 8) = false from decide_eq_false (by omega)]
          refine iteT ?_
          have e2 : peopleB xs = false := by
            show ((decide (1 ≤ xs.length) && decide (xs.length ≤ 8)) && _) = false
            rw [decide_eq_false h2, Bool.and_false, Bool.false_and]
          rw [e2] at q
          exact q H1 s1
      · have h1 : ¬ 1 ≤ xs.length := fun h => c1 (decide_eq_true (by omega))
        refine ⟨_, rfl, iteT ?_⟩
        have e2 : peopleB xs = false := by
          show ((decide (1 ≤ xs.length) && decide (xs.length ≤ 8)) && _) = false
          rw [decide_eq_false h1, Bool.false_and, Bool.false_and]
        rw [e2] at q
        exact q H1 s1
    | @tup a _ e hx hl =>
      refine ⟨_, pss_cons (ps_if (PW.pt (pw_or (pt_not (pt_val (pe_callB call_isiT (by rfl) T.isi (by decide +kernel) (pa_cons (pv 0) (pa_cons (pe_tup (pa_cons (pe_bltn (v := .ty "list") (by rfl) T.list (by decide +kernel) rfl) (pa_cons (pe_bltn (v := .ty "tuple") (by rfl) T.tuple (by decide +kernel) rfl) pa_nil))) pa_nil)))))
          (pw_or1 (pt_not (pt_chain op_le op_le pe_int (pe_callB call_len_seq (by rfl) B.len PySem.boot_len (pa_cons (pv 0) pa_nil)) (pe_glob (v := .int 8) (by rfl) g1 ⟨_, rfl⟩)))))) (pss_one (ps_ret pe_bl)) pss_nil)
        (pss_one (ps_ret (pe_and (pe_callB (cr_all rfl) (by rfl) T.all (by decide +kernel) (pa_cons (pe_lc (own := [("person", 1)]) (g := gName 1) (by rfl) scArePeople.nd (pi_tup (pv 0)) (blkOk_by (own := [("person", 1)]) (N := ["value", "person"]) (sc := defScope sArePeople) (by decide +kernel))
            (fun _ _ _ _ _ => pg_name (i := 1) scArePeople.nd rfl (Or.inl rfl)) (fun _ _ _ _ _ => pts_nil) (fun _ _ _ _ _ => pe_call GW (by exact hr) (by rfl) gW FW.kp bW .nil pass0 (pa_cons (pv 1) pa_nil))) pa_nil))
          (pe_one (pe_cmpR op_eq (pe_callB cr_lenK (by rfl) B.len PySem.boot_len (pa_cons (pe_callTy (cr_setK rfl) (by rfl) T.set (by decide +kernel) (pa_cons (pv 0) pa_nil)) pa_nil)) (pe_callB call_len_seq (by rfl) B.len PySem.boot_len (pa_cons (pv 0) pa_nil)) (nomark _)))))), ?_⟩
      refine ⟨_, rfl, (by show 2 ≤ sizeLine; decide), fun p np => ?_⟩
      refine ⟨_, p, _, _, _, _, rfl, upd_same, .cons (.ty "list") (.cons (.ty "tuple") .nil), .base (.tup (same_new np _ _ e)), kit_listTuple (by decide), _, rfl, ?_⟩
      refine iteF ?_
      generalize e1 : upd H p _ = H1
      have s1 : Same H H1 := e1 ▸ same_new np
      have ha1 := s1 _ _ e
      refine ⟨_, rfl, a, xs, rfl, .inr (SqT.of ha1), _, _, rfl, rfl, _, rfl, ite2 (fun c1 => ?_) (fun c1 => ?_)⟩
      · have h1 : 1 ≤ xs.length := by
          have := of_decide_eq_true c1
          omega
        refine ⟨_, _, rfl, rfl, _, rfl, ?_⟩
        by_cases h2 : xs.length ≤ 8
        · rw [show decide (((xs.length : Nat) : Int) ≤ 8) = true from decide_eq_true (by omega)]
          refine iteF ?_
          refine ⟨_, rfl, a, rfl, ⟨xs, SqT.of ha1⟩, fun D nD => ?_⟩
          refine lc_map (ys := (xs.map isW).map V.bl) (w := walk_tup (K := K) (a := a) (xs := xs)) (by simp) (small1000 hl) nD (fun H2 s2 => SqT.of (s2 _ _ ha1)) (fun _ => rfl) (fun i x y H2 Q2 hxi hyi s2 k => ?_) (fun H2 s2 hD => ?_)
          · rw [List.getElem?_map, List.getElem?_map, hxi] at hyi
            obtain rfl := Option.some.inj hyi
            exact ⟨_, rfl, x, rfl, (hx x (List.mem_of_getElem? hxi)).same (s1.trans s2), fun H3 s3 => k H3 s3⟩
          · refine ⟨D, xs.map isW, rfl, SqL.of hD, _, rfl, ite2 (fun c2 => ?_) (fun c2 => ?_)⟩
            · have c3 : xs.all isW = true := by
                rw [List.all_map] at c2
                exact c2
              obtain ⟨zs, rfl⟩ := strs_of_isW c3
              refine ⟨_, rfl, a, zs.map Sum.inr, rfl, .inr (by rw [← keys_of_strs]; exact SqT.of (s2 _ _ ha1)), (by rw [List.length_map] at hl ⊢; exact hl), fun r nr => ?_⟩
              refine ⟨r, _, _, rfl, upd_same, ?_, _, rfl, a, _, rfl, .inr (SqT.of (same_new nr _ _ (s2 _ _ ha1))), rfl, ?_⟩
              · have := Km.uniq_le (zs.map (Sum.inr : Str → Key))
                rw [List.length_map] at this hl
                omega
              · rw [uniq_strs]
                have e2 : peopleB (zs.map V.str) = decide (zs.map V.str).Nodup := by
                  show ((decide (1 ≤ (zs.map V.str).length) && decide ((zs.map V.str).length ≤ 8)) && ((zs.map V.str).all isW && _)) = _
                  rw [decide_eq_true h1, decide_eq_true h2, c3, Bool.true_and, Bool.true_and, Bool.true_and]
                rw [← e2]
                exact q _ ((s1.trans s2).trans (same_new nr))
            · have e2 : peopleB xs = false := by
                show ((decide (1 ≤ xs.length) && decide (xs.length ≤ 8)) && (xs.all isW && _)) = _
                have : xs.all isW = false := by
                  cases z : xs.all isW with
                  | false => rfl
                  | true =>
                    refine absurd ?_ c2
                    rw [List.all_map]
                    exact z
                rw [this, Bool.false_and, Bool.and_false]
              rw [e2] at q
              exact q H2 (s1.trans s2)
        · rw [show decide (((xs.length : Nat) : Int) ≤ 8) = false from decide_eq_false (by omega)]
          refine iteT ?_
          have e2 : peopleB xs = false := by
            show ((decide (1 ≤ xs.length) && decide (xs.length ≤ 8)) && _) = false
            rw [decide_eq_false h2, Bool.and_false, Bool.false_and]
          rw [e2] at q
          exact q H1 s1
      · have h1 : ¬ 1 ≤ xs.length := fun h => c1 (decide_eq_true (by omega))
        refine ⟨_, rfl, iteT ?_⟩
        have e2 : peopleB xs = false := by
          show ((decide (1 ≤ xs.length) && decide (xs.length ≤ 8)) && _) = false
          rw [decide_eq_false h1, Bool.false_and, Bool.false_and]
        rw [e2] at q
        exact q H1 s1
end

section
variable {P : Program} {w : World} {K : PySem.W.Frag} {mg : Str → Option Value} {base : Heap}
theorem ok_badCrowdInit {f C : Addr} {fd : FuncData} (F : Fun K "__init__" "BadCrowd.__init__" sBadCrowdInit f fd) : FnOk P w K mg base CX0 1 f fd ["self", "part"] (spErrInit K C "part") := by
  refine F.ok scBadCrowdInit (fun vs H Q E h => ?_) (fun cdv A outer s H vs Q E hr h => ?_)
  · obtain ⟨a, v, rfl, _⟩ := h
    rfl
  · obtain ⟨a, v, rfl, ox, nf, ha, q⟩ := h
    refine ⟨_, pss_one (ps_ost (f := "part") (pv 0) (pv 1)), ?_⟩
    exact ⟨_, rfl, _, rfl, a, C, rfl, ox, nf, .inl ⟨ha, fun d nd ne => q d nd ne⟩⟩
end
section
variable {P : Program} {w : World} {K : PySem.W.Frag} {mg : Str → Option Value} {base : Heap}
theorem ok_crowdNew {f fA fN fB C CB : Addr} {fd fdA fdN fdB : FuncData} (F : Fun K "__init__" "Crowd.__init__" sCrowdInit f fd)
    (GA : FnOk P w K mg base CX0 2 fA fdA ["value"] (spArePeople K)) (kA : PySem.W.keepIn K (.ref fA) = true) (bA : Binds K fdA ["value"] []) (gA : mg "are_people" = some (.ref fA))
    (GN : FnOk P w K mg base CX0 2 fN fdN ["value", "least", "most"] (spWithin K)) (kN : PySem.W.keepIn K (.ref fN) = true) (bN : Binds K fdN ["value", "least", "most"] []) (gN : mg "is_integer_within" = some (.ref fN))
    (GB : FnOk P w K mg base CX0 1 fB fdB ["self", "part"] (spErrInit K CB "part")) (bB : Binds K fdB ["self", "part"] []) (iB : PySem.W.findIn K (.ref CB) "__init__" = some (some (.ref fB))) (tB : PySem.W.typeIn K (.ref fB) = some (.type "function"))
    (EB : Er K mg "BadCrowd" CB) (nf : PySem.W.findIn K (.ref CB) "part" = some none) (cl : Cls K C) (n1 : NoAttr K C "_people") (n2 : NoAttr K C "most") (T : Tx mg) :
    FnOk P w K mg base (L2.CX P w) 3 f fd ["self", "people", "most"] (spCrowdNew K C CB) := by
  obtain ⟨t1, g1⟩ := T.greatest
  refine F.okX scCrowdInit (fun vs H Q E h => ?_) (fun cdv A outer s H vs Q E hr h => ?_)
  · obtain ⟨x, dx, v, m, b, xs, rfl, _⟩ := h
    rfl
  · obtain ⟨x, dx, v, m, b, xs, rfl, hx, ha, ⟨N, tm⟩, qp, qm, q⟩ := h
    refine ⟨_, pss_cons (ps_if (pt_not (pt_val (pe_call GA hr (by rfl) gA kA bA .nil pass0 (pa_cons (pv 1) pa_nil)))) (pss_one (ps_raise rfl (takes_of rfl rfl rfl rfl) (pmk_oex EB.ox iB tB GB hr bB .nil pass0 (by rfl) EB.g (pa_cons pe_str pa_nil)))) pss_nil)
      (pss_cons (ps_if (pt_not (pt_val (pe_call GN hr (by rfl) gN kN bN .nil pass0 (pa_cons (pv 2) (pa_cons pe_int (pa_cons (pe_glob (v := .int 10) (by rfl) g1 ⟨_, rfl⟩) pa_nil)))))) (pss_one (ps_raise rfl (takes_of rfl rfl rfl rfl) (pmk_oex EB.ox iB tB GB hr bB .nil pass0 (by rfl) EB.g (pa_cons pe_str pa_nil)))) pss_nil)
      (pss_cons (ps_fld (pv 0) (pe_callTy call_list_of (by rfl) T.list (by decide +kernel) (pa_cons (pv 1) pa_nil)) rfl)
      (pss_one (ps_fld (pv 0) (pv 2) rfl)))), ?_⟩
    refine ⟨_, rfl, v, b, xs, rfl, ha, fun H1 s1 => ⟨b, rfl, ?_⟩⟩
    cases b with
    | false =>
      refine iteT ⟨(by show 1 ≤ 1000; decide), fun a na => ⟨a, _, rfl, EB.ox, nf, upd_same, fun d nd nda => ?_⟩⟩
      have nd1 : H1 d = none := by
        rw [upd_ne nda] at nd
        exact nd
      refine ⟨rfl, d, _, upd_same, by rw [upd_ne nda, upd_same], nd1, ?_⟩
      obtain ⟨r1, r2, r3⟩ := raised_mk (C := CB) (f := "part") (v := V.str "people") na nd1 nda
      exact qp rfl _ d ⟨s1.trans r1, s1.free r2, r3⟩
    | true =>
      refine iteF ?_
      refine ⟨_, rfl, m, 1, 10, rfl, ⟨N, tm.same s1⟩, _, rfl, ?_⟩
      cases hm : markB 1 10 m with
      | false =>
        refine iteT ⟨(by show 1 ≤ 1000; decide), fun a na => ⟨a, _, rfl, EB.ox, nf, upd_same, fun d nd nda => ?_⟩⟩
        have nd1 : H1 d = none := by
          rw [upd_ne nda] at nd
          exact nd
        refine ⟨rfl, d, _, upd_same, by rw [upd_ne nda, upd_same], nd1, ?_⟩
        obtain ⟨r1, r2, r3⟩ := raised_mk (C := CB) (f := "part") (v := V.str "most") na nd1 nda
        exact qm rfl hm _ d ⟨s1.trans r1, s1.free r2, r3⟩
      | true =>
        refine iteF ?_
        obtain ⟨i, rfl⟩ : ∃ i, m = .int i := by
          cases m with
          | int i => exact ⟨i, rfl⟩
          | _ => cases hm
        obtain ⟨l, rfl, hl⟩ := (ha.same s1).seq rfl
        refine ⟨_, rfl, l, xs, rfl, hl, fun p np => ?_⟩
        generalize e2 : upd H1 p _ = H2
        have s2 : Same H1 H2 := e2 ▸ same_new np
        have hp : H2 p = some (.lst xs) := e2 ▸ upd_same
        have hx2 := s2 _ _ (s1 _ _ hx)
        have npx : p ≠ x := ne_of hp hx2 (by intro z; cases z)
        refine ⟨_, rfl, x, C, dx, [], rfl, hx2, cl, n1, (by show 0 < 1000; decide), ?_⟩
        refine ⟨_, rfl, _, rfl, x, C, dx, _, rfl, upd_same, cl, n2, (by show 1 < 1000; decide), ?_⟩
        refine q rfl i rfl hm _ dx p ?_ (s1.free np) (by rw [upd_same, putF_new, crowd_put]) (by rw [upd_ne npx, upd_ne npx]; exact hp)
        exact ((But.of_same (s1.trans s2)).trans But.upd).trans But.upd
end
/-! ### a crowd's methods -/
section
variable {P : Program} {w : World} {K : PySem.W.Frag} {mg : Str → Option Value} {base : Heap} {C CN : Addr}
theorem ok_crowdPeople {f : Addr} {fd : FuncData} (F : Fun K "people" "Crowd.people" sCrowdPeople f fd) (cl : Cls K C) (n1 : NoAttr K C "_people") (T : Tx mg) : FnOk P w K mg base CX0 1 f fd ["self"] (spCrowdPeople C) := by
  refine F.ok scCrowdPeople (fun vs H Q E h => ?_) (fun cdv A outer s H vs Q E hr h => ?_)
  · obtain ⟨x, zs, m, rfl, _⟩ := h
    rfl
  · obtain ⟨x, zs, m, rfl, ⟨dx, l, hx, hl⟩, len, q⟩ := h
    refine ⟨_, pss_one (ps_ret (pe_callTy call_list_of (by rfl) T.list (by decide +kernel) (pa_cons (pe_fld (pv 0) rfl) pa_nil))), ?_⟩
    exact ⟨_, rfl, x, C, dx, _, _, rfl, hx, cl, n1, rfl, l, _, rfl, .inl (SqL.of hl), fun p np => q _ p (same_new np) np upd_same⟩
theorem ok_crowdLen {f : Addr} {fd : FuncData} (F : Fun K "__len__" "Crowd.__len__" sCrowdLen f fd) (cl : Cls K C) (n1 : NoAttr K C "_people") (B : Bt mg) : FnOk P w K mg base CX0 1 f fd ["self"] (spCrowdLen C) := by
  refine F.ok scCrowdLen (fun vs H Q E h => ?_) (fun cdv A outer s H vs Q E hr h => ?_)
  · obtain ⟨x, zs, m, rfl, _⟩ := h
    rfl
  · obtain ⟨x, zs, m, rfl, ⟨dx, l, hx, hl⟩, q⟩ := h
    refine ⟨_, pss_one (ps_ret (pe_callB call_len_seq (by rfl) B.len PySem.boot_len (pa_cons (pe_fld (pv 0) rfl) pa_nil))), ?_⟩
    refine ⟨_, rfl, x, C, dx, _, _, rfl, hx, cl, n1, rfl, l, _, rfl, .inl (SqL.of hl), ?_⟩
    rw [List.length_map]
    exact q
theorem ok_crowdHas {f : Addr} {fd : FuncData} (F : Fun K "__contains__" "Crowd.__contains__" sCrowdContains f fd) (cl : Cls K C) (n1 : NoAttr K C "_people") (T : Tx mg) : FnOk P w K mg base CX0 1 f fd ["self", "x"] (spCrowdHas K C) := by
  refine F.ok scCrowdContains (fun vs H Q E h => ?_) (fun cdv A outer s H vs Q E hr h => ?_)
  · obtain ⟨x, v, zs, m, N, rfl, _⟩ := h
    rfl
  · obtain ⟨x, v, zs, m, N, rfl, ⟨dx, l, hx, hl⟩, ⟨ty, hk⟩, q⟩ := h
    refine ⟨_, pss_one (ps_ret (pe_and (pe_callB call_isi (by rfl) T.isi (by decide +kernel) (pa_cons (pv 1) (pa_cons (pe_bltn (v := .ty "str") (by rfl) T.str (by decide +kernel) rfl) pa_nil)))
      (pe_one (pe_cmpR op_in_seq (pv 1) (pe_fld (pv 0) rfl) (by rfl))))), ?_⟩
    refine ⟨_, rfl, v, .ty "str", _, _, _, rfl, .ty "str", ty, kit_ty (kit_str hk), _, rfl, ite2 (fun c => ?_) (fun c => ?_)⟩
    · obtain ⟨z, rfl⟩ := ty_str' ty (by rw [of_decide_eq_true c])
      refine ⟨_, rfl, _, rfl, x, C, dx, _, _, rfl, hx, cl, n1, rfl, l, _, rfl, .inl (SqL.of hl), rfl, all_flat_strs zs, ?_⟩
      show Q (.bl (inV _ _)) H
      rw [inV_strs]
      exact q
    · have e : hasB v zs = false := by
        cases v with
        | str z =>
          cases ty with
          | base b => cases b; exact absurd (decide_eq_true rfl) c
        | _ => rfl
      rw [e] at q
      exact q
theorem ok_crowdEq {f : Addr} {fd : FuncData} (F : Fun K "__eq__" "Crowd.__eq__" sCrowdEq f fd) (cl : Cls K C) (n1 : NoAttr K C "_people") (n2 : NoAttr K C "most") (gC : mg "Crowd" = some (.ref C)) (k1 : PySem.W.kitOne K (.ref C) (.ref C) = some true)
    (k2 : PySem.W.kitOne K (.type "list") (.ref C) = some false) (io : IsOwn K C) (T : Tx mg) : FnOk P w K mg base CX0 1 f fd ["self", "other"] (spCrowdEq K C) := by
  refine F.ok scCrowdEq (fun vs H Q E h => ?_) (fun cdv A outer s H vs Q E hr h => ?_)
  · obtain ⟨x, y, zs, m, rfl, _⟩ := h
    rfl
  · obtain ⟨x, y, zs, m, rfl, ⟨dx, l, hx, hl⟩, oz, h⟩ := h
    refine ⟨_, pss_one (ps_ret (pe_and (pe_callB call_isi (by rfl) T.isi (by decide +kernel) (pa_cons (pv 1) (pa_cons (pe_glob (v := .ref C) (by rfl) gC rfl) pa_nil)))
      (pe_and (pe_cmpR op_eq (pe_fld (pv 0) rfl) (pe_fld (pv 1) rfl) (nomark _)) (pe_one (pe_cmpR (op_eqD hr.units) (pe_fld (pv 0) rfl) (pe_fld (pv 1) rfl) (nomark _)))))), ?_⟩
    rcases h with ⟨ys, n, ⟨dy, k, hy, hk⟩, oy, q⟩ | ⟨⟨ys, hy⟩, q⟩
    · refine ⟨_, rfl, .ref y, .ref C, _, _, _, rfl, .own C, io.ty hy, k1, _, rfl, iteT ?_⟩
      refine ⟨_, rfl, x, C, dx, _, _, rfl, hx, cl, n2, rfl, _, rfl, y, C, dy, _, _, rfl, hy, cl, n2, rfl, rfl, _, rfl, ite2 (fun c => ?_) (fun c => ?_)⟩
      · have e : m = n := by
          have := of_decide_eq_true c
          cases this
          rfl
        subst e
        refine ⟨_, rfl, x, C, dx, _, _, rfl, hx, cl, n1, rfl, _, rfl, y, C, dy, _, _, rfl, hy, cl, n1, rfl, _, _, .lst (SqL.of hl) (dp_strs zs), .lst (SqL.of hk) (dp_strs ys), shaped_strs oz, shaped_strs oy, ?_⟩
        rw [eqv_strs]
        rw [decide_eq_true rfl, Bool.true_and] at q
        exact q
      · have e : ¬ m = n := fun e => c (by rw [e]; exact decide_eq_true rfl)
        rw [decide_eq_false e, Bool.false_and] at q
        exact q
    · refine ⟨_, rfl, .ref y, .ref C, _, _, _, rfl, .own C, .base (.lst hy), k2, _, rfl, iteF q⟩
theorem ok_NotThereInit {f D : Addr} {fd : FuncData} (F : Fun K "__init__" "NotThere.__init__" sNotThereInit f fd) : FnOk P w K mg base CX0 1 f fd ["self", "word"] (spEcInit K D "word") := by
  refine F.ok scNotThereInit (fun vs H Q E h => ?_) (fun cdv A outer s H vs Q E hr h => ?_)
  · obtain ⟨a, v, rfl, _⟩ := h
    rfl
  · obtain ⟨a, v, rfl, T, nf, ha, q⟩ := h
    refine ⟨_, pss_one (ps_ec (f := "word") (pv 0) (pv 1)), ?_⟩
    exact ⟨_, rfl, _, rfl, a, D, rfl, T, nf, ha, fun d nd ne => q d nd ne⟩
theorem ok_needPerson {f fH fI : Addr} {fd fdH fdI : FuncData} (F : Fun K "need_person" "need_person" sNeedPerson f fd) (GH : FnOk P w K mg base CX0 1 fH fdH ["self", "x"] (spCrowdHas K C)) (hs : PySem.W.findIn K (.ref C) "__contains__" = some (some (.ref fH)))
    (hf : PySem.W.isFn K (.ref fH) = true) (bH : Binds K fdH ["self", "x"] []) (TN : EcC K CN) (gN : mg "NotThere" = some (.ref CN)) (no : PySem.W.findIn K (.ref CN) "word" = some none) (iN : PySem.W.findIn K (.ref CN) "__init__" = some (some (.ref fI)))
    (tN : PySem.W.typeIn K (.ref fI) = some (.type "function")) (GI : FnOk P w K mg base CX0 1 fI fdI ["self", "word"] (spEcInit K CN "word")) (bI : Binds K fdI ["self", "word"] []) : FnOk P w K mg base (L2.CX P w) 3 f fd ["crowd", "person"] (spNeed K C CN) := by
  refine F.okX scNeedPerson (fun vs H Q E h => ?_) (fun cdv A outer s H vs Q E hr h => ?_)
  · obtain ⟨x, v, zs, m, N, rfl, _⟩ := h
    rfl
  · obtain ⟨x, v, zs, m, N, rfl, hc, ty, q1, q2⟩ := h
    refine ⟨_, pss_one (ps_if (pt_cmpR (op_notInOwn (E := fun _ _ _ => False) hs hf GH (hr.mono (by decide)) bH pass0) (pv 1) (pv 0) (by rfl)) (pss_one (ps_raise rfl (takes_of rfl rfl rfl rfl) (pmk_ec TN iN tN GI hr bI pass0 (by rfl) gN (pa_cons (pv 1) pa_nil)))) pss_nil), ?_⟩
    obtain ⟨dx, l, hx, hl⟩ := id hc
    refine ⟨_, rfl, _, rfl, x, dx, _, rfl, hx, x, v, zs, m, N, rfl, hc, ty, hasB v zs, rfl, _, rfl, ?_⟩
    cases e : hasB v zs with
    | true => exact iteF (q1 e)
    | false =>
      refine iteT ⟨_, rfl, (by show 1 ≤ 1000; decide), fun a na => ⟨a, _, rfl, TN, no, upd_same, fun d nd nda => ?_⟩⟩
      have nd1 : H d = none := by
        rw [upd_ne nda] at nd
        exact nd
      refine ⟨rfl, d, _, upd_same, by rw [upd_ne nda, upd_same], nd1, ?_⟩
      exact q2 e _ d (raised_mk (C := CN) (f := "word") (v := v) na nd1 nda)
theorem ok_crowdIsPair {f fH : Addr} {fd fdH : FuncData} (F : Fun K "is_pair" "Crowd.is_pair" sCrowdIsPair f fd) (GH : FnOk P w K mg base CX0 1 fH fdH ["self", "x"] (spCrowdHas K C)) (hs : PySem.W.findIn K (.ref C) "__contains__" = some (some (.ref fH)))
    (hf : PySem.W.isFn K (.ref fH) = true) (bH : Binds K fdH ["self", "x"] []) (B : Bt mg) (T : Tx mg) : FnOk P w K mg base CX0 2 f fd ["self", "value"] (spIsPair K C) := by
  refine F.ok scCrowdIsPair (fun vs H Q E h => ?_) (fun cdv A outer s H vs Q E hr h => ?_)
  · obtain ⟨x, v, zs, m, b, rfl, _⟩ := h
    rfl
  · obtain ⟨x, v, zs, m, b, rfl, hc, pa, q⟩ := h
    obtain ⟨dx, l, hx, hl⟩ := id hc
    refine ⟨_, pss_cons (ps_if (PW.pt (pw_or (pt_not (pt_val (pe_callB call_isi (by rfl) T.isi (by decide +kernel) (pa_cons (pv 1) (pa_cons (pe_bltn (v := .ty "tuple") (by rfl) T.tuple (by decide +kernel) rfl) pa_nil)))))
        (pw_or1 (pt_cmpR op_ne (pe_callB call_len_seq (by rfl) B.len PySem.boot_len (pa_cons (pv 1) pa_nil)) pe_int (nomark _))))) (pss_one (ps_ret pe_bl)) pss_nil)
      (pss_one (ps_ret (pe_and (pe_cmpR (op_inOwn (E := fun _ _ _ => False) hs hf GH hr bH pass0) (pe_ix ix_tup (pv 1) pe_int (fun _ _ => rfl)) (pv 0) (by rfl))
        (pe_and (pe_cmpR (op_inOwn (E := fun _ _ _ => False) hs hf GH hr bH pass0) (pe_ix ix_tup (pv 1) pe_int (fun _ _ => rfl)) (pv 0) (by rfl)) (pe_one (pe_cmpR op_ne (pe_ix ix_tup (pv 1) pe_int (fun _ _ => rfl)) (pe_ix ix_tup (pv 1) pe_int (fun _ _ => rfl)) (nomark _))))))), ?_⟩
    cases pa with
    | @no _ N ty h =>
      refine ⟨_, rfl, v, .ty "tuple", _, _, _, rfl, .ty "tuple", ty.1, kit_ty (kit_tuple ty.2), _, rfl, ?_⟩
      rw [decide_eq_false h]
      exact iteT (iteT q)
    | @len p xs e h =>
      refine ⟨_, rfl, .ref p, .ty "tuple", _, _, _, rfl, .ty "tuple", .base (.tup e), kit_ty (kit_tuple (by decide)), _, rfl, ?_⟩
      refine iteF ⟨_, rfl, p, xs, rfl, .inr (SqT.of e), rfl, _, rfl, ?_⟩
      rw [decide_eq_false (fun z => h (by have := V.int.inj z; omega))]
      exact iteT q
    | @two p a b S T2 e ts tt =>
      refine ⟨_, rfl, .ref p, .ty "tuple", _, _, _, rfl, .ty "tuple", .base (.tup e), kit_ty (kit_tuple (by decide)), _, rfl, ?_⟩
      refine iteF ⟨_, rfl, p, [a, b], rfl, .inr (SqT.of e), rfl, _, rfl, ?_⟩
      rw [show decide (V.int (([a, b] : List V).length : Nat) = V.int 2) = true from decide_eq_true rfl]
      refine iteF ?_
      refine ⟨_, rfl, p, [a, b], 0, a, rfl, rfl, SqT.of e, rfl, _, rfl, x, dx, _, rfl, hx, x, a, zs, m, S, rfl, hc, ts, _, rfl, _, rfl, ?_⟩
      unfold isPairB at q
      cases h1 : hasB a zs with
      | false =>
        rw [h1] at q
        exact iteF q
      | true =>
        rw [h1] at q
        refine iteT ⟨_, rfl, p, [a, b], 1, b, rfl, rfl, SqT.of e, rfl, _, rfl, x, dx, _, rfl, hx, x, b, zs, m, T2, rfl, hc, tt, _, rfl, _, rfl, ?_⟩
        cases h2 : hasB b zs with
        | false =>
          rw [h2] at q
          exact iteF q
        | true =>
          rw [h2] at q
          refine iteT ⟨_, rfl, p, [a, b], 0, a, rfl, rfl, SqT.of e, rfl, _, rfl, p, [a, b], 1, b, rfl, rfl, SqT.of e, rfl, ?_, q⟩
          cases a with
          | str z =>
            cases b with
            | str y => rfl
            | _ => cases h2
          | _ => cases h1
end

section
variable {P : Program} {w : World} {K : PySem.W.Frag} {mg : Str → Option Value} {base : Heap} {C : Addr}
theorem ok_crowdPairs {f : Addr} {fd : FuncData} (F : Fun K "pairs" "Crowd.pairs" sCrowdPairs f fd) (cl : Cls K C) (n1 : NoAttr K C "_people") : FnOk P w K mg base CX0 1 f fd ["self"] (spCrowdPairs C) := by
  refine F.ok scCrowdPairs (fun vs H Q E h => ?_) (fun cdv A outer s H vs Q E hr h => ?_)
  · obtain ⟨x, zs, m, rfl, _⟩ := h
    rfl
  · obtain ⟨x, zs, m, rfl, ⟨dx, l, hx, hl⟩, len, q⟩ := h
    refine ⟨_, pss_one (ps_ret (by
      refine' pe_lc2 (own := [("marker", 1), ("marked", 2)]) (vs1 := [2]) (wi1 := iList K (tFld K (tVar 0) "_people")) (g := gName 1) (g1 := gName 2) (by rfl) scCrowdPairs.nd ?h1 (blkOk_by (own := [("marker", 1), ("marked", 2)]) (N := ["self", "marker", "marked"]) (sc := defScope sCrowdPairs) (by decide +kernel)) (by decide) (fun _ _ _ _ _ => pg_name (i := 1) scCrowdPairs.nd rfl (Or.inl rfl)) (fun _ _ _ _ _ => pts_nil) ?h2 (fun _ _ _ _ _ => pg_name (i := 2) scCrowdPairs.nd rfl (Or.inl rfl)) ?h3 ?h4
      (case h1 => exact pi_list (pe_fld (pv 0) rfl))
      (case h2 => intro _ _ _ _ _; exact pi_list (pe_fld (pv 0) rfl))
      (case h3 => intro _ _ _ _ _; exact pts_one (pt_cmpR op_ne (pv 1) (pv 2) (nomark _)))
      (case h4 => intro _ _ _ _ _; exact pe_tup (pa_cons (pv 1) (pa_cons (pv 2) pa_nil))))), ?_⟩
    refine ⟨_, rfl, x, C, dx, _, _, rfl, hx, cl, n1, rfl, l, rfl, ⟨_, SqL.of hl⟩, fun D nD => ?_⟩
    refine nest_it (walk_list (K := K) (a := l) (xs := zs.map V.str)) (fun i G => Same H G ∧ ∃ acc, G D = some (.lst acc) ∧ Tups D G acc ((zs.take i).flatMap (rowOf zs))) ⟨same_new nD, [], upd_same, rfl, fun j y q h => by simp at h⟩ (fun i G _ h => SqL.of (h.1 _ _ hl)) ?_ ?_
    · rintro i z G G2 hi ⟨sG, acc, hD, tp⟩ ⟨rfl, hz⟩
      rw [List.getElem?_map] at hz
      rw [List.length_map] at hi
      rw [List.getElem?_eq_getElem hi] at hz
      obtain rfl := Option.some.inj hz
      have ha := List.getElem?_eq_getElem hi
      generalize zs[i] = a at ha
      refine ⟨rfl, ?_⟩
      unfold tYes
      dsimp only
      rw [if_pos rfl]
      refine ⟨_, rfl, x, C, dx, _, _, rfl, sG _ _ hx, cl, n1, rfl, l, rfl, ⟨_, SqL.of (sG _ _ hl)⟩, ?_⟩
      refine nest_it (walk_list (K := K) (a := l) (xs := zs.map V.str)) (fun j G => Same H G ∧ ∃ acc, G D = some (.lst acc) ∧ Tups D G acc ((zs.take i).flatMap (rowOf zs) ++ ((zs.take j).filter fun c => a ≠ c).map fun b => (a, b))) ⟨sG, acc, hD, by simpa using tp⟩ (fun j G _ h => SqL.of (h.1 _ _ hl)) ?_ ?_
      · rintro j z G3 G4 hj ⟨s3, acc3, hD3, tp3⟩ ⟨rfl, hz⟩
        rw [List.getElem?_map] at hz
        rw [List.length_map] at hj
        rw [List.getElem?_eq_getElem hj] at hz
        obtain rfl := Option.some.inj hz
        have hb := List.getElem?_eq_getElem hj
        generalize zs[j] = b at hb
        refine ⟨rfl, _, rfl, _, rfl, rfl, _, rfl, ?_⟩
        by_cases e : a = b
        · subst e
          rw [decide_eq_true (rfl : V.str a = V.str a)]
          refine iteF ?_
          rw [row_take zs a a j hb, if_neg (by simp), List.append_nil]
          exact ⟨s3, acc3, hD3, tp3⟩
        · rw [decide_eq_false (fun z => e (V.str.inj z) : ¬ V.str a = V.str b)]
          refine iteT ?_
          rw [row_take zs a b j hb, if_pos e, List.map_append, ← List.append_assoc]
          refine ⟨_, rfl, _, rfl, (by show 2 ≤ sizeLine; decide), fun p np => ?_⟩
          have pD : p ≠ D := fun z => by
            rw [z, hD3] at np
            cases np
          refine ⟨acc3, same_new np _ _ hD3, ?_, fun b o z => ?_, acc3 ++ [.ref p], upd_same, ?_⟩
          · rw [tp3.1, List.length_append, List.length_map]
            have k1 := pairs_len len (ys := zs.take i) (by rw [List.length_take]; omega)
            have k2 := List.length_filter_le (fun c => decide (a ≠ c)) (zs.take j)
            rw [List.length_take] at k2
            exact small1000 (by omega)
          · rw [upd_ne (ne_of_none z nD)]
            exact same_new np _ _ (s3 _ _ z)
          · refine ((tp3.but (But.of_same (same_new np))).but But.upd).add pD ?_
            rw [upd_ne pD, upd_same]
      · rintro G3 ⟨s3, acc3, hD3, tp3⟩
        refine ⟨s3, acc3, hD3, ?_⟩
        rw [pairs_take zs i a ha]
        rw [List.length_map, List.take_length] at tp3
        exact tp3
    · rintro G ⟨s3, acc3, hD3, tp3⟩
      rw [List.length_map, List.take_length] at tp3
      exact q G D acc3 s3 nD hD3 tp3
end

section
variable {P : Program} {w : World} {K : PySem.W.Frag} {mg : Str → Option Value} {base : Heap} {C : Addr}
theorem ok_lawPairs {f : Addr} {fd : FuncData} (F : Fun K "_law_pairs" "_law_pairs" sPairs f fd) : FnOk P w K mg base CX0 1 f fd ["_law_people_here"] (spLawPairs K) := by
  refine F.ok scPairs (fun vs H Q E h => ?_) (fun cdv A outer s H vs Q E hr h => ?_)
  · obtain ⟨l, zs, rfl, _⟩ := h
    rfl
  · obtain ⟨l, zs, rfl, hl, len, q⟩ := h
    refine ⟨_, pss_cons (ps_set (i := 1) scPairs.nd rfl (.inl rfl) (pe_lst pa_nil))
      (pss_cons (ps_for PassesOwn.never rfl (pi_list (pv 0)) (pg_name (i := 2) scPairs.nd rfl (.inr rfl))
        (pss_one (ps_set (i := 1) scPairs.nd rfl (.inl rfl) (pe_op op_cat (pv 1) (pe_lc (own := [("_law_other", 3)]) (g := gName 3) (by rfl) scPairs.nd (pi_list (pv 0)) (blkOk_by (own := [("_law_other", 3)]) (N := ["_law_people_here", "_law_found", "_law_one", "_law_other"]) (sc := defScope sPairs) (by decide +kernel))
          (fun _ _ _ _ _ => pg_name (i := 3) scPairs.nd rfl (Or.inl rfl)) (fun _ _ _ _ _ => pts_one (pt_cmpR op_ne (pv 3) (pv 2) (nomark _))) (fun _ _ _ _ _ => by exact pe_tup (pa_cons (pv 2) (pa_cons (pv 3) pa_nil))))))))
      (pss_one (ps_ret (pv 1)))), ?_⟩
    refine ⟨Nat.zero_le _, fun p0 np0 => ?_⟩
    generalize e0 : upd H p0 _ = H0
    have s0 : Same H H0 := e0 ▸ same_new np0
    have h0 : H0 p0 = some (.lst []) := e0 ▸ upd_same
    refine ⟨_, rfl, l, rfl, ⟨_, SqL.of (s0 _ _ hl)⟩, ?_⟩
    refine for_list (K := K) (a := l) (xs := zs.map V.str) (fun i σ G => ∃ p acc v2 v3, σ = [some (.ref l), some (.ref p), v2, v3] ∧ Same H G ∧ H p = none ∧ G p = some (.lst acc) ∧ Tps G acc ((zs.take i).flatMap (rowOf zs))) ⟨p0, [], _, _, rfl, s0, np0, h0, rfl, fun j y q h => by simp at h⟩ (fun i σ G _ h => by
      obtain ⟨_, _, _, _, _, s, _⟩ := h
      exact SqL.of (s _ _ hl)) ?_ ?_
    · rintro i x σ G hx ⟨p, acc, v2, v3, rfl, sG, np, hp, tp⟩
      have hi : i < zs.length := by
        have := (List.getElem?_eq_some_iff.mp hx).1
        rw [List.length_map] at this
        exact this
      rw [List.getElem?_map, List.getElem?_eq_getElem hi] at hx
      obtain rfl := Option.some.inj hx
      have ha := List.getElem?_eq_getElem hi
      generalize zs[i] = a at ha
      refine ⟨_, rfl, _, rfl, l, rfl, ⟨_, SqL.of (sG _ _ hl)⟩, fun D nD => ?_⟩
      refine nest_it (walk_list (K := K) (a := l) (xs := zs.map V.str)) (fun j G2 => Same G G2 ∧ ∃ ac, G2 D = some (.lst ac) ∧ Tups D G2 ac (((zs.take j).filter fun c => a ≠ c).map fun b => (a, b))) ⟨same_new nD, [], upd_same, rfl, fun j y q h => by simp at h⟩ (fun j G2 _ h => SqL.of (h.1 _ _ (sG _ _ hl))) ?_ ?_
      · rintro j z G3 G4 hj ⟨s3, ac, hD, t3⟩ ⟨rfl, hz⟩
        rw [List.getElem?_map] at hz
        rw [List.length_map] at hj
        rw [List.getElem?_eq_getElem hj] at hz
        obtain rfl := Option.some.inj hz
        have hb := List.getElem?_eq_getElem hj
        generalize zs[j] = b at hb
        refine ⟨rfl, _, rfl, _, rfl, rfl, _, rfl, ?_⟩
        by_cases e : a = b
        · subst e
          rw [decide_eq_true (rfl : V.str a = V.str a)]
          refine iteF ?_
          rw [row_take zs a a j hb, if_neg (by simp), List.append_nil]
          exact ⟨s3, ac, hD, t3⟩
        · rw [decide_eq_false (fun z => e (V.str.inj z).symm : ¬ V.str b = V.str a)]
          refine iteT ?_
          rw [row_take zs a b j hb, if_pos e, List.map_append]
          refine ⟨_, rfl, _, rfl, (by show 2 ≤ sizeLine; decide), fun t nt => ?_⟩
          have tD : t ≠ D := fun z => by
            rw [z, hD] at nt
            cases nt
          refine ⟨ac, same_new nt _ _ hD, ?_, fun c o z => ?_, ac ++ [.ref t], upd_same, ?_⟩
          · rw [t3.1, List.length_map]
            have k2 := List.length_filter_le (fun c => decide (a ≠ c)) (zs.take j)
            rw [List.length_take] at k2
            exact small1000 (by omega)
          · rw [upd_ne (ne_of_none z nD)]
            exact same_new nt _ _ (s3 _ _ z)
          · refine ((t3.but (But.of_same (same_new nt))).but But.upd).add tD ?_
            rw [upd_ne tD, upd_same]
      · rintro G3 ⟨s3, ac, hD, t3⟩
        rw [List.length_map, List.take_length] at t3
        refine ⟨p, D, acc, ac, rfl, rfl, s3 _ _ hp, hD, ?_, fun p2 np2 => ?_⟩
        · rw [tp.1, t3.1, List.length_map]
          have k1 := pairs_len len (ys := zs.take i) (by rw [List.length_take]; omega)
          have k2 := List.length_filter_le (fun c => decide (a ≠ c)) zs
          exact Nat.le_of_lt (small1000 (by omega))
        · have s4 := sG.trans s3
          refine ⟨p2, acc ++ ac, _, _, rfl, s4.trans (same_new np2), s4.free np2, upd_same, ?_⟩
          rw [pairs_take zs i a ha]
          exact ((tp.same s3).append t3.tps).same (same_new np2)
    · rintro σ G ⟨p, acc, v2, v3, rfl, sG, np, hp, tp⟩
      rw [List.length_map, List.take_length] at tp
      exact ⟨_, rfl, q G p acc sG np hp tp⟩
end

def spPick : Sp := fun vs H Q _ => ∃ (a l : Addr) (xs : List V), vs = [.ref a, .ref l] ∧ Pool H a ∧ H l = some (.lst xs) ∧ l ≠ a ∧ 1 ≤ xs.length ∧ xs.length ≤ 1000 ∧ ∀ x H2, x ∈ xs → Pool H2 a → But a H H2 → Q x H2
section
variable {P : Program} {w : World} {K : PySem.W.Frag} {mg : Str → Option Value} {base : Heap}
theorem ok_pick {f fD : Addr} {fd fdD : FuncData} (F : Fun K "_law_pick" "_law_pick" sPick f fd) (GD : FnOk P w K mg base CX0 1 fD fdD ["_law_pool", "_law_many"] spDraw) (kD : PySem.W.keepIn K (.ref fD) = true) (bD : Binds K fdD ["_law_pool", "_law_many"] []) (gD : mg "_law_draw" = some (.ref fD)) (B : Bt mg) :
    FnOk P w K mg base CX0 2 f fd ["_law_pool", "_law_some"] spPick := by
  refine F.ok scPick (fun vs H Q E h => ?_) (fun cdv A outer s H vs Q E hr h => ?_)
  · obtain ⟨a, l, xs, rfl, _⟩ := h
    rfl
  · obtain ⟨a, l, xs, rfl, hP, hl, ne, h1, h2, q⟩ := h
    refine ⟨_, pss_one (ps_ret (pe_ix ix_list (pv 1) (pe_call GD hr (by rfl) gD kD bD .nil pass0 (pa_cons (pv 0) (pa_cons (pe_callB call_len_seq (by rfl) B.len PySem.boot_len (pa_cons (pv 1) pa_nil)) pa_nil))) (fun _ _ => rfl))), ?_⟩
    refine ⟨_, rfl, _, rfl, _, rfl, l, xs, rfl, .inl (SqL.of hl), a, _, rfl, hP, by omega, by omega, fun r H2 r0 r1 hP2 hB => ?_⟩
    have hr2 : r.toNat < xs.length := by omega
    refine ⟨l, xs, r, xs[r.toNat], rfl, rfl, SqL.of (hB _ _ ne hl), ?_, q _ _ (List.getElem_mem hr2) hP2 hB⟩
    obtain ⟨n, rfl⟩ : ∃ n : Nat, r = (n : Int) := ⟨r.toNat, by omega⟩
    exact atI_nat (List.getElem?_eq_getElem hr2)
end

end K09

set_option Elab.async false
set_option linter.all false
set_option maxRecDepth 100000
set_option maxHeartbeats 4000000
/-! Rules as plain data: reads, readers, lists in order. -/
namespace L2
open PySem PySem.Spec PyProof.Rows
abbrev Pr := Str × Str
structure RuleD where
  zs : List Str
  m : Int
  turn : Str
  gather : Str
  trim : Int
  prizes : Int
  reads : List Pr
  lists : List (List Str)
def readersOf (rs : List Pr) (p : Str) : List Str := (rs.filter fun q => decide (q.2 = p)).map (·.1)
/-- the pairs of the crowd that are among these -/
def pick (zs : List Str) (ps : List Pr) : List Pr := (pairsOf zs).filter fun p => decide (p ∈ ps)
/-- somebody of a list of two or more has at most 2 * trim readers -/
def shortB (rs : List Pr) (ls : List (List Str)) (trim : Int) : Bool := (ls.filter fun l => decide (1 < l.length)).flatten.any fun p => decide (((readersOf rs p).length : Int) ≤ 2 * trim)
def ordered (zs : List Str) (ls : List (List Str)) : List (List Str) := ls.map fun l => zs.filter fun p => decide (p ∈ l)
def inOrder (zs : List Str) (ls : List (List Str)) : List (List Str) := zs.flatMap fun f => (ordered zs ls).filter fun l => decide (l.head? = some f)
/-- a parting of the people -/
structure Parts (zs : List Str) (ls : List (List Str)) : Prop where
  ne : ∀ l ∈ ls, l ≠ []
  mem : ∀ l ∈ ls, ∀ p ∈ l, p ∈ zs
  nd : ls.flatten.Nodup
  len : ls.flatten.length = zs.length
/-- a parting into lists in order, by their first people -/
structure Straight (zs : List Str) (ls : List (List Str)) : Prop where
  parts : Parts zs ls
  sub : ∀ l ∈ ls, l.Sublist zs
  heads : (ls.map fun l => l.headD Str.empty).Sublist zs
theorem filter_sub : ∀ {r zs : List Str}, r.Sublist zs → zs.Nodup → (zs.filter fun b => decide (b ∈ r)) = r := fun {r zs} h => by
  induction h with
  | slnil => intro _; rfl
  | cons a h ih =>
    intro nd
    rw [List.nodup_cons] at nd
    rw [List.filter_cons_of_neg (by simpa using fun z => nd.1 (h.subset z))]
    exact ih nd.2
  | @cons_cons l1 l2 a h ih =>
    intro nd
    rw [List.nodup_cons] at nd
    rw [List.filter_cons_of_pos (by simp)]
    congr 1
    rw [← ih nd.2]
    refine List.filter_congr fun b hb => ?_
    rw [ih nd.2]
    have : b ≠ a := fun e => nd.1 (e ▸ hb)
    simp [this]
theorem ordered_id {zs : List Str} {ls : List (List Str)} (nd : zs.Nodup) (h : ∀ l ∈ ls, l.Sublist zs) : ordered zs ls = ls := by
  unfold ordered
  conv => rhs; rw [← List.map_id ls]
  exact List.map_congr_left fun l hl => filter_sub (h l hl) nd
theorem by_heads : ∀ (zs : List Str) (ls : List (List Str)), zs.Nodup → (∀ l ∈ ls, l ≠ []) → (ls.map fun l => l.headD Str.empty).Sublist zs → (zs.flatMap fun f => ls.filter fun l => decide (l.head? = some f)) = ls
  | [], ls, _, _, h => by
    have := List.eq_nil_of_sublist_nil h
    rw [List.map_eq_nil_iff] at this
    rw [this]
    rfl
  | z :: zs, ls, nd, ne, h => by
    rw [List.nodup_cons] at nd
    rw [List.flatMap_cons]
    match ls, ne, h with
    | [], _, _ =>
      rw [List.filter_nil, List.nil_append]
      exact by_heads zs [] nd.2 (fun l hl => (nomatch hl)) (List.nil_sublist _)
    | l0 :: ls, ne, h =>
      have n0 := ne l0 List.mem_cons_self
      obtain ⟨p, r, rfl⟩ : ∃ p r, l0 = p :: r := by
        cases l0 with
        | nil => exact absurd rfl n0
        | cons p r => exact ⟨p, r, rfl⟩
      rw [List.map_cons] at h
      have ne2 : ∀ l ∈ ls, l ≠ [] := fun l hl => ne l (List.mem_cons_of_mem _ hl)
      have hd : ∀ l ∈ ls, l.head? = some (l.headD Str.empty) := fun l hl => by
        cases l with
        | nil => exact absurd rfl (ne2 _ hl)
        | cons a b => rfl
      by_cases e : p = z
      · subst e
        have h2 : (ls.map fun l => l.headD Str.empty).Sublist zs := List.cons_sublist_cons.mp h
        have out : ls.filter (fun l => decide (l.head? = some p)) = [] := by
          rw [List.filter_eq_nil_iff]
          intro l hl c
          rw [decide_eq_true_eq, hd l hl] at c
          exact nd.1 (Option.some.inj c ▸ h2.subset (List.mem_map.mpr ⟨l, hl, rfl⟩))
        rw [List.filter_cons_of_pos (by simp), out]
        have rest : (zs.flatMap fun f => ((p :: r) :: ls).filter fun l => decide (l.head? = some f)) = zs.flatMap fun f => ls.filter fun l => decide (l.head? = some f) := by
          rw [List.flatMap_def, List.flatMap_def]
          congr 1
          refine List.map_congr_left fun f hf => ?_
          rw [List.filter_cons_of_neg]
          have : p ≠ f := fun q => nd.1 (q ▸ hf)
          simpa using this
        rw [rest, by_heads zs ls nd.2 ne2 h2]
        rfl
      · have h2 : ((p :: r).headD Str.empty :: ls.map fun l => l.headD Str.empty).Sublist zs := by
          cases h with
          | cons _ h => exact h
          | cons_cons _ h => exact absurd rfl e
        have out : ((p :: r) :: ls).filter (fun l => decide (l.head? = some z)) = [] := by
          rw [List.filter_eq_nil_iff]
          intro l hl c
          rw [decide_eq_true_eq] at c
          rcases List.mem_cons.mp hl with rfl | hl
          · exact e (Option.some.inj c)
          · rw [hd l hl] at c
            exact nd.1 (Option.some.inj c ▸ h2.subset (List.mem_cons_of_mem _ (List.mem_map.mpr ⟨l, hl, rfl⟩)))
        rw [out, List.nil_append]
        exact by_heads zs _ nd.2 ne h2
theorem inOrder_id {zs : List Str} {ls : List (List Str)} (nd : zs.Nodup) (s : Straight zs ls) : inOrder zs ls = ls := by
  unfold inOrder
  rw [ordered_id nd s.sub]
  exact by_heads zs ls nd s.parts.ne s.heads
theorem pick_id {zs : List Str} {ps : List Pr} (nd : (pairsOf zs).Nodup) (h : ps.Sublist (pairsOf zs)) : pick zs ps = ps := by
  unfold pick
  generalize pairsOf zs = al at nd h
  induction h with
  | slnil => rfl
  | cons a h ih =>
    rw [List.nodup_cons] at nd
    rw [List.filter_cons_of_neg (by simpa using fun z => nd.1 (h.subset z))]
    exact ih nd.2
  | @cons_cons l1 l2 a h ih =>
    rw [List.nodup_cons] at nd
    rw [List.filter_cons_of_pos (by simp)]
    congr 1
    refine Eq.trans (List.filter_congr fun b hb => ?_) (ih nd.2)
    have : b ≠ a := fun e => nd.1 (e ▸ hb)
    simp [this]
theorem straight_one {zs : List Str} (h : zs ≠ []) (nd : zs.Nodup) : Straight zs [zs] where
  parts := ⟨fun l hl => by rw [List.mem_singleton.mp hl]; exact h, fun l hl p hp => by rw [List.mem_singleton.mp hl] at hp; exact hp, by simpa using nd, by simp⟩
  sub := fun l hl => by rw [List.mem_singleton.mp hl]; exact List.Sublist.refl _
  heads := by
    cases zs with
    | nil => exact absurd rfl h
    | cons a b => simp
end L2

set_option Elab.async false
set_option linter.all false
set_option maxRecDepth 100000
set_option maxHeartbeats 4000000
/-! Walks of a list or a tuple alike; comprehensions that keep, map, flatten, or make new objects. -/
namespace L2
open PySem PySem.Spec PyProof.Rows
/-- a list or a tuple -/
def SqA (K : PySem.W.Frag) (H : Hp) (a : Addr) (xs : List V) : Prop := SqL K H a xs ∨ SqT K H a xs
def HSeq (H : Hp) (a : Addr) (xs : List V) : Prop := H a = some (.lst xs) ∨ H a = some (.tup xs)
theorem HSeq.sq {K : PySem.W.Frag} {H : Hp} {a : Addr} {xs : List V} (h : HSeq H a xs) : SqA K H a xs := h.elim (fun h => .inl (SqL.of h)) fun h => .inr (SqT.of h)
theorem HSeq.same {H H2 : Hp} {a : Addr} {xs : List V} (s : Same H H2) (h : HSeq H a xs) : HSeq H2 a xs := h.elim (fun h => .inl (s _ _ h)) fun h => .inr (s _ _ h)
theorem sqL_same {K : PySem.W.Frag} {H H2 : Hp} {a : Addr} {xs : List V} (s : Same H H2) (h : SqL K H a xs) : SqL K H2 a xs := by
  unfold SqL Rd at h ⊢
  rcases h with (h | ⟨o, h⟩) | h
  · exact .inl (.inl (s _ _ h))
  · exact .inl (.inr ⟨o, s _ _ h⟩)
  · exact .inr h
theorem sqT_same {K : PySem.W.Frag} {H H2 : Hp} {a : Addr} {xs : List V} (s : Same H H2) (h : SqT K H a xs) : SqT K H2 a xs := by
  unfold SqT Rd at h ⊢
  rcases h with (h | ⟨o, h⟩) | h
  · exact .inl (.inl (s _ _ h))
  · exact .inl (.inr ⟨o, s _ _ h⟩)
  · exact .inr h
theorem SqA.same {K : PySem.W.Frag} {H H2 : Hp} {a : Addr} {xs : List V} (s : Same H H2) (h : SqA K H a xs) : SqA K H2 a xs := h.elim (fun h => .inl (sqL_same s h)) fun h => .inr (sqT_same s h)
theorem SqA.or {K : PySem.W.Frag} {H : Hp} {a : Addr} {xs : List V} (h : SqA K H a xs) : SqL K H a xs ∨ SqT K H a xs := h
/-- what walks the items, of the list or tuple at a -/
def ItOf (K : PySem.W.Frag) (a : Addr) (xs : List V) (J : It) (H : Hp) : Prop := (J = Itl K a ∧ SqL K H a xs) ∨ (J = Itt K a ∧ SqT K H a xs)
theorem sqL_but {K : PySem.W.Frag} {H H2 : Hp} {a D : Addr} {xs : List V} (n : a ≠ D) (s : But D H H2) (h : SqL K H a xs) : SqL K H2 a xs := by
  unfold SqL Rd at h ⊢
  rcases h with (h | ⟨o, h⟩) | h
  · exact .inl (.inl (s _ _ n h))
  · exact .inl (.inr ⟨o, s _ _ n h⟩)
  · exact .inr h
theorem sqT_but {K : PySem.W.Frag} {H H2 : Hp} {a D : Addr} {xs : List V} (n : a ≠ D) (s : But D H H2) (h : SqT K H a xs) : SqT K H2 a xs := by
  unfold SqT Rd at h ⊢
  rcases h with (h | ⟨o, h⟩) | h
  · exact .inl (.inl (s _ _ n h))
  · exact .inl (.inr ⟨o, s _ _ n h⟩)
  · exact .inr h
theorem ItOf.walk {K : PySem.W.Frag} {a : Addr} {xs : List V} {J : It} {H : Hp} (h : ItOf K a xs J H) :
    ∃ G : Hp → Prop, Walk J xs.length G (YAt xs) ∧ G H ∧ (∀ H1 H2, G H1 → Same H1 H2 → G H2) ∧ ∀ D H1 H2, a ≠ D → G H1 → But D H1 H2 → G H2 := by
  rcases h with ⟨rfl, h⟩ | ⟨rfl, h⟩
  · exact ⟨_, walk_list (K := K) (a := a) (xs := xs), h, fun _ _ g s => sqL_same s g, fun _ _ _ n g s => sqL_but n s g⟩
  · exact ⟨_, walk_tup (K := K) (a := a) (xs := xs), h, fun _ _ g s => sqT_same s g, fun _ _ _ n g s => sqT_but n s g⟩
def iSeq (K : PySem.W.Frag) (tl : TE) : TI := fun σ H R => tl σ H fun x H1 => ∃ a xs, x = .ref a ∧ SqA K H1 a xs ∧ ∀ J, ItOf K a xs J H1 → R J H1
theorem pi_seq {X : Cx} {tg l : Expr} {tl : TE} (hl : PE X l tl) : PI X tg l (iSeq X.K tl) := by
  refine ⟨fun pins s σ H R I h => ?_⟩
  refine thn (hl.run pins s σ H _ I h) fun v s1 z => ?_
  obtain ⟨x, H1, I1, r1, a, xs, rfl, hq, q⟩ := z
  cases r1
  have fin : ∀ (J : It) (tn : Nat → Heap → Prop) (c : String), ItOf X.K a xs J H1 → Turn X.prog X.w X.K tg J [s1.heap.objs.size] s1.heap.objs.size tn →
      tn 0 (s1.heap.push { cls := .type c, data := .fields #[.ref a, .int 0 0] }) → PIE X pins σ tg R (.ref s1.heap.objs.size) { s1 with heap := s1.heap.push { cls := .type c, data := .fields #[.ref a, .int 0 0] } } := fun J tn c ji tu t0 => by
    refine ⟨s1.heap.objs.size, [s1.heap.objs.size], tn, J, H1, rfl, I1.kept (t' := s1.toks) fun b o e => Heap.get?_push_of_some _ e, tu, t0, fun b hb => ?_, q J ji⟩
    rw [List.mem_singleton.mp hb]
    exact I1.fpOk (Nat.le_refl _) (I1.hok.fresh (Nat.le_refl _))
  rcases hq with hq | hq
  · obtain ⟨its, rv, p, hz⟩ := I1.list hq
    exact wpAny_pyIter_list p.isList (fin _ _ "list_iterator" (.inl ⟨rfl, hq⟩) (turn_list a _) ⟨_, Heap.get?_push_size _ rfl, rfl, rfl⟩)
  · obtain ⟨its, rv, p, hz⟩ := I1.tuple hq
    exact wpAny_pyIter_tuple (show s1.heap.IsTuple a its.toArray from p) (fin _ _ "tuple_iterator" (.inr ⟨rfl, hq⟩) (turn_tuple a _) ⟨_, Heap.get?_push_size _ rfl, rfl, rfl⟩)
theorem small_of {n : Nat} (h : n ≤ 1000) : n < sizeLine := small1000 h
section
variable {J : It} {K : PySem.W.Frag} {a : Addr}
/-- [te for slot in .. if tt]: os tells for each item what is kept of it -/
theorem lc_fm {xs : List V} {os : List (Option V)} {H1 : Hp} (ji : ItOf K a xs J H1) (hl : os.length = xs.length) (hsz : xs.length ≤ 1000) {slot : Nat} {tt : TT} {te : TE} {vs : List Nat} {σ : St} {D : Addr} {Qd : Hp → Prop} (hD : H1 D = none)
    (hw : ∀ x, wipe ((wipe σ vs).set slot (some x)) vs = wipe σ vs)
    (hs : ∀ (i : Nat) (x : V) (o : Option V) (H : Hp) (N : VK) (M : Hp → Prop), xs[i]? = some x → os[i]? = some o → Same H1 H → (∀ y H2, o = some y → Same H H2 → N y H2) → (∀ H2, o = none → Same H H2 → M H2) →
      tt ((wipe σ vs).set slot (some x)) H fun b H2 => if b = true then te ((wipe σ vs).set slot (some x)) H2 N else M H2)
    (hd : ∀ H, Same H1 H → H D = some (.lst (os.filterMap id)) → Qd H) :
    ∃ W : Nat → Nat → Hp → Prop, (∃ m, W 0 m (upd H1 D (.lst []))) ∧ ∀ i m H, W i m H →
      (J.stop i H ∧ Qd H) ∨ (J.go i H ∧ ∃ Nx : Hp → Prop, (∀ H', Nx H' → ∃ m', m' < m ∧ W (i + 1) m' H') ∧ ∀ x H', J.yld i H x H' → gName slot x (wipe σ vs) H' fun σ2 H2 => wipe σ2 vs = wipe σ vs ∧ tt σ2 H2 fun b H3 =>
        if b = true then te σ2 H3 fun y H4 => ∃ acc, H4 D = some (.lst acc) ∧ acc.length < sizeLine ∧ Nx (upd H4 D (.lst (acc ++ [y]))) else Nx H3) := by
  obtain ⟨G, w, g0, gS, _⟩ := ji.walk
  have hG : ∀ H2, Same H1 H2 → G H2 := fun H2 s => gS _ _ g0 s
  refine nest_it w (B := fun x H' Nx => gName slot x (wipe σ vs) H' fun σ2 H2 => wipe σ2 vs = wipe σ vs ∧ tt σ2 H2 fun b H3 => if b = true then te σ2 H3 fun y H4 => ∃ acc, H4 D = some (.lst acc) ∧ acc.length < sizeLine ∧ Nx (upd H4 D (.lst (acc ++ [y]))) else Nx H3)
    (fun i H => Same H1 H ∧ H D = some (.lst ((os.take i).filterMap id))) ⟨same_new hD, upd_same⟩ (fun i H _ h => hG H h.1) ?_ fun H h => hd H h.1 (by rw [h.2, ← hl, List.take_length])
  rintro i x H H2 hi ⟨s1, hl1⟩ ⟨rfl, hx⟩
  have ho : os[i]? = some (os[i]'(by omega)) := List.getElem?_eq_getElem (by omega)
  refine ⟨hw x, hs i x _ H2 _ _ hx ho s1 (fun y H3 e s3 => ⟨_, s3 _ _ hl1, ?_, fun b o z => ?_, ?_⟩) fun H3 e s3 => ⟨s1.trans s3, ?_⟩⟩
  · refine small_of (Nat.le_trans (List.length_filterMap_le _ _) ?_)
    rw [List.length_take]
    omega
  · rw [upd_ne (ne_of_none z hD)]
    exact s3 _ _ (s1 _ _ z)
  · rw [upd_same, List.take_add_one, ho, e, List.filterMap_append]
    rfl
  · rw [s3 _ _ hl1, List.take_add_one, ho, e, List.filterMap_append]
    simp
/-- [te for slot in .. if tt], te making new objects: ds tells of each what it is, or that it is left out -/
theorem lc_new {α : Type} {xs : List V} {ds : List (Option α)} {F : Hp → V → α → Prop} {H1 : Hp} (ji : ItOf K a xs J H1) (hl : ds.length = xs.length) (hsz : xs.length ≤ 1000) {slot : Nat} {tt : TT} {te : TE} {vs : List Nat} {σ : St} {D : Addr} {Qd : Hp → Prop} (hD : H1 D = none)
    (mono : ∀ acc H H2 y a, H D = some (.lst acc) → y ≠ .ref D → But D H H2 → F H y a → F H2 y a)
    (hw : ∀ x, wipe ((wipe σ vs).set slot (some x)) vs = wipe σ vs)
    (hs : ∀ (i : Nat) (x : V) (o : Option α) (H : Hp) (N : VK) (M : Hp → Prop), xs[i]? = some x → ds[i]? = some o → Same H1 H → H D ≠ none → (∀ y a H2, o = some a → Same H H2 → y ≠ .ref D → F H2 y a → N y H2) → (∀ H2, o = none → Same H H2 → M H2) →
      tt ((wipe σ vs).set slot (some x)) H fun b H2 => if b = true then te ((wipe σ vs).set slot (some x)) H2 N else M H2)
    (hd : ∀ H ys, Same H1 H → H D = some (.lst ys) → Paired (fun y a => y ≠ .ref D ∧ F H y a) ys (ds.filterMap id) → Qd H) :
    ∃ W : Nat → Nat → Hp → Prop, (∃ m, W 0 m (upd H1 D (.lst []))) ∧ ∀ i m H, W i m H →
      (J.stop i H ∧ Qd H) ∨ (J.go i H ∧ ∃ Nx : Hp → Prop, (∀ H', Nx H' → ∃ m', m' < m ∧ W (i + 1) m' H') ∧ ∀ x H', J.yld i H x H' → gName slot x (wipe σ vs) H' fun σ2 H2 => wipe σ2 vs = wipe σ vs ∧ tt σ2 H2 fun b H3 =>
        if b = true then te σ2 H3 fun y H4 => ∃ acc, H4 D = some (.lst acc) ∧ acc.length < sizeLine ∧ Nx (upd H4 D (.lst (acc ++ [y]))) else Nx H3) := by
  obtain ⟨G, w, g0, gS, _⟩ := ji.walk
  have hG : ∀ H2, Same H1 H2 → G H2 := fun H2 s => gS _ _ g0 s
  refine nest_it w (B := fun x H' Nx => gName slot x (wipe σ vs) H' fun σ2 H2 => wipe σ2 vs = wipe σ vs ∧ tt σ2 H2 fun b H3 => if b = true then te σ2 H3 fun y H4 => ∃ acc, H4 D = some (.lst acc) ∧ acc.length < sizeLine ∧ Nx (upd H4 D (.lst (acc ++ [y]))) else Nx H3)
    (fun i H => Same H1 H ∧ ∃ ys, H D = some (.lst ys) ∧ Paired (fun y a => y ≠ .ref D ∧ F H y a) ys ((ds.take i).filterMap id)) ⟨same_new hD, [], upd_same, .nil⟩ (fun i H _ h => hG H h.1) ?_ ?_
  · rintro i x H H2 hi ⟨s1, ys, hl1, hp⟩ ⟨rfl, hx⟩
    have ho : ds[i]? = some (ds[i]'(by omega)) := List.getElem?_eq_getElem (by omega)
    refine ⟨hw x, hs i x _ H2 _ _ hx ho s1 (by rw [hl1]; exact fun z => nomatch z) (fun y a H3 e s3 ny fy => ⟨_, s3 _ _ hl1, ?_, fun b o z => ?_, ys ++ [y], upd_same, ?_⟩) fun H3 e s3 => ⟨s1.trans s3, ys, s3 _ _ hl1, ?_⟩⟩
    · refine small_of ?_
      rw [hp.length]
      refine Nat.le_trans (List.length_filterMap_le _ _) ?_
      rw [List.length_take]
      omega
    · rw [upd_ne (ne_of_none z hD)]
      exact s3 _ _ (s1 _ _ z)
    · rw [List.take_add_one, ho, e, List.filterMap_append]
      refine Paired.snoc (Paired.mono (fun y2 a2 z => ⟨z.1, mono ys H2 _ y2 a2 hl1 z.1 ((But.of_same s3).trans But.upd) z.2⟩) hp) ⟨ny, mono ys H3 _ y a (s3 _ _ hl1) ny But.upd fy⟩
    · rw [List.take_add_one, ho, e, List.filterMap_append]
      simp only [Option.toList, List.filterMap_cons, id, List.filterMap_nil, List.append_nil]
      exact Paired.mono (fun y2 a2 z => ⟨z.1, mono ys H2 _ y2 a2 hl1 z.1 (But.of_same s3) z.2⟩) hp
  · rintro H ⟨s1, ys, hl1, hp⟩
    rw [← hl, List.take_length] at hp
    exact hd H ys s1 hl1 hp
/-- [te for s in .. if tt for s1 in .. if tt1]: os tells for each item the items that are walked of it, and what is kept of each of them -/
theorem lc2_fm {xs : List V} {os : List (Option (List V × List (Option V)))} {H1 : Hp} (ji : ItOf K a xs J H1) (hl : os.length = xs.length) (hrow : ∀ p, some p ∈ os → p.2.length = p.1.length) (hsz : (os.flatMap fun o => (o.map (·.2)).getD []).length ≤ 1000) {slot slot1 : Nat} {tt tt1 : TT} {wi1 : TI} {te : TE} {vs vs1 : List Nat} {σ : St} {D : Addr} {Qd : Hp → Prop} (hD : H1 D = none)
    (hw : ∀ x, wipe ((wipe σ vs).set slot (some x)) vs = wipe σ vs)
    (hw1 : ∀ x y, wipe ((wipe ((wipe σ vs).set slot (some x)) vs1).set slot1 (some y)) vs1 = wipe ((wipe σ vs).set slot (some x)) vs1)
    (hs : ∀ (i : Nat) (x : V) (o : Option (List V × List (Option V))) (H : Hp) (R : It → Hp → Prop) (M : Hp → Prop), xs[i]? = some x → os[i]? = some o → Same H1 H → (∀ p a1 J1 H2, o = some p → Same H H2 → a1 ≠ D → ItOf K a1 p.1 J1 H2 → R J1 H2) → (∀ H2, o = none → Same H H2 → M H2) →
      tt ((wipe σ vs).set slot (some x)) H fun b H2 => if b = true then wi1 ((wipe σ vs).set slot (some x)) H2 R else M H2)
    (hs1 : ∀ (i j : Nat) (x y : V) (p : List V × List (Option V)) (o : Option V) (H : Hp) (N : VK) (M : Hp → Prop), xs[i]? = some x → os[i]? = some (some p) → p.1[j]? = some y → p.2[j]? = some o → Same H1 H → (∀ z H2, o = some z → Same H H2 → N z H2) → (∀ H2, o = none → Same H H2 → M H2) →
      tt1 ((wipe ((wipe σ vs).set slot (some x)) vs1).set slot1 (some y)) H fun b H2 => if b = true then te ((wipe ((wipe σ vs).set slot (some x)) vs1).set slot1 (some y)) H2 N else M H2)
    (hd : ∀ H, Same H1 H → H D = some (.lst (os.flatMap fun o => ((o.map (·.2)).getD []).filterMap id)) → Qd H) :
    ∃ W : Nat → Nat → Hp → Prop, (∃ m, W 0 m (upd H1 D (.lst []))) ∧ ∀ i m H, W i m H →
      (J.stop i H ∧ Qd H) ∨ (J.go i H ∧ ∃ Nx : Hp → Prop, (∀ H', Nx H' → ∃ m', m' < m ∧ W (i + 1) m' H') ∧ ∀ x H', J.yld i H x H' → gName slot x (wipe σ vs) H' fun σ2 H2 => wipe σ2 vs = wipe σ vs ∧ tt σ2 H2 fun b H3 =>
        if b = true then wi1 σ2 H3 fun J1 H4 => ∃ W1 : Nat → Nat → Hp → Prop, (∃ m, W1 0 m H4) ∧ ∀ j k H, W1 j k H →
          (J1.stop j H ∧ Nx H) ∨ (J1.go j H ∧ ∃ Nx1 : Hp → Prop, (∀ H', Nx1 H' → ∃ k', k' < k ∧ W1 (j + 1) k' H') ∧ ∀ x H', J1.yld j H x H' → gName slot1 x (wipe σ2 vs1) H' fun σ3 H5 => wipe σ3 vs1 = wipe σ2 vs1 ∧ tt1 σ3 H5 fun b H6 =>
            if b = true then te σ3 H6 fun y H7 => ∃ acc, H7 D = some (.lst acc) ∧ acc.length < sizeLine ∧ Nx1 (upd H7 D (.lst (acc ++ [y]))) else Nx1 H6)
        else Nx H3) := by
  obtain ⟨G, w, g0, gS, _⟩ := ji.walk
  have hG : ∀ H2, Same H1 H2 → G H2 := fun H2 s => gS _ _ g0 s
  have len_le : ∀ i j p, os[i]? = some (some p) → j < p.2.length → ((os.take i).flatMap fun o => ((o.map (·.2)).getD []).filterMap id).length + ((p.2.take j).filterMap id).length < sizeLine := fun i j p ho hj => by
    have e : os = os.take i ++ some p :: os.drop (i + 1) := by
      obtain ⟨h1, h2⟩ := List.getElem?_eq_some_iff.mp ho
      rw [← h2, ← List.drop_eq_getElem_cons h1, List.take_append_drop]
    rw [e, List.flatMap_append, List.flatMap_cons, List.length_append, List.length_append] at hsz
    have le : ∀ l : List (Option (List V × List (Option V))), (l.flatMap fun o => ((o.map (·.2)).getD []).filterMap id).length ≤ (l.flatMap fun o => (o.map (·.2)).getD []).length := fun l => by
      induction l with
      | nil => exact Nat.le_refl _
      | cons o l ih =>
        rw [List.flatMap_cons, List.flatMap_cons, List.length_append, List.length_append]
        have := List.length_filterMap_le id ((o.map (·.2)).getD [])
        omega
    have h1 := le (os.take i)
    have h2 := List.length_filterMap_le id (p.2.take j)
    rw [List.length_take] at h2
    have h3 : ((some p : Option (List V × List (Option V))).map (·.2)).getD [] = p.2 := rfl
    rw [h3] at hsz
    exact small_of (by omega)
  refine nest_it w (B := fun x H' Nx => gName slot x (wipe σ vs) H' fun σ2 H2 => wipe σ2 vs = wipe σ vs ∧ tt σ2 H2 fun b H3 =>
        if b = true then wi1 σ2 H3 fun J1 H4 => ∃ W1 : Nat → Nat → Hp → Prop, (∃ m, W1 0 m H4) ∧ ∀ j k H, W1 j k H →
          (J1.stop j H ∧ Nx H) ∨ (J1.go j H ∧ ∃ Nx1 : Hp → Prop, (∀ H', Nx1 H' → ∃ k', k' < k ∧ W1 (j + 1) k' H') ∧ ∀ x H', J1.yld j H x H' → gName slot1 x (wipe σ2 vs1) H' fun σ3 H5 => wipe σ3 vs1 = wipe σ2 vs1 ∧ tt1 σ3 H5 fun b H6 =>
            if b = true then te σ3 H6 fun y H7 => ∃ acc, H7 D = some (.lst acc) ∧ acc.length < sizeLine ∧ Nx1 (upd H7 D (.lst (acc ++ [y]))) else Nx1 H6)
        else Nx H3)
    (fun i H => Same H1 H ∧ H D = some (.lst ((os.take i).flatMap fun o => ((o.map (·.2)).getD []).filterMap id))) ⟨same_new hD, upd_same⟩ (fun i H _ h => hG H h.1) ?_ fun H h => hd H h.1 (by rw [h.2, ← hl, List.take_length])
  rintro i x H H2 hi ⟨s1, hl1⟩ ⟨rfl, hx⟩
  have ho : os[i]? = some (os[i]'(by omega)) := List.getElem?_eq_getElem (by omega)
  generalize os[i]'(by omega) = o at ho
  refine ⟨hw x, hs i x o H2 _ _ hx ho s1 (fun p a1 J1 H3 e s3 na j1 => ?_) fun H3 e s3 => ⟨s1.trans s3, ?_⟩⟩
  · subst e
    obtain ⟨G1, w1, g1, _, gB⟩ := j1.walk
    have rl := hrow p (List.mem_of_getElem? ho)
    have hl3 := s3 _ _ hl1
    refine nest_it w1 (B := fun x1 H' Nx1 => gName slot1 x1 (wipe ((wipe σ vs).set slot (some x)) vs1) H' fun σ3 H5 => wipe σ3 vs1 = wipe ((wipe σ vs).set slot (some x)) vs1 ∧ tt1 σ3 H5 fun b H6 => if b = true then te σ3 H6 fun y H7 => ∃ acc, H7 D = some (.lst acc) ∧ acc.length < sizeLine ∧ Nx1 (upd H7 D (.lst (acc ++ [y]))) else Nx1 H6)
      (fun j Hj => But D H3 Hj ∧ Same H1 Hj ∧ G1 Hj ∧ Hj D = some (.lst (((os.take i).flatMap fun o => ((o.map (·.2)).getD []).filterMap id) ++ (p.2.take j).filterMap id)))
      ⟨But.of_same (Same.refl _), s1.trans s3, g1, by rw [hl3, List.take_zero, List.filterMap_nil, List.append_nil]⟩ (fun j Hj _ h => h.2.2.1) ?_ fun Hj h => ⟨h.2.1, ?_⟩
    · rintro j y Hj H4 hj ⟨bj, sj, gj, hlj⟩ ⟨rfl, hy⟩
      have ho1 : p.2[j]? = some (p.2[j]'(by omega)) := List.getElem?_eq_getElem (by omega)
      generalize p.2[j]'(by omega) = o1 at ho1
      refine ⟨hw1 x y, hs1 i j x y p o1 H4 _ _ hx ho hy ho1 sj (fun z H5 e s5 => ⟨_, s5 _ _ hlj, ?_, ?_, fun b o z => ?_, ?_, ?_⟩) fun H5 e s5 => ⟨bj.trans (But.of_same s5), sj.trans s5, gB D _ _ na gj (But.of_same s5), ?_⟩⟩
      · rw [List.length_append]
        exact len_le i j p ho (by omega)
      · exact (bj.trans (But.of_same s5)).trans But.upd
      · rw [upd_ne (ne_of_none z hD)]
        exact s5 _ _ (sj _ _ z)
      · exact gB D _ _ na gj ((But.of_same s5).trans But.upd)
      · rw [upd_same, List.take_add_one, ho1, e, List.filterMap_append, List.append_assoc]
        rfl
      · rw [s5 _ _ hlj, List.take_add_one, ho1, e, List.filterMap_append]
        simp
    · rw [h.2.2.2, ← rl, List.take_length, List.take_add_one, ho, List.flatMap_append]
      simp
  · subst e
    rw [s3 _ _ hl1, List.take_add_one, ho, List.flatMap_append]
    simp
end
theorem rd_yes {te : TE} {σ : St} {H : Hp} {N : VK} {M : Hp → Prop} (h : te σ H N) : tYes σ H fun b H2 => if b = true then te σ H2 N else M H2 := by
  show (if true = true then te σ H N else M H)
  rw [if_pos rfl]
  exact h
theorem rd_yesI {wi : TI} {σ : St} {H : Hp} {N : It → Hp → Prop} {M : Hp → Prop} (h : wi σ H N) : tYes σ H fun b H2 => if b = true then wi σ H2 N else M H2 := by
  show (if true = true then wi σ H N else M H)
  rw [if_pos rfl]
  exact h
theorem fm_some {α β : Type} (f : α → β) : ∀ l : List α, (l.map fun a => some (f a)).filterMap id = l.map f
  | [] => rfl
  | a :: l => by
    rw [List.map_cons, List.filterMap_cons_some (show id (some (f a)) = some (f a) from rfl), fm_some f l, List.map_cons]
theorem fm_if {α β : Type} (p : α → Bool) (f : α → β) : ∀ l : List α, (l.map fun a => if p a = true then some (f a) else none).filterMap id = (l.filter p).map f
  | [] => rfl
  | a :: l => by
    rw [List.map_cons]
    cases h : p a with
    | true => rw [if_pos rfl, List.filterMap_cons_some (show id (some (f a)) = some (f a) from rfl), fm_if p f l, List.filter_cons_of_pos h, List.map_cons]
    | false => rw [if_neg (by decide), List.filterMap_cons_none (show id (none : Option β) = none from rfl), fm_if p f l, List.filter_cons_of_neg (by rw [h]; decide)]
def rLenS (K : PySem.W.Frag) : List V → Hp → VK → Prop := fun xs H Q => ∃ p ys, xs = [.ref p] ∧ (SqL K H p ys ∨ SqT K H p ys) ∧ Q (.int ys.length) H
theorem call_lenS {X : Cx} : CallR X (.builtin "len") (rLenS X.K) := call_len_seq
section
variable {J : It} {K : PySem.W.Frag} {a : Addr}
def wordsD (zs : List Str) (ys : List V) : List (Key × V) := (zs.zip ys).map fun p => (Sum.inr p.1, p.2)
theorem wordsD_new {zs : List Str} {ys : List V} {z : Str} (h : z ∉ zs) : valV (wordsD zs ys) (Sum.inr z) = none := by
  unfold valV
  rw [List.find?_eq_none.mpr]
  · rfl
  · intro q hq
    obtain ⟨p, hp, rfl⟩ := List.mem_map.mp hq
    rw [decide_eq_true_eq]
    intro e
    exact h (Sum.inr.inj e ▸ (List.of_mem_zip hp).1)
theorem wordsD_snoc {zs : List Str} {ys : List V} {z : Str} {y : V} (h : zs.length = ys.length) : wordsD (zs ++ [z]) (ys ++ [y]) = wordsD zs ys ++ [(Sum.inr z, y)] := by
  unfold wordsD
  rw [List.zip_append h, List.map_append]
  rfl
/-- {word: tv for slot in ..}: ds tells of each value what it is -/
theorem dc_words {α : Type} {zs : List Str} {ds : List α} {F : Hp → V → α → Prop} {H1 : Hp} (nd : zs.Nodup) (ji : ItOf K a (zs.map V.str) J H1) (hl : ds.length = zs.length) (hsz : zs.length ≤ 1000) {slot : Nat} {tk tv : TE} {vs : List Nat} {σ : St} {D : Addr} {Qd : Hp → Prop} (hD : H1 D = none)
    (mono : ∀ kvs H H2 y d, H D = some (.dK kvs) → y ≠ .ref D → But D H H2 → F H y d → F H2 y d)
    (hw : ∀ x, wipe ((wipe σ vs).set slot (some x)) vs = wipe σ vs)
    (hs : ∀ (i : Nat) (z : Str) (d : α) (H : Hp) (N : V → V → Hp → Prop), zs[i]? = some z → ds[i]? = some d → Same H1 H → H D ≠ none → (∀ y H2, Same H H2 → y ≠ .ref D → F H2 y d → N (.str z) y H2) →
      tk ((wipe σ vs).set slot (some (.str z))) H fun k H2 => tv ((wipe σ vs).set slot (some (.str z))) H2 fun v H3 => N k v H3)
    (hd : ∀ H ys, Same H1 H → H D = some (.dK (wordsD zs ys)) → Paired (fun y d => y ≠ .ref D ∧ F H y d) ys ds → Qd H) :
    ∃ W : Nat → Nat → Hp → Prop, (∃ m, W 0 m (upd H1 D (.dK []))) ∧ ∀ i m H, W i m H →
      (J.stop i H ∧ Qd H) ∨ (J.go i H ∧ ∃ Nx : Hp → Prop, (∀ H', Nx H' → ∃ m', m' < m ∧ W (i + 1) m' H') ∧ ∀ x H', J.yld i H x H' → gName slot x (wipe σ vs) H' fun σ2 H2 => wipe σ2 vs = wipe σ vs ∧ tYes σ2 H2 fun b H3 =>
        if b = true then tk σ2 H3 fun y H4 => tv σ2 H4 fun z H5 => ∃ kvs k, y = kV k ∧ H5 D = some (.dK kvs) ∧ kvs.length < sizeLine ∧ Nx (upd H5 D (.dK (putK kvs k z))) else Nx H3) := by
  obtain ⟨G, w, g0, gS, _⟩ := ji.walk
  have hG : ∀ H2, Same H1 H2 → G H2 := fun H2 s => gS _ _ g0 s
  refine nest_it w (B := fun x H' Nx => gName slot x (wipe σ vs) H' fun σ2 H2 => wipe σ2 vs = wipe σ vs ∧ tYes σ2 H2 fun b H3 =>
        if b = true then tk σ2 H3 fun y H4 => tv σ2 H4 fun z H5 => ∃ kvs k, y = kV k ∧ H5 D = some (.dK kvs) ∧ kvs.length < sizeLine ∧ Nx (upd H5 D (.dK (putK kvs k z))) else Nx H3)
    (fun i H => Same H1 H ∧ ∃ ys, H D = some (.dK (wordsD (zs.take i) ys)) ∧ Paired (fun y d => y ≠ .ref D ∧ F H y d) ys (ds.take i)) ⟨same_new hD, [], upd_same, .nil⟩ (fun i H _ h => hG H h.1) ?_ ?_
  · rintro i x H H2 hi ⟨s1, ys, hl1, hp⟩ ⟨rfl, hx⟩
    rw [List.getElem?_map] at hx
    obtain ⟨z, hz, rfl⟩ := Option.map_eq_some_iff.mp hx
    rw [List.length_map] at hi
    have ho : ds[i]? = some (ds[i]'(by omega)) := List.getElem?_eq_getElem (by omega)
    have ly : ys.length = i := by
      rw [hp.length, List.length_take]
      omega
    refine ⟨hw _, ?_⟩
    unfold tYes
    dsimp only
    rw [if_pos rfl]
    refine hs i z _ H2 _ hz ho s1 (by rw [hl1]; exact fun q => nomatch q) fun y H3 s3 ny fy => ⟨_, Sum.inr z, rfl, s3 _ _ hl1, ?_, fun b o q => ?_, ys ++ [y], ?_, ?_⟩
    · unfold wordsD
      rw [List.length_map, List.length_zip, List.length_take]
      exact small_of (by omega)
    · rw [upd_ne (ne_of_none q hD)]
      exact s3 _ _ (s1 _ _ q)
    · have nz : z ∉ zs.take i := fun q => by
        obtain ⟨h1, h2⟩ := List.getElem?_eq_some_iff.mp hz
        have e : zs = zs.take i ++ z :: zs.drop (i + 1) := by
          rw [← h2, ← List.drop_eq_getElem_cons h1, List.take_append_drop]
        rw [e] at nd
        exact (List.nodup_append.mp nd).2.2 z q z List.mem_cons_self rfl
      rw [upd_same, putK_new _ (wordsD_new nz), List.take_add_one, hz]
      have := wordsD_snoc (zs := zs.take i) (ys := ys) (z := z) (y := y) (by rw [List.length_take]; omega)
      exact congrArg (fun q => some (HO.dK q)) this.symm
    · rw [List.take_add_one, ho]
      exact Paired.snoc (Paired.mono (fun y2 a2 q => ⟨q.1, mono _ H2 _ y2 a2 hl1 q.1 ((But.of_same s3).trans But.upd) q.2⟩) hp) ⟨ny, mono _ H3 _ y _ (s3 _ _ hl1) ny But.upd fy⟩
  · rintro H ⟨s1, ys, hl1, hp⟩
    rw [List.length_map] at hl1 hp
    rw [← hl, List.take_length] at hp
    rw [List.take_length] at hl1
    exact hd H ys s1 hl1 hp
end
end L2

set_option Elab.async false
set_option linter.all false
set_option maxRecDepth 100000
set_option maxHeartbeats 2000000
/-! Sets of tuples of ints and texts, up to 75 unlike ones: what is in them, how many there are. -/
namespace Km
open PySem PySem.Spec PyProof.Rows L2
section
variable {P : Program} {w : World} {A : Around} {E : Value → Shared → Prop} {s : Shared}
abbrev Tk := List Key
abbrev hsh (P : Program) (w : World) (k : Tk) : Int := tupleKeyHash (mixKind P w) k
/-- at a stands the tuple of these keys -/
abbrev At (P : Program) (w : World) (h : Heap) (k : Tk) (a : Addr) : Prop := IsTupleKey (mixKind P w) h k a
theorem flat_items {k : Tk} {vs : List Value} (h : ItemsAre (mixKind P w) k vs) : ∀ v ∈ vs, v.scannable = true := by
  induction h with
  | nil =>
    intro v hv
    cases hv
  | @cons k0 v0 ks us h1 _ ih =>
    intro v hv
    rcases List.mem_cons.mp hv with rfl | hv
    · rcases keyIs_shape h1 with ⟨i, t, rfl, rfl⟩ | ⟨x, t, rfl, rfl⟩ <;> rfl
    · exact ih v hv
theorem cls_flat (n : Nat) {v : Value} (h : v.scannable = true) : ofAClassStatement n v = pure false := by
  cases v <;> first | (cases h; done) | (cases n <;> rfl)
/-- no class of the program's own is in a tuple of keys -/
theorem cls_tuple {k : Tk} {b : Addr} {Q : Bool → Shared → Prop} (hk : At P w s.heap k b) (h : Q false s) : wpAny (model P w) A (ofAClassStatement 8 (.ref b)) Q E s := by
  have ty := hk.typeIs
  obtain ⟨o, its, n, ho, _, hd, hi⟩ := hk
  unfold ofAClassStatement
  refine wpAny_bind (wpAny_typeOf ty ?_)
  dsimp only
  rw [show (("tuple" : String) == "tuple") = true by decide]
  simp only [if_true, Bool.not_true, Bool.false_eq_true, if_false]
  try refine wpAny_bind (wpAny_pure ?_)
  try simp only [Bool.not_true, Bool.false_eq_true, if_false]
  show wpAny _ _ (seqItems? (.ref b) >>= _) _ _ s
  refine wpAny_bind (wpAny_seqItems ho hd ?_)
  dsimp only
  refine wpAny_bind ?_
  show wpAny _ _ (forIn its _ _) _ _ s
  rw [← Array.forIn_toList]
  refine wpAny_forIn_list _ (fun left r s2 => r.1 = none ∧ s2 = s ∧ ∀ v ∈ left, v.scannable = true) _ ?_ ?_ _ _ ⟨rfl, rfl, flat_items hi⟩
  · rintro v left r s2 ⟨_, rfl, all⟩
    rw [cls_flat _ (all v List.mem_cons_self)]
    refine wpAny_bind (wpAny_pure ?_)
    simp only [Bool.false_eq_true, if_false]
    exact wpAny_pure ⟨rfl, rfl, fun u hu => all u (List.mem_cons_of_mem _ hu)⟩
  · rintro ⟨r1, r2⟩ s2 ⟨hr, rfl, _⟩
    cases hr
    exact wpAny_pure h
/-- whether a tuple of keys has its hash by value: one or the other -/
theorem byv_tuple {k : Tk} {b : Addr} {Q : Bool → Shared → Prop} (hk : At P w s.heap k b) (h : ∀ c, Q c s) : wpAny (model P w) A (hashByValue 8 (.ref b)) Q E s := by
  have ty := hk.typeIs
  obtain ⟨o, its, n, ho, _, hd, hi⟩ := hk
  unfold hashByValue
  refine wpAny_bind (wpAny_specialOf ty F.slot_tuple_hash.lookup ?_)
  show wpAny _ _ (seqItems? (.ref b) >>= _) _ _ s
  refine wpAny_bind (wpAny_seqItems ho hd ?_)
  refine wpAny_bind ?_
  show wpAny _ _ (forIn its _ _) _ _ s
  rw [← Array.forIn_toList]
  refine wpAny_forIn_list _ (fun left r s2 => r.1 = none ∧ s2 = s ∧ ∀ v ∈ left, v.scannable = true) _ ?_ ?_ _ _ ⟨rfl, rfl, flat_items hi⟩
  · rintro v left r s2 ⟨_, rfl, all⟩
    rw [hashByValue_scannable _ (all v List.mem_cons_self)]
    refine wpAny_bind (wpAny_pure ?_)
    by_cases c : plainKind v = true
    · refine wp_if_neg (by rw [c]; decide) ?_
      exact wpAny_pure ⟨rfl, rfl, fun u hu => all u (List.mem_cons_of_mem _ hu)⟩
    · refine wp_if_pos (by simpa using c) ?_
      exact wpAny_pure (wpAny_pure (h false))
  · rintro ⟨r1, r2⟩ s2 ⟨hr, rfl, _⟩
    cases hr
    exact wpAny_pure (h true)
/-- to look for a tuple among tuples shows nothing -/
theorem quiet_look {k : Tk} {b : Addr} {Q : Bool → Shared → Prop} (hk : At P w s.heap k b) {ys : List Value} (hy : ∀ y ∈ ys, ∃ j c, y = Value.ref c ∧ At P w s.heap j c) (h : Q false s) :
    wpAny (model P w) A (searchCouldBeSeen (.ref b) ys) Q E s := by
  unfold searchCouldBeSeen
  refine wpAny_bind ?_
  refine wpAny_forIn_list _ (fun left r s2 => r.1 = none ∧ s2 = s ∧ ∀ y ∈ left, ∃ j c, y = Value.ref c ∧ At P w s.heap j c) _ ?_ ?_ _ _ ⟨rfl, rfl, hy⟩
  · rintro v left r s2 ⟨_, rfl, all⟩
    obtain ⟨j, c, rfl, hc⟩ := all v List.mem_cons_self
    have more : ∀ y ∈ left, ∃ j c, y = Value.ref c ∧ At P w s2.heap j c := fun u hu => all u (List.mem_cons_of_mem _ hu)
    dsimp only
    by_cases z : (b == c || (carriedByValue (.ref b) && carriedByValue (.ref c))) = true
    · exact wp_if_pos z (wpAny_pure ⟨rfl, rfl, more⟩)
    · refine wp_if_neg z (wpAny_bind (wpAny_eqIsQuiet_tuple hk ?_))
      simp only [Bool.not_true, Bool.false_eq_true, if_false]
      refine wpAny_bind (wpAny_eqIsQuiet_tuple hc ?_)
      simp only [Bool.not_true, Bool.false_eq_true, if_false]
      refine wpAny_bind (cls_tuple hk ?_)
      simp only [Bool.false_eq_true, if_false]
      refine wpAny_bind (cls_tuple hc ?_)
      simp only [Bool.false_eq_true, if_false]
      exact wpAny_pure ⟨rfl, rfl, more⟩
  · rintro ⟨r1, r2⟩ s2 ⟨hr, rfl, _⟩
    cases hr
    exact wpAny_pure h
end
/-! the table's rows -/
section
variable {P : Program} {w : World} {A : Around} {E : Value → Shared → Prop} {s : Shared}
abbrev Ent := Addr × Tk
def rowOf (P : Program) (w : World) (p : Ent) : Int × Value := (hsh P w p.2, Value.ref p.1)
structure Tab (P : Program) (w : World) (h : Heap) (a : Addr) (L : List Ent) (es : Array (Int × Value)) (ep : Nat) (t : SetTable) : Prop where
  ob : ∃ o, h.get? a = some o ∧ o.ExactSet ∧ o.data = .set es ep t
  rows : es.toList = L.map (rowOf P w)
  tab : TabOk t (L.map fun p => hsh P w p.2)
  nd : (L.map (·.2)).Nodup
  tup : ∀ p ∈ L, At P w h p.2 p.1
  room : L.length * 5 < t.mask * 3
variable {a : Addr} {L : List Ent} {es : Array (Int × Value)} {ep : Nat} {t : SetTable}
theorem rows_size (h : es.toList = L.map (rowOf P w)) : es.size = L.length := by
  rw [← Array.length_toList, h, List.length_map]
theorem rows_get (hr : es.toList = L.map (rowOf P w)) {i : Nat} {p : Ent} (h : L[i]? = some p) : es[i]? = some (rowOf P w p) := by
  rw [← Array.getElem?_toList, hr, List.getElem?_map, h]
  rfl
theorem fits_of (hp : t.place.size = es.size) (hd : t.dummies = #[]) (hm : es.size ≤ t.mask) : t.fits es.size = true := by
  unfold SetTable.fits SetTable.fill
  rw [hd, Bool.and_eq_true, beq_iff_eq, decide_eq_true_eq]
  exact ⟨hp, (by show t.place.size + 0 ≤ t.mask; omega)⟩
theorem Tab.places (R : Tab P w s.heap a L es ep t) : t.place.size = es.size := by
  have := R.tab.sz
  rw [List.length_map] at this
  rw [this, rows_size R.rows]
theorem Tab.fits (R : Tab P w s.heap a L es ep t) : t.fits es.size = true := by
  have := R.room
  exact fits_of R.places R.tab.dm (by rw [rows_size R.rows]; omega)
theorem Tab.odd (R : Tab P w s.heap a L es ep t) : ¬ t.gaveWay = true := by
  unfold SetTable.gaveWay
  rw [mask_odd R.tab.mok]
  decide
/-- the c-th probe for a hash -/
abbrev prb (m : Nat) (h : Int) (c : Nat) : SetTable.Probe := nth m (runAt m (SetTable.bits h % (m + 1)) (SetTable.bits h)) c
theorem prb_clean (m : Nat) (h : Int) (c : Nat) : (prb m h c).dummy = none := by
  have key : ∀ (n : Nat) (p : SetTable.Probe), p.dummy = none → (nth m p n).dummy = none := by
    intro n
    induction n with
    | zero => exact fun _ e => e
    | succ n ih =>
      intro p e
      refine ih (adv m p) ?_
      unfold adv
      split <;> exact e
  exact key c _ rfl
theorem prb_on (m : Nat) (h : Int) (c q : Nat) : nth m (prb m h c) q = prb m h (c + q) := (nth_add m c _ q).symm
theorem prb_way (m : Nat) (h : Int) (c q : Nat) : (nth m (prb m h c) q).j = way m h (c + q) := congrArg SetTable.Probe.j (prb_on m h c q)
end
/-! the search -/
section
variable {P : Program} {w : World} {A : Around} {E : Value → Shared → Prop} {s : Shared} {a : Addr} {L : List Ent} {es : Array (Int × Value)} {ep : Nat} {t : SetTable}
/-- from the c-th probe on, f probes at most; z is the first empty place's number -/
theorem look_from (R : Tab P w s.heap a L es ep t) {x : Addr} {k : Tk} (hx : At P w s.heap k x) (hu : A.units < cLine) {z : Nat} (hz : z < 10 * SetTable.turns t.mask) (free : way t.mask (hsh P w k) z ∉ t.place.toList)
    (full : ∀ c, c < z → way t.mask (hsh P w k) c ∈ t.place.toList) {Q : SetFound → Shared → Prop} (yes : k ∈ L.map (·.2) → Q (.there none) s) (no : k ∉ L.map (·.2) → Q (.free (way t.mask (hsh P w k) z) false) s) :
    ∀ (f c : Nat) (at_ : Option SetTable.Probe), at_.getD (t.probeStart (hsh P w k)) = prb t.mask (hsh P w k) c → c ≤ z → z - c < f →
      (∀ (i : Nat) (p : Ent), L[i]? = some p → p.2 = k → ∃ d, c ≤ d ∧ d < z ∧ t.place.toList[i]? = some (way t.mask (hsh P w k) d)) →
      wpAny (model P w) A (setSearchFrom a (.ref x) (hsh P w k) true f at_) Q E s
  | 0, _, _, _, _, q, _ => absurd q (Nat.not_lt_zero _)
  | f + 1, c, at_, e0, cz, fz, ahead => by
    obtain ⟨o, ho, ex, hd⟩ := R.ob
    have fit := R.fits
    rw [setSearchFrom_succ]
    refine wpAny_bind (wpAny_setState_of ho hd fit ?_)
    dsimp only
    refine wp_if_neg R.odd ?_
    try refine wpAny_bind (wpAny_pure ?_)
    have hash_at : ∀ (i : Nat) (p : Ent), L[i]? = some p → (es[i]?.map (·.1)).getD 0 = hsh P w p.2 := fun i p hp => by
      rw [rows_get R.rows hp]
      rfl
    -- nothing of the key is passed by: where it stands ahead, its number is at least d's
    have probe := go_spec t R.tab.ris R.tab.dm (fun i => (es[i]?.map (·.1)).getD 0) (hsh P w k) (10 * SetTable.turns t.mask) (z - c) _ (prb_clean t.mask (hsh P w k) c) (by omega)
      (fun q hq => by rw [prb_way]; exact full (c + q) (by omega)) (by rw [prb_way, show c + (z - c) = z by omega]; exact free)
    rcases probe with ⟨q, i, hq, hi, _, before, hp⟩ | ⟨none_, hp⟩
    · rw [prb_way] at hi
      have hp2 : t.probe (fun i => (es[i]?.map (·.1)).getD 0) (hsh P w k) (at_.getD (t.probeStart (hsh P w k))) = some (.candidate (way t.mask (hsh P w k) (c + q)) i (prb t.mask (hsh P w k) (c + (q + 1)))) := by
        rw [e0, ← prb_way, ← prb_on]
        exact hp
      rw [hp2]
      dsimp only
      have il : i < L.length := by
        have h1 := (List.getElem?_eq_some_iff.mp hi).1
        rw [Array.length_toList, R.places, rows_size R.rows] at h1
        exact h1
      obtain ⟨p, lp⟩ : ∃ p, L[i]? = some p := ⟨_, List.getElem?_eq_getElem il⟩
      have pm := List.mem_of_getElem? lp
      have ent := rows_get R.rows lp
      have behind : wpAny (model P w) A (searchRest a (.ref x) (hsh P w k) true f es t (way t.mask (hsh P w k) (c + q)) i (prb t.mask (hsh P w k) (c + (q + 1)))) Q E s := by
        unfold searchRest
        rw [ent]
        dsimp only [rowOf]
        refine wpAny_bind (wpAny_holding (wpAny_eqBool_tuple hu (R.tup p pm) hx ?_))
        refine wpAny_bind (wpAny_setState_of ho hd fit ?_)
        dsimp only
        by_cases same : p.2 = k
        · refine wp_if_pos (by rw [decide_eq_true same]; rfl) (wpAny_pure (yes ?_))
          exact List.mem_map.mpr ⟨p, pm, same⟩
        · have nb : ¬ (true && decide (p.2 = k)) = true := by
            rw [decide_eq_false same]
            decide
          refine wp_if_neg nb ?_
          try refine wpAny_bind (wpAny_pure ?_)
          rw [sameMem]
          dsimp only
          have sl : t.slot (way t.mask (hsh P w k) (c + q)) = .live i := slot_live R.tab.ris hi
          simp only [if_true, sl, ent, rowOf]
          refine wpAny_bind (wpAny_isSame_ref_self (wpAny_bind (wpAny_pure ?_)))
          simp only [if_true]
          refine wp_if_neg (by rw [decide_eq_false same]; decide) ?_
          refine look_from R hx hu hz free full yes no f (c + (q + 1)) _ rfl (by omega) (by omega) fun i2 p2 l2 k2 => ?_
          obtain ⟨d, d1, d2, d3⟩ := ahead i2 p2 l2 k2
          refine ⟨d, ?_, d2, d3⟩
          by_cases g1 : d < c + q
          · refine absurd ?_ (before (d - c) i2 (by omega) (by rw [prb_way, show c + (d - c) = d by omega]; exact d3))
            exact (hash_at i2 p2 l2).trans (congrArg (hsh P w) k2)
          · by_cases g2 : d = c + q
            · rw [g2] at d3
              have s2 := slot_live R.tab.ris d3
              rw [sl] at s2
              injection s2 with s2
              rw [← s2, lp] at l2
              exact absurd ((congrArg Prod.snd (Option.some.inj l2)).trans k2) same
            · omega
      by_cases led : t.led = true
      · refine wp_if_neg (by rw [led]; decide) ?_
        try refine wpAny_bind (wpAny_pure ?_)
        exact behind
      · refine wp_if_pos (by simpa using led) (wpAny_bind (quiet_look hx (fun y hy => ?_) ?_))
        · obtain ⟨e, he, rfl⟩ := List.mem_map.mp hy
          have h1 : e ∈ es.toList := by
            have : e ∈ es ∧ e.1 = hsh P w k := by simpa using he
            simpa using this.1
          rw [R.rows] at h1
          obtain ⟨p2, hp2, rfl⟩ := List.mem_map.mp h1
          exact ⟨p2.2, p2.1, rfl, R.tup p2 hp2⟩
        · refine wp_if_neg (by decide) ?_
          try refine wpAny_bind (wpAny_pure ?_)
          exact behind
    · have hp2 : t.probe (fun i => (es[i]?.map (·.1)).getD 0) (hsh P w k) (at_.getD (t.probeStart (hsh P w k))) = some (.empty (way t.mask (hsh P w k) z) none) := by
        have e2 : way t.mask (hsh P w k) z = (nth t.mask (prb t.mask (hsh P w k) c) (z - c)).j := by
          rw [prb_way, show c + (z - c) = z by omega]
        rw [e0, e2]
        exact hp
      rw [hp2]
      refine wpAny_pure (no fun hm => ?_)
      obtain ⟨p, pm, pk⟩ := List.mem_map.mp hm
      obtain ⟨i, hi, ei⟩ := List.getElem_of_mem pm
      have lp : L[i]? = some p := by rw [List.getElem?_eq_getElem hi, ei]
      obtain ⟨d, d1, d2, d3⟩ := ahead i p lp pk
      exact none_ (d - c) i (by omega) (by rw [prb_way, show c + (d - c) = d by omega]; exact d3) ((hash_at i p lp).trans (congrArg (hsh P w) pk))
theorem look (R : Tab P w s.heap a L es ep t) {x : Addr} {k : Tk} (hx : At P w s.heap k x) (hu : A.units < cLine) {Q : SetFound → Shared → Prop} (yes : k ∈ L.map (·.2) → Q (.there none) s)
    (no : ∀ z, k ∉ L.map (·.2) → way t.mask (hsh P w k) z ∉ t.place.toList → (∀ c, c < z → way t.mask (hsh P w k) c ∈ t.place.toList) → Q (.free (way t.mask (hsh P w k) z) false) s) :
    wpAny (model P w) A (setSearch a (.ref x) (hsh P w k) true) Q E s := by
  have hr := R.room
  obtain ⟨z, hz, free, full⟩ := R.tab.first (by rw [List.length_map]; omega) (hsh P w k)
  have top : 10 * SetTable.turns t.mask ≤ 1420 := by
    unfold SetTable.turns
    rcases R.tab.mok with e | e | e <;> omega
  unfold setSearch
  refine look_from R hx hu hz free full yes (fun hn => no z hn free full) 100000 0 none rfl (Nat.zero_le _) (by omega) fun i p lp pk => ?_
  have hi : (L.map fun p => hsh P w p.2)[i]? = some (hsh P w k) := by
    rw [List.getElem?_map, lp, ← pk]
    rfl
  have il : i < t.place.toList.length := by
    rw [Array.length_toList, R.places, rows_size R.rows]
    exact (List.getElem?_eq_some_iff.mp lp).1
  obtain ⟨d, hd, ed⟩ := R.tab.before free hi (List.getElem?_eq_getElem il)
  exact ⟨d, Nat.zero_le _, hd, by rw [ed]; exact List.getElem?_eq_getElem il⟩
end
/-! adding -/
section
variable {P : Program} {w : World} {A : Around} {E : Value → Shared → Prop} {s : Shared} {a : Addr} {L : List Ent} {es : Array (Int × Value)} {ep : Nat} {t : SetTable}
theorem At.other {h h2 : Heap} {k : Tk} {b : Addr} {o : Obj} (x : At P w h k b) (ho : h.get? a = some o) (hd : o.data = .set es ep t) (sb : Heap.SameBut a h h2) : At P w h2 k b := by
  obtain ⟨o2, its, n, e, hc, d2, hi⟩ := x
  have ne : b ≠ a := by
    rintro rfl
    rw [ho] at e
    cases e
    rw [hd] at d2
    cases d2
  exact ⟨o2, its, n, by rw [sb.2 b ne]; exact e, hc, d2, hi⟩
/-- the rows in another order -/
theorem rows_perm (hr : es.toList = L.map (rowOf P w)) {order : Array Nat} (hp : order.toList.Perm (List.range L.length)) :
    ∃ L2 : List Ent, (order.filterMap (es[·]?)).toList = L2.map (rowOf P w) ∧ L2.Perm L ∧ (L2.map fun p => hsh P w p.2) = order.toList.map fun i => (es.map (·.1)).getD i 0 := by
  have each : ∀ is : List Nat, (∀ i ∈ is, i < L.length) → is.filterMap (fun i => es[i]?) = (is.filterMap fun i => L[i]?).map (rowOf P w) ∧ ((is.filterMap fun i => L[i]?).map fun p => hsh P w p.2) = is.map fun i => (es.map (·.1)).getD i 0 := by
    intro is
    induction is with
    | nil => exact fun _ => ⟨rfl, rfl⟩
    | cons i is ih =>
      intro hl
      obtain ⟨h1, h2⟩ := ih fun j hj => hl j (List.mem_cons_of_mem _ hj)
      have e := List.getElem?_eq_getElem (hl i List.mem_cons_self)
      have e2 := rows_get hr e
      have e3 : (es.map (·.1)).getD i 0 = hsh P w (L[i]'(hl i List.mem_cons_self)).2 := by
        rw [Array.getD_eq_getD_getElem?, Array.getElem?_map, e2]
        rfl
      constructor
      · rw [List.filterMap_cons_some e2, List.filterMap_cons_some e, h1]
        rfl
      · rw [List.filterMap_cons_some e, List.map_cons, List.map_cons, h2, e3]
  have whole : ∀ n, n ≤ L.length → (List.range n).filterMap (fun i => L[i]?) = L.take n := by
    intro n
    induction n with
    | zero => exact fun _ => rfl
    | succ n ih =>
      intro hn
      have e := List.getElem?_eq_getElem (show n < L.length from hn)
      rw [List.range_succ, List.filterMap_append, ih (Nat.le_of_lt hn), List.take_add_one, e, List.filterMap_cons_some e]
      rfl
  obtain ⟨h1, h2⟩ := each order.toList fun i hi => List.mem_range.mp (hp.mem_iff.mp hi)
  refine ⟨_, ?_, ?_, h2⟩
  · rw [Array.toList_filterMap]
    exact h1
  · have := hp.filterMap fun i => L[i]?
    rw [whole _ (Nat.le_refl _), List.take_length] at this
    exact this
/-- the table laid anew for as many as wanted -/
theorem relay {o : Obj} (ho : s.heap.get? a = some o) (ex : o.ExactSet) (hd : o.data = .set es ep t) (hr : es.toList = L.map (rowOf P w)) (hsz : t.place.size = es.size) (hdm : t.dummies = #[]) (hm : es.size ≤ t.mask)
    (nd : (L.map (·.2)).Nodup) (tup : ∀ p ∈ L, At P w s.heap p.2 p.1) {wanted M : Nat} (hw : SetTable.sizeAbove wanted - 1 = M) (hM : MaskOk M) (small : SetTable.sizeAbove wanted ≤ 128) (room : L.length * 5 < M * 3) {Q : Unit → Shared → Prop}
    (hQ : ∀ h2 L2 es2 ep2 t2, Heap.SameBut a s.heap h2 → Tab P w h2 a L2 es2 ep2 t2 → L2.Perm L → Q () { s with heap := h2 }) : wpAny (model P w) A (setRelay a wanted) Q E s := by
  have sz := rows_size hr
  obtain ⟨t2, order, e, perm, T, em, _, _, ed⟩ := relaid_ok t (hs := es.map (·.1)) (wanted := wanted) hw hM (by rw [Array.size_map, sz]; omega)
  rw [Array.size_map, sz] at perm
  obtain ⟨L2, r1, r2, r3⟩ := rows_perm hr perm
  rw [← r3] at T
  have sz2 : (order.filterMap (es[·]?)).size = es.size := by
    rw [rows_size r1, sz]
    exact r2.length_eq
  rw [setRelay_eq]
  refine wpAny_bind (wpAny_setState_of ho hd (fits_of hsz hdm hm) ?_)
  dsimp only
  refine wp_if_neg (by rw [sizeLine_eq]; omega) ?_
  try refine wpAny_bind (wpAny_pure ?_)
  rw [e]
  dsimp only
  refine wpAny_bind (wp_if_neg (by rw [sz2]; simp) ?_)
  try refine wpAny_bind (wpAny_pure ?_)
  refine wpAny_pure ?_
  dsimp only
  have l2 : L.length < 128 := by
    rcases hM with e | e | e <;> omega
  refine wpAny_storeSet_of ho hd ?_ (by rw [sz2, sz, sizeLine_eq]; omega)
  have sb : Heap.SameBut a s.heap (s.heap.update a (Obj.putSet (order.filterMap (es[·]?)) t2)) := Heap.SameBut.update ..
  refine hQ _ L2 _ (ep + 1) t2 sb ⟨⟨_, store_at ho hd, ⟨ex.1, ex.2.1, ex.2.2⟩, rfl⟩, r1, T, ?_, fun p hp => (tup p (r2.mem_iff.mp hp)).other ho hd sb, ?_⟩ r2
  · exact (r2.map (·.2)).nodup_iff.mpr nd
  · rw [r2.length_eq, em]
    exact room
theorem add (R : Tab P w s.heap a L es ep t) {x : Addr} {k : Tk} (hx : At P w s.heap k x) (hu : A.units < cLine) (few : L.length + 1 ≤ 75) {Q : Bool → Shared → Prop}
    (hQ : ∀ b h2 L2 es2 ep2 t2, Heap.SameBut a s.heap h2 → Tab P w h2 a L2 es2 ep2 t2 → (k ∈ L.map (·.2) → L2 = L) → (k ∉ L.map (·.2) → L2.Perm ((x, k) :: L)) → Q b { s with heap := h2 }) :
    wpAny (model P w) A (setAddHashed a (.ref x) (hsh P w k)) Q E s := by
  obtain ⟨o, ho, ex, hd⟩ := R.ob
  have fit := R.fits
  have sz := rows_size R.rows
  have room := R.room
  unfold setAddHashed
  refine wpAny_holding ?_
  rw [show (100000 : Nat) = 99999 + 1 from rfl, setAddHashedIn_succ]
  refine wpAny_bind (wpAny_setState_of ho hd fit ?_)
  dsimp only
  refine wp_if_neg (by simp [byScan, Value.scannable]) ?_
  try refine wpAny_bind (wpAny_pure ?_)
  refine wpAny_bind (look R hx hu (fun hm => ?_) fun z hm free full => ?_)
  · exact wpAny_pure (hQ false s.heap L es ep t (Heap.SameBut.refl a s.heap) R (fun _ => rfl) fun q => absurd hm q)
  dsimp only
  refine wpAny_bind (wpAny_setState_of ho hd fit ?_)
  dsimp only
  obtain ⟨q1, _, T1, mask1, _, _, _, _, fill1⟩ := R.tab.put free full
  generalize t.put (way t.mask (hsh P w k) z) = pt at q1 T1 mask1 fill1 ⊢
  obtain ⟨t1, at1⟩ := pt
  dsimp only at q1 T1 mask1 fill1 ⊢
  rw [← q1] at T1
  have rows1 : (SetTable.insertAt es at1 (hsh P w k, Value.ref x)).toList = (L.take at1 ++ (x, k) :: L.drop at1).map (rowOf P w) := by
    rw [SetTable.toList_insertAt, R.rows, List.map_append, List.map_cons, List.map_take, List.map_drop]
    rfl
  have pm := put_perm L at1 (x, k)
  have hs1 : (L.take at1 ++ (x, k) :: L.drop at1).map (fun p => hsh P w p.2) = (L.map fun p => hsh P w p.2).take at1 ++ hsh P w k :: (L.map fun p => hsh P w p.2).drop at1 := by
    rw [List.map_append, List.map_cons, List.map_take, List.map_drop]
  rw [← hs1] at T1
  generalize L.take at1 ++ (x, k) :: L.drop at1 = L1 at pm rows1 T1
  have len1 : L1.length = L.length + 1 := pm.length_eq
  have nd1 : (L1.map (·.2)).Nodup := by
    refine (pm.map (·.2)).nodup_iff.mpr ?_
    rw [List.map_cons, List.nodup_cons]
    exact ⟨hm, R.nd⟩
  generalize SetTable.insertAt es at1 (hsh P w k, Value.ref x) = es1 at rows1 ⊢
  have sz1 : es1.size = L.length + 1 := by rw [rows_size rows1, len1]
  -- the rest, whatever is told of the hash
  have rest : ∀ t2 : SetTable, t2.place = t1.place → t2.dummies = t1.dummies → t2.mask = t1.mask →
      wpAny (model P w) A (do
        storeSet a es1 t2
        if t2.tooFull then setRelay a (SetTable.grown (es.size + 1))
        return true) Q E s := fun t2 ep_ ed_ em_ => by
    have T2 : TabOk t2 (L1.map fun p => hsh P w p.2) := by
      refine ⟨by rw [ep_]; exact T1.ris, by rw [ed_]; exact T1.dm, by rw [ep_]; exact T1.sz, by rw [em_]; exact T1.mok, by rw [ep_, em_]; exact T1.bd, ?_⟩
      rw [ep_, em_]
      exact T1.reach
    have m2 : t2.mask = t.mask := em_.trans mask1
    have f2 : t2.fill = L.length + 1 := by
      have := fill1
      rw [List.length_map] at this
      unfold SetTable.fill at this ⊢
      rw [ep_, ed_]
      exact this
    refine wpAny_bind (wpAny_storeSet_of ho hd ?_ (by rw [sz1, sizeLine_eq]; omega))
    have sb : Heap.SameBut a s.heap (s.heap.update a (Obj.putSet es1 t2)) := Heap.SameBut.update ..
    have ho1 := store_at (es' := es1) (t' := t2) ho hd
    generalize s.heap.update a (Obj.putSet es1 t2) = h1 at sb ho1 ⊢
    have tup1 : ∀ p ∈ L1, At P w h1 p.2 p.1 := fun p hp => by
      rcases List.mem_cons.mp (pm.mem_iff.mp hp) with rfl | hp
      · exact hx.other ho hd sb
      · exact (R.tup p hp).other ho hd sb
    by_cases full2 : t2.tooFull = true
    · have bound : (L.length + 1) * 5 ≥ t.mask * 3 := by
        have := full2
        unfold SetTable.tooFull at this
        rw [decide_eq_true_eq, f2, m2] at this
        exact this
      have go : ∀ M, SetTable.sizeAbove (SetTable.grown (L.length + 1)) - 1 = M → MaskOk M → SetTable.sizeAbove (SetTable.grown (L.length + 1)) ≤ 128 → (L.length + 1) * 5 < M * 3 →
          wpAny (model P w) A (setRelay a (SetTable.grown (L.length + 1))) (fun _ s2 => wpAny (model P w) A (pure true) Q E s2) E { s with heap := h1 } := fun M hw hM hsm hro => by
        refine relay (s := { s with heap := h1 }) ho1 ⟨ex.1, ex.2.1, ex.2.2⟩ rfl rows1 ?_ T2.dm ?_ nd1 tup1 hw hM hsm (by rw [len1]; exact hro) fun h2 L2 es2 ep2 t3 sb2 R2 pm2 => ?_
        · have := T2.sz
          rw [List.length_map, len1] at this
          rw [this, sz1]
        · rw [sz1, m2]
          rcases R.tab.mok with e | e | e <;> omega
        · exact wpAny_pure (hQ true h2 L2 es2 ep2 t3 (sb.trans sb2) R2 (fun q => absurd q hm) fun _ => pm2.trans pm)
      have two : (t.mask = 7 ∧ L.length = 4) ∨ (t.mask = 31 ∧ L.length = 18) := by
        rcases R.tab.mok with e | e | e <;> rw [e] at bound room
        · exact .inl ⟨e, by omega⟩
        · exact .inr ⟨e, by omega⟩
        · omega
      rw [sz]
      first
        | (refine wpAny_bind ?_; refine wp_if_pos full2 ?_)
        | (refine wp_if_pos full2 ?_; refine wpAny_bind ?_)
      rcases two with ⟨_, e⟩ | ⟨_, e⟩
      · exact go 31 (by rw [e, size_20]) (.inr (.inl rfl)) (by rw [e, size_20]; decide) (by omega)
      · exact go 127 (by rw [e, size_76]) (.inr (.inr rfl)) (by rw [e, size_76]; decide) (by omega)
    · first
        | refine wp_if_neg full2 ?_
        | (refine wpAny_bind ?_; refine wp_if_neg full2 ?_; refine wpAny_pure ?_)
      refine wpAny_pure (hQ true h1 L1 es1 (ep + 1) t2 sb ⟨⟨_, ho1, ⟨ex.1, ex.2.1, ex.2.2⟩, rfl⟩, rows1, T2, nd1, tup1, ?_⟩ (fun q => absurd q hm) fun _ => pm)
      have := full2
      unfold SetTable.tooFull at this
      rw [decide_eq_true_eq, f2] at this
      rw [len1]
      omega
  have step : ∀ c : Bool, wpAny (model P w) A (do
        storeSet a es1 (if c then t1 else { t1 with plain := false })
        if !false && (if c then t1 else { t1 with plain := false }).tooFull then setRelay a (SetTable.grown (es.size + 1))
        return true) Q E s := fun c => by
    rw [show (!false) = true from rfl]
    simp only [Bool.true_and]
    cases c
    · exact rest { t1 with plain := false } rfl rfl rfl
    · exact rest t1 rfl rfl rfl
  by_cases pl : t1.plain = true
  · first
      | (refine wpAny_bind ?_; refine wp_if_pos pl ?_; exact byv_tuple hx step)
      | exact wp_if_pos pl (wpAny_bind (byv_tuple hx step))
  · first
      | (refine wpAny_bind ?_; refine wp_if_neg pl ?_; exact wpAny_pure (step true))
      | exact wp_if_neg pl (wpAny_bind (wpAny_pure (step true)))
end
/-! filling -/
section
variable {P : Program} {w : World} {A : Around} {E : Value → Shared → Prop} {s : Shared}
/-- of the first i: each of what is there is one of them, each of them has its like there -/
structure Has (ks : List Ent) (i : Nat) (L : List Ent) : Prop where
  sub : ∀ p ∈ L, p ∈ ks.take i
  all : ∀ p ∈ ks.take i, p.2 ∈ L.map (·.2)
theorem Has.next {ks L L2 : List Ent} {i : Nat} {x : Ent} (g : Has ks i L) (h : ks[i]? = some x) (old : x.2 ∈ L.map (·.2) → L2 = L) (new : x.2 ∉ L.map (·.2) → L2.Perm (x :: L)) : Has ks (i + 1) L2 := by
  have e : ks.take (i + 1) = ks.take i ++ [x] := by
    rw [List.take_add_one, h]
    rfl
  by_cases c : x.2 ∈ L.map (·.2)
  · rw [old c]
    refine ⟨fun p hp => by rw [e]; exact List.mem_append_left _ (g.sub p hp), fun p hp => ?_⟩
    rw [e] at hp
    rcases List.mem_append.mp hp with hp | hp
    · exact g.all p hp
    · rw [List.mem_singleton.mp hp]
      exact c
  · have pm := new c
    refine ⟨fun p hp => ?_, fun p hp => ?_⟩
    · rw [e]
      rcases List.mem_cons.mp (pm.mem_iff.mp hp) with rfl | hp
      · exact List.mem_append_right _ (List.mem_singleton.mpr rfl)
      · exact List.mem_append_left _ (g.sub p hp)
    · rw [(pm.map (·.2)).mem_iff, List.map_cons]
      rw [e] at hp
      rcases List.mem_append.mp hp with hp | hp
      · exact List.mem_cons_of_mem _ (g.all p hp)
      · rw [List.mem_singleton.mp hp]
        exact List.mem_cons_self
theorem Has.keys {ks L : List Ent} {i : Nat} (g : Has ks i L) (k : Tk) : k ∈ L.map (·.2) ↔ k ∈ uniq ((ks.take i).map (·.2)) := by
  rw [mem_uniq]
  constructor
  · intro h
    obtain ⟨p, hp, rfl⟩ := List.mem_map.mp h
    exact List.mem_map.mpr ⟨p, g.sub p hp, rfl⟩
  · intro h
    obtain ⟨p, hp, rfl⟩ := List.mem_map.mp h
    exact g.all p hp
theorem nodup_le {α : Type} [DecidableEq α] : ∀ {l d : List α}, l.Nodup → (∀ x ∈ l, x ∈ d) → l.length ≤ d.length
  | [], _, _, _ => Nat.zero_le _
  | x :: l, d, nd, h => by
    have hx := h x List.mem_cons_self
    rw [List.nodup_cons] at nd
    have := nodup_le (l := l) (d := d.erase x) nd.2 fun y hy => (List.mem_erase_of_ne fun e : y = x => nd.1 (by rw [← e]; exact hy)).mpr (h y (List.mem_cons_of_mem _ hy))
    rw [List.length_erase_of_mem hx] at this
    have : 0 < d.length := List.length_pos_of_mem hx
    rw [List.length_cons]
    omega
theorem addU_nd {K : Type} [DecidableEq K] {l : List K} {k : K} (h : l.Nodup) : (addU l k).Nodup := by
  unfold addU
  split
  · exact h
  · rename_i c
    exact List.nodup_append.mpr ⟨h, by simp, fun a ha b hb e => c (by rw [List.mem_singleton.mp hb] at e; exact e ▸ ha)⟩
theorem uniq_nd {K : Type} [DecidableEq K] (ks : List K) : (uniq ks).Nodup := by
  induction ks using rev_ind with
  | h0 => exact List.nodup_nil
  | h1 l k ih =>
    rw [uniq_snoc]
    exact addU_nd ih
theorem Has.len {ks L : List Ent} {i : Nat} (g : Has ks i L) (nd : (L.map (·.2)).Nodup) : L.length = (uniq ((ks.take i).map (·.2))).length := by
  have := ((List.perm_ext_iff_of_nodup nd (uniq_nd _)).mpr g.keys).length_eq
  rw [List.length_map] at this
  exact this
theorem At.keep {h h2 : Heap} {k : Tk} {b : Addr} (x : At P w h k b) (m : ∀ c o, h.get? c = some o → h2.get? c = some o) : At P w h2 k b := by
  obtain ⟨o, its, n, ho, r⟩ := x
  exact ⟨o, its, n, m b o ho, r⟩
theorem Tab.keep {h h2 : Heap} {a : Addr} {L : List Ent} {es : Array (Int × Value)} {ep : Nat} {t : SetTable} (R : Tab P w h a L es ep t) (m : ∀ o, h.get? a = some o → h2.get? a = some o) (tup : ∀ p ∈ L, At P w h2 p.2 p.1) : Tab P w h2 a L es ep t := by
  obtain ⟨o, ho, r⟩ := R.ob
  exact ⟨⟨o, m o ho, r⟩, R.rows, R.tab, R.nd, tup, R.room⟩
theorem tab_fresh {h : Heap} {a : Addr} {led : Bool} (ho : h.get? a = some (fresh led)) : Tab P w h a [] #[] 0 (.fresh 0 0 led) where
  ob := ⟨_, ho, ⟨rfl, rfl, rfl⟩, rfl⟩
  rows := rfl
  tab := ⟨List.Pairwise.nil, rfl, rfl, .inl rfl, fun x hx => (by cases hx), fun i h j hi => (by simp at hi)⟩
  nd := List.nodup_nil
  tup := fun p hp => (by cases hp)
  room := (by show 0 * 5 < 7 * 3; decide)
variable {R : Result → Shared → Prop} {I S : Addr} {fp wr : List Addr} {G : Array GenState → Array GenState → Prop} {n : Nat} {Pi : Nat → Value → Prop} {St : Nat → Shared → Prop}
theorem fillT (W : WalksS P w A.in1 I fp wr G n Pi St) (hS : S ∉ fp) (ks : List Ent) (hn : ks.length = n) (few : (uniq (ks.map (·.2))).length ≤ 74) (hval : ∀ i v, Pi i v → ∃ p, ks[i]? = some p ∧ v = .ref p.1)
    (h0 : Heap) (hk : ∀ p ∈ ks, At P w h0 p.2 p.1) (nS : h0.get? S = none) (nw : ∀ b ∈ wr, h0.get? b = none) (hu : A.in1.units < cLine) :
    ∀ (left i : Nat) (s : Shared), left = n - i → i ≤ n → St i s → (∀ b o, h0.get? b = some o → s.heap.get? b = some o) → (∃ L es ep t, Tab P w s.heap S L es ep t ∧ Has ks i L) →
      (∀ s2 L es ep t, Moved (S :: wr) G s s2 → Tab P w s2.heap S L es ep t → Has ks n L → (∀ b o, h0.get? b = some o → s2.heap.get? b = some o) → R (.ok (.ret .none)) s2) →
      codeAny (model P w) A (.builtin "set.update.loop" ⟨[.ref S, .ref I], []⟩) R s := by
  have hw : S ∉ wr := fun q => hS (W.sub _ q)
  have more : ∀ b ∈ wr, b ∈ S :: wr := fun b hb => List.mem_cons_of_mem _ hb
  have still : ∀ {s s2 : Shared}, Moved wr G s s2 → (∀ b o, h0.get? b = some o → s.heap.get? b = some o) → ∀ b o, h0.get? b = some o → s2.heap.get? b = some o := fun mv m b o e =>
    mv.heap b o (fun hb => by rw [nw b hb] at e; cases e) (m b o e)
  intro left
  induction left with
  | zero =>
    intro i s hl hi st m ⟨L, es, ep, t, T, g⟩ hR
    obtain rfl : i = n := by omega
    refine codeAny_builtin PyProof.Rows.F.entry_set_update_loop ?_
    rw [Around.under_plainId PyProof.Rows.F.plain_set_update_loop _]
    refine wpAny_bind (W.done s _ _ st fun s2 mv => ?_)
    have m2 := still mv m
    exact wpAny_pure (hR s2 L es ep t (mv.mono more) (T.keep (fun o e => mv.heap S o hw e) fun p hp => (hk p (List.mem_of_mem_take (g.sub p hp))).keep m2) g m2)
  | succ left ih =>
    intro i s hl hi st m ⟨L, es, ep, t, T, g⟩ hR
    have lt : i < n := by omega
    refine codeAny_builtin PyProof.Rows.F.entry_set_update_loop ?_
    rw [Around.under_plainId PyProof.Rows.F.plain_set_update_loop _]
    refine wpAny_bind (W.item i s _ _ lt st fun v s1 hv st1 mv => ?_)
    obtain ⟨p, hp, rfl⟩ := hval i v hv
    have m1 := still mv m
    have T1 : Tab P w s1.heap S L es ep t := T.keep (fun o e => mv.heap S o hw e) fun q hq => (hk q (List.mem_of_mem_take (g.sub q hq))).keep m1
    have hx : At P w s1.heap p.2 p.1 := (hk p (List.mem_of_getElem? hp)).keep m1
    refine wpAny_bind (wpAny_holding ?_)
    unfold setAdd
    refine wpAny_holding (wpAny_bind (wpAny_pyHash_tuple hu hx ?_))
    have le : L.length ≤ 74 := by
      refine Nat.le_trans ?_ few
      rw [g.len T.nd]
      -- what is unlike among the first is unlike among all
      have sub : ∀ k ∈ uniq ((ks.take i).map (·.2)), k ∈ uniq (ks.map (·.2)) := fun k hk2 => by
        rw [mem_uniq] at hk2 ⊢
        obtain ⟨q, hq, rfl⟩ := List.mem_map.mp hk2
        exact List.mem_map.mpr ⟨q, List.mem_of_mem_take hq, rfl⟩
      exact nodup_le (uniq_nd _) sub
    refine add (s := { s1 with toks := s1.toks + (p.2.length + 1) }) T1 hx hu (by omega) fun b h2 L2 es2 ep2 t2 sb T2 c1 c2 => ?_
    have m2 : ∀ b o, h0.get? b = some o → h2.get? b = some o := fun b o e => by
      rw [sb.2 b fun z => by rw [z, nS] at e; cases e]
      exact m1 b o e
    refine wpAny_pure ⟨plainId_quiet PyProof.Rows.F.plain_set_update_loop _, ih (i + 1) _ (by omega) lt (W.frame _ s1 _ _ st1 (Nat.le_add_right _ _) fun b hb o e => ?_) m2 ⟨L2, es2, ep2, t2, T2, g.next hp c1 c2⟩ fun s3 L3 es3 ep3 t3 mv3 T3 g3 m3 => ?_⟩
    · rw [sb.2 b fun q => hS (q ▸ hb)]
      exact e
    · refine hR s3 L3 es3 ep3 t3 (Moved.trans W.gtrans ((mv.mono more).then_heap (Nat.le_add_right _ _) fun b o hb e => ?_) mv3) T3 g3 m3
      rw [sb.2 b fun q => hb (q ▸ List.mem_cons_self)]
      exact e
/-- what set(..) of tuples is to leave -/
def LeftT (P : Program) (w : World) (s : Shared) (ks : List Ent) (s2 : Shared) : Prop :=
  ∃ h2 tk L es ep t, s2 = { s with heap := h2, toks := tk } ∧ Tab P w h2 s.heap.objs.size L es ep t ∧ Has ks ks.length L ∧ ∀ b o, s.heap.get? b = some o → h2.get? b = some o
/-- set(x), given what its __init__ does with the new set -/
theorem set_by_init {x : Value} {Z : Shared → Prop} {Q : Value → Shared → Prop}
    (hinit : ∀ (led : Bool) (B : Around), (A.handled = none → B.handled = none) → B.units ≤ A.units + 8 → wpAny (model P w) B (Builtin.«set.__init__» ⟨[.ref s.heap.objs.size, x], []⟩)
      (fun r s2 => r = .done (.ret .none) ∧ Z s2) E { s with heap := s.heap.push (fresh led) })
    (h : ∀ s2, Z s2 → Q (.ref s.heap.objs.size) s2) : wpAny (model P w) A (call (.type "set") [x]) Q E s := by
  obtain ⟨c, tl, hmro⟩ := PySem.F.called_set.mro
  have a1 := PySem.F.called_set.made
  have a2 := PySem.F.called_set.sub
  refine wpAny_call (codeAny_of_tree ?_)
  refine wpAny_pure ⟨Code.quiet_builtin _ (by decide +kernel), codeAny_builtin PySem.F.entry_type_call ?_⟩
  rw [Around.under_plain (weight_type_call_type "set" [x] []) rfl]
  have a3 := PySem.F.called_set.notType
  have a4 := PySem.F.called_set.canCreate
  have a5 := PySem.F.typeCall_set_1 x
  repeat (any_goals (first | assumption | wp_step))
  refine codeAny_mono (code_set_new_1 x (E := E) (Q₁ := fun o s1 => ∃ led : Bool, o = .ref s.heap.objs.size ∧ s1 = { s with heap := s.heap.push (fresh led) }) fun led => ⟨led, rfl, rfl⟩) fun r s1 hr => ?_
  cases r with
  | error e => exact hr
  | ok fl =>
    cases fl with
    | ret o =>
      obtain ⟨led, rfl, rfl⟩ := hr
      have at1 : (s.heap.push (fresh led)).get? s.heap.objs.size = some (fresh led) := Heap.get?_push_size _ rfl
      have ty1 : Shared.TypeIs { s with heap := s.heap.push (fresh led) } (.ref s.heap.objs.size) "set" := ⟨_, at1, rfl⟩
      have a6 := PySem.F.called_set.init.lookup
      have a7 := PySem.F.called_set.init.bind (.ref s.heap.objs.size)
      repeat (any_goals (first | assumption | wp_step))
      refine codeAny_mono (codeAny_call_builtin (R := wants (fun r s2 => r = .none ∧ Z s2) E) PySem.F.called_set.init.plain PySem.F.entry_set_init (check_set_init_1 ty1 ?_)) fun r2 s2 hr2 => ?_
      · refine wpAny_mono (hinit led _ (fun q => ?_) ?_) (fun r s2 z => ?_) (fun _ _ z => z)
        · simp [q]
        · simp [Around.units]
        · obtain ⟨rfl, z⟩ := z
          exact ⟨rfl, z⟩
      · cases r2 with
        | error e => exact hr2
        | ok f2 =>
          cases f2 with
          | ret r =>
            obtain ⟨rfl, z⟩ := hr2
            repeat (any_goals (first | assumption | wp_step))
            exact h _ z
          | _ => exact hr2.elim
    | _ => exact hr.elim
end
end Km
namespace Km
open PySem PySem.Spec PyProof.Rows L2
section
variable {P : Program} {w : World} {A : Around} {E : Value → Shared → Prop} {s : Shared}
theorem none_from {h : Heap} (b : Addr) (hb : h.objs.size ≤ b) : h.get? b = none := by
  cases q : h.get? b with
  | none => rfl
  | some o => exact absurd (Nat.lt_of_lt_of_le (Heap.lt_size q) hb) (Nat.lt_irrefl _)
theorem ents_at {items : Array Value} {ks : List Ent} (e : items.toList = ks.map fun p => Value.ref p.1) (i : Nat) (v : Value) (hv : items[i]? = some v) : ∃ p, ks[i]? = some p ∧ v = .ref p.1 := by
  rw [← Array.getElem?_toList, e, List.getElem?_map] at hv
  cases hq : ks[i]? with
  | none =>
    rw [hq] at hv
    cases hv
  | some p =>
    rw [hq] at hv
    exact ⟨p, rfl, (Option.some.inj hv).symm⟩
/-- set.__init__ over a list of tuples -/
theorem initT_list {l : Addr} {items : Array Value} {ks : List Ent} (led : Bool) (hh : A.handled = none) (hu : A.units + 2 < cLine) (hl : s.heap.IsList l items) (hit : items.toList = ks.map fun p => Value.ref p.1)
    (hk : ∀ p ∈ ks, At P w s.heap p.2 p.1) (few : (uniq (ks.map (·.2))).length ≤ 74) :
    wpAny (model P w) A (Builtin.«set.__init__» ⟨[.ref s.heap.objs.size, .ref l], []⟩) (fun r s2 => r = .done (.ret .none) ∧ LeftT P w s ks s2) E { s with heap := s.heap.push (fresh led) } := by
  have at1 : (s.heap.push (fresh led)).get? s.heap.objs.size = some (fresh led) := Heap.get?_push_size _ rfl
  have ty1 : Shared.TypeIs { s with heap := s.heap.push (fresh led) } (.ref s.heap.objs.size) "set" := ⟨_, at1, rfl⟩
  obtain ⟨⟨oc, odict, od, osl⟩, ho, hc, nl, hd⟩ := hl
  simp only at hc hd
  subst hc hd
  have ho1 : (s.heap.push (fresh led)).get? l = some { cls := .type "list", dict := odict, data := .seq items nl, slots := osl } := Heap.get?_push_of_some _ ho
  have b1 := PySem.F.sub_list_set
  have b2 := PySem.F.sub_list_frozenset
  have b3 : (Value.type "list" == Value.type "dict") = false := by decide
  have hl1 : (s.heap.push (fresh led)).IsList l items := ⟨_, ho1, rfl, nl, rfl⟩
  have hn : ks.length = items.size := by
    rw [← Array.length_toList, hit, List.length_map]
  unfold Builtin.«set.__init__» noKeywords Builtin.Frozenset.updateFrom
  generalize hPI : pyIter = PI
  wp_walk
  subst hPI
  refine wpAny_pyIter_list hl1 ?_
  refine wpAny_bind (wpAny_runValue ?_)
  have lS : l < s.heap.objs.size := Heap.lt_size ho
  have h1 : A.in1.handled = none := by simp [hh]
  have sz : (s.heap.push (fresh led)).objs.size = s.heap.objs.size + 1 := Heap.size_push ..
  have nI : l ≠ (s.heap.push (fresh led)).objs.size := by
    rw [sz]
    exact Nat.ne_of_lt (Nat.lt_succ_of_lt lS)
  have nf : s.heap.objs.size ∉ [(s.heap.push (fresh led)).objs.size, l] := by
    rw [sz]
    intro q
    rcases List.mem_cons.mp q with q | q
    · exact absurd q (Nat.ne_of_lt (Nat.lt_succ_self _))
    · exact absurd (List.mem_singleton.mp q) (Nat.ne_of_gt lS)
  refine fillT ((Walks.list h1 _ l nI items).toS) nf ks hn few (ents_at hit) s.heap hk (none_from _ (Nat.le_refl _)) (fun b hb => none_from b (by
    rw [List.mem_singleton.mp hb, sz]
    exact Nat.le_succ _)) (by simp [Around.units] at hu ⊢; omega) (items.size - 0) 0 _ rfl (Nat.zero_le _) ⟨⟨_, Heap.get?_push_size _ rfl, rfl, rfl⟩, hl1.push _⟩ (fun b o e => Heap.get?_push_of_some _ (Heap.get?_push_of_some _ e)) ?_ ?_
  · have at2 : ((s.heap.push (fresh led)).push { cls := .type "list_iterator", data := .fields #[.ref l, .int 0 0] }).get? s.heap.objs.size = some (fresh led) := Heap.get?_push_of_some _ at1
    exact ⟨[], #[], 0, _, tab_fresh at2, ⟨fun p h => (by cases h), fun p h => (by simp at h)⟩⟩
  · intro s2 L es ep t mv T g m
    obtain ⟨h2, g2, d2, t2, o2⟩ := s2
    obtain rfl : g2 = s.gens := mv.gens
    obtain rfl : d2 = s.drawn := mv.drawn
    obtain rfl : o2 = s.os := mv.os
    rw [← hn] at g
    exact wpAny_pure (wpAny_pure ⟨rfl, h2, t2, L, es, ep, t, rfl, T, g, m⟩)
/-- set.__init__ over a tuple of tuples -/
theorem initT_tuple {l : Addr} {items : Array Value} {ks : List Ent} (led : Bool) (hh : A.handled = none) (hu : A.units + 2 < cLine) (hl : s.heap.IsTuple l items) (hit : items.toList = ks.map fun p => Value.ref p.1)
    (hk : ∀ p ∈ ks, At P w s.heap p.2 p.1) (few : (uniq (ks.map (·.2))).length ≤ 74) :
    wpAny (model P w) A (Builtin.«set.__init__» ⟨[.ref s.heap.objs.size, .ref l], []⟩) (fun r s2 => r = .done (.ret .none) ∧ LeftT P w s ks s2) E { s with heap := s.heap.push (fresh led) } := by
  have at1 : (s.heap.push (fresh led)).get? s.heap.objs.size = some (fresh led) := Heap.get?_push_size _ rfl
  have ty1 : Shared.TypeIs { s with heap := s.heap.push (fresh led) } (.ref s.heap.objs.size) "set" := ⟨_, at1, rfl⟩
  obtain ⟨⟨oc, odict, od, osl⟩, ho, hc, nl, hd⟩ := hl
  simp only at hc hd
  subst hc hd
  have ho1 : (s.heap.push (fresh led)).get? l = some { cls := .type "tuple", dict := odict, data := .seq items nl, slots := osl } := Heap.get?_push_of_some _ ho
  have b1 := PySem.F.sub_tuple_set
  have b2 := PySem.F.sub_tuple_frozenset
  have b3 : (Value.type "tuple" == Value.type "dict") = false := by decide
  have hl1 : (s.heap.push (fresh led)).IsTuple l items := ⟨_, ho1, rfl, nl, rfl⟩
  have hn : ks.length = items.size := by
    rw [← Array.length_toList, hit, List.length_map]
  unfold Builtin.«set.__init__» noKeywords Builtin.Frozenset.updateFrom
  generalize hPI : pyIter = PI
  wp_walk
  subst hPI
  refine wpAny_pyIter_tuple hl1 ?_
  refine wpAny_bind (wpAny_runValue ?_)
  have lS : l < s.heap.objs.size := Heap.lt_size ho
  have h1 : A.in1.handled = none := by simp [hh]
  have sz : (s.heap.push (fresh led)).objs.size = s.heap.objs.size + 1 := Heap.size_push ..
  have nI : l ≠ (s.heap.push (fresh led)).objs.size := by
    rw [sz]
    exact Nat.ne_of_lt (Nat.lt_succ_of_lt lS)
  have nf : s.heap.objs.size ∉ [(s.heap.push (fresh led)).objs.size, l] := by
    rw [sz]
    intro q
    rcases List.mem_cons.mp q with q | q
    · exact absurd q (Nat.ne_of_lt (Nat.lt_succ_self _))
    · exact absurd (List.mem_singleton.mp q) (Nat.ne_of_gt lS)
  refine fillT ((Walks.tuple h1 _ l nI items).toS) nf ks hn few (ents_at hit) s.heap hk (none_from _ (Nat.le_refl _)) (fun b hb => none_from b (by
    rw [List.mem_singleton.mp hb, sz]
    exact Nat.le_succ _)) (by simp [Around.units] at hu ⊢; omega) (items.size - 0) 0 _ rfl (Nat.zero_le _) ⟨⟨_, Heap.get?_push_size _ rfl, rfl, rfl⟩, hl1.push _⟩ (fun b o e => Heap.get?_push_of_some _ (Heap.get?_push_of_some _ e)) ?_ ?_
  · have at2 : ((s.heap.push (fresh led)).push { cls := .type "tuple_iterator", data := .fields #[.ref l, .int 0 0] }).get? s.heap.objs.size = some (fresh led) := Heap.get?_push_of_some _ at1
    exact ⟨[], #[], 0, _, tab_fresh at2, ⟨fun p h => (by cases h), fun p h => (by simp at h)⟩⟩
  · intro s2 L es ep t mv T g m
    obtain ⟨h2, g2, d2, t2, o2⟩ := s2
    obtain rfl : g2 = s.gens := mv.gens
    obtain rfl : d2 = s.drawn := mv.drawn
    obtain rfl : o2 = s.os := mv.os
    rw [← hn] at g
    exact wpAny_pure (wpAny_pure ⟨rfl, h2, t2, L, es, ep, t, rfl, T, g, m⟩)
/-- the set at a, without the tuples themselves -/
def Tab0 (P : Program) (w : World) (h : Heap) (a : Addr) (L : List Ent) : Prop :=
  ∃ es ep t, (∃ o, h.get? a = some o ∧ o.ExactSet ∧ o.data = .set es ep t) ∧ es.toList = L.map (rowOf P w) ∧ TabOk t (L.map fun p => hsh P w p.2) ∧ (L.map (·.2)).Nodup ∧ L.length * 5 < t.mask * 3
theorem Tab.lean {h : Heap} {a : Addr} {L : List Ent} {es : Array (Int × Value)} {ep : Nat} {t : SetTable} (R : Tab P w h a L es ep t) : Tab0 P w h a L := ⟨es, ep, t, R.ob, R.rows, R.tab, R.nd, R.room⟩
end
end Km
namespace L2
open PySem PySem.Spec PyProof.Rows Km
/-- a set of tuples, as an object -/
def TupSetO (P : Program) (w : World) (a : Addr) (L : List Ent) : HO := .ext fun h => Tab0 P w h a L
theorem tupSet_new {P : Program} {w : World} {H : Hp} {h : Heap} {a : Addr} {L : List Ent} (R : Tab0 P w h a L) : ObjOk P w H h a (TupSetO P w a L) := by
  have ⟨es, ep, t, ⟨o, ho, r⟩, q⟩ := R
  refine ⟨R, ⟨o, ho⟩, fun h1 h2 p m => ?_⟩
  have ⟨es2, ep2, t2, ⟨o2, ho2, r2⟩, q2⟩ := p
  exact ⟨es2, ep2, t2, ⟨o2, m o2 ho2, r2⟩, q2⟩
theorem keyItems {P : Program} {w : World} : ∀ {k : Tk} {us : List Value}, Vals (k.map kV) us → ItemsAre (mixKind P w) k us
  | [], _, .nil => .nil
  | n :: k, _, .cons r t => .cons (kV_is r) (keyItems t)
theorem refs_are : ∀ {ks : List Ent} {us : List Value}, Vals (ks.map fun p => V.ref p.1) us → us = ks.map fun p => Value.ref p.1
  | [], _, .nil => rfl
  | p :: ks, _, .cons r t => by
    cases r
    rw [refs_are t]
    rfl
section
variable {X : Cx}
theorem Inv.tupAt {pins : List (Addr × Obj)} {σ : St} {H : Hp} {s : Shared} {b : Addr} {k : Tk} (I : Inv X pins σ H s) (h : SqT X.K H b (k.map kV)) : At X.prog X.w s.heap k b := by
  obtain ⟨its, r, ⟨o, ho, hc, n, hd⟩, _⟩ := I.tuple h
  exact ⟨o, its.toArray, n, ho, hc, hd, by simpa using keyItems r⟩
/-- set(x), x a list or a tuple of tuples of ints and texts -/
def rSetTup (K : PySem.W.Frag) (P : Program) (w : World) : List V → Hp → VK → Prop := fun xs H Q => ∃ (l : Addr) (ks : List Ent), xs = [V.ref l] ∧ (SqL K H l (ks.map fun p => V.ref p.1) ∨ SqT K H l (ks.map fun p => V.ref p.1)) ∧
  (∀ p ∈ ks, SqT K H p.1 (p.2.map kV)) ∧ (uniq (ks.map (·.2))).length ≤ 74 ∧
  ∀ a L, H a = none → (∀ p ∈ L, p ∈ ks) → (∀ p ∈ ks, p.2 ∈ L.map (·.2)) → (L.map (·.2)).Nodup → L.length = (uniq (ks.map (·.2))).length → Q (.ref a) (upd H a (TupSetO P w a L))
theorem cr_setTup (hc : X.calm = true) (hu : X.A.units + 64 < cLine) : CallR X (.type "set") (rSetTup X.K X.prog X.w) := by
  intro pins s σ H xs us Q I r h
  obtain ⟨l, ks, rfl, hl, hk, few, q⟩ := h
  rw [Vals.ref1 r]
  have hn : H s.heap.objs.size = none := I.hok.fresh (Nat.le_refl _)
  have hd := I.ok.hd hc
  have fin : ∀ s2, LeftT X.prog X.w s ks s2 → EP X pins σ Q (.ref s.heap.objs.size) s2 := fun s2 ⟨h2, tk, L, es, ep, t, e, T, g, m⟩ => by
    subst e
    have ln := g.len T.nd
    rw [List.take_length] at ln
    refine ⟨.ref _, upd H s.heap.objs.size (TupSetO X.prog X.w s.heap.objs.size L), I.laid (t' := tk) m (Nat.le_refl _) (tupSet_new T.lean), rfl, q _ L hn (fun p hp => List.mem_of_mem_take (g.sub p hp)) (fun p hp => g.all p (by rw [List.take_length]; exact hp)) T.nd ln⟩
  rcases hl with hl | hl
  · obtain ⟨its, rv, pl, hz⟩ := I.list hl
    exact set_by_init (Z := LeftT X.prog X.w s ks) (fun led B hB hU => initT_list led (hB hd) (by omega) pl.isList (by simpa using refs_are rv) (fun p hp => I.tupAt (hk p hp)) few) fin
  · obtain ⟨its, rv, pl, hz⟩ := I.tuple hl
    exact set_by_init (Z := LeftT X.prog X.w s ks) (fun led B hB hU => initT_tuple led (hB hd) (by omega) pl (by simpa using refs_are rv) (fun p hp => I.tupAt (hk p hp)) few) fin
/-- len(S), S a set of tuples -/
def rLenTup (P : Program) (w : World) : List V → Hp → VK → Prop := fun xs H Q => ∃ (a : Addr) (L : List Ent), xs = [.ref a] ∧ H a = some (TupSetO P w a L) ∧ Q (.int L.length) H
theorem cr_lenTup : CallR X (.builtin "len") (rLenTup X.prog X.w) := by
  intro pins s σ H xs us Q I r h
  obtain ⟨a, L, rfl, ha, q⟩ := h
  rw [Vals.ref1 r]
  have oa : ObjOk X.prog X.w H s.heap a (TupSetO X.prog X.w a L) := I.hok a _ ha
  have ⟨T, _, _⟩ := oa
  obtain ⟨es, ep, t, ⟨o, ho, hex, hd⟩, h2, h3, h4, h5⟩ := (show Tab0 X.prog X.w s.heap a L from T)
  have sz := rows_size h2
  have pz := h3.sz
  rw [List.length_map] at pz
  have few : L.length ≤ 76 := by
    have h5 : L.length * 5 < t.mask * 3 := h5
    rcases h3.mok with e | e | e <;> omega
  have h5 : L.length * 5 < t.mask * 3 := h5
  refine call_len_set ho hex hd (fits_of (by rw [pz, sz]) h3.dm (by rw [sz]; omega)) (by rw [sz]; omega) ⟨.int L.length, H, I.tok _, ⟨_, by rw [sz]⟩, q⟩
end
end L2

set_option Elab.async false
set_option linter.all false
set_option maxRecDepth 100000
set_option maxHeartbeats 4000000
/-! What the parts of a rule promise. -/
namespace L2
open PySem PySem.Spec PyProof.Rows
/-- a written tuple of words -/
def KTup (K : PySem.W.Frag) (a : Addr) (zs : List Str) : Prop := ∃ (o : Obj) (its : Array Value) (n : Nat), K.lookup a = some o ∧ o.cls = .type "tuple" ∧ o.data = .seq its n ∧ its.size ≤ sizeLine ∧ Vals (zs.map V.str) its.toList
theorem KTup.sq {K : PySem.W.Frag} {a : Addr} {zs : List Str} (h : KTup K a zs) (H : Hp) : SqT K H a (zs.map V.str) := .inr h
def turns : List Str := ["plain", "centred", "placed"]
def gathers : List Str := ["sum", "mean", "median", "trim", "least", "greatest"]
def gathersT : List Str := ["sum", "mean"]
structure Ru (K : PySem.W.Frag) (mg : Str → Option Value) : Prop where
  turns : ∃ a, mg "TURNS" = some (.ref a) ∧ KTup K a turns
  gathers : ∃ a, mg "GATHERS" = some (.ref a) ∧ KTup K a gathers
  gathersT : ∃ a, mg "GATHERS_OF_TURNED_ROWS" = some (.ref a) ∧ KTup K a gathersT
  trim : ∃ t, mg "GREATEST_TRIM" = some (.int 3 t)
  prizes : ∃ t, mg "MOST_PRIZES" = some (.int 8 t)
  any : mg "any" = none
def turnB : V → Bool
  | .str z => decide (z ∈ turns)
  | _ => false
def gatherB (t : Str) : V → Bool
  | .str g => decide (g ∈ gathers) && (decide (t = "plain") || decide (g ∈ gathersT))
  | _ => false
def trimB (g : Str) (v : V) : Bool := if g = "trim" then markB 1 3 v else decide (v = .int 0)
def spIsTurn (K : PySem.W.Frag) : Sp := fun vs H Q _ => ∃ (v : V) (T : String), vs = [v] ∧ TyN K H v T ∧ Q (.bl (turnB v)) H
def spIsGather (K : PySem.W.Frag) : Sp := fun vs H Q _ => ∃ (t : Str) (v : V) (T : String), vs = [.str t, v] ∧ TyN K H v T ∧ Q (.bl (gatherB t v)) H
def spIsTrim (K : PySem.W.Frag) : Sp := fun vs H Q _ => ∃ (g : Str) (v : V) (T : String), vs = [.str g, v] ∧ TyN K H v T ∧ Q (.bl (trimB g v)) H
theorem ty_seq {K : PySem.W.Frag} {H : Hp} {a : Addr} {xs : List V} (h : HSeq H a xs) : ∃ T, TyN K H (.ref a) T ∧ (T = "list" ∨ T = "tuple") := by
  rcases h with h | h
  · exact ⟨"list", ⟨.base (.lst h), by decide⟩, .inl rfl⟩
  · exact ⟨"tuple", ⟨.base (.tup h), by decide⟩, .inr rfl⟩
/-- any value given for reads: whether it is a list or tuple of unlike pairs -/
inductive ReadsArg (K : PySem.W.Frag) (H : Hp) (zs : List Str) : V → Bool → List Pr → Prop where
  | no {v : V} {T : String} (t : TyN K H v T) (h1 : T ≠ "list") (h2 : T ≠ "tuple") : ReadsArg K H zs v false []
  | odd {a : Addr} {xs : List V} {bs : List Bool} (e : HSeq H a xs) (hl : xs.length ≤ 1000) (h : Paired (PairArg K H zs) xs bs) (hb : bs.all id = false) : ReadsArg K H zs (.ref a) false []
  | seq {a : Addr} {xs : List V} {ps : List Pr} (e : HSeq H a xs) (hl : xs.length ≤ 1000) (h : Tps H xs ps) (hp : ∀ p ∈ ps, p ∈ pairsOf zs) : ReadsArg K H zs (.ref a) (decide ps.Nodup) ps
theorem PairArg.same {K : PySem.W.Frag} {H H2 : Hp} {zs : List Str} {v : V} {b : Bool} (s : Same H H2) (h : PairArg K H zs v b) : PairArg K H2 zs v b := by
  cases h with
  | no t h => exact .no (t.same s) h
  | len e h => exact .len (s _ _ e) h
  | two e t1 t2 => exact .two (s _ _ e) (t1.same s) (t2.same s)
theorem ReadsArg.same {K : PySem.W.Frag} {H H2 : Hp} {zs : List Str} {v : V} {b : Bool} {ps : List Pr} (s : Same H H2) (h : ReadsArg K H zs v b ps) : ReadsArg K H2 zs v b ps := by
  cases h with
  | no t h1 h2 => exact .no (t.same s) h1 h2
  | odd e hl h hb => exact .odd (e.same s) hl (Paired.mono (fun _ _ z => z.same s) h) hb
  | seq e hl h hp => exact .seq (e.same s) hl (h.same s) hp
def spAreReads (K : PySem.W.Frag) (C : Addr) : Sp := fun vs H Q _ => ∃ (c : Addr) (v : V) (zs : List Str) (m : Int) (b : Bool) (ps : List Pr), vs = [.ref c, v] ∧ CrowdOf H C c zs m ∧ zs.length ≤ 8 ∧ ReadsArg K H zs v b ps ∧ ∀ H2, Same H H2 → Q (.bl b) H2
/-- a pair as a key -/
theorem tps_ents {H : Hp} : ∀ {xs : List V} {ps : List Pr}, Tps H xs ps → ∃ ks : List Km.Ent, xs = ks.map (fun p => V.ref p.1) ∧ ks.map (·.2) = ps.map key2 ∧ ∀ p ∈ ks, H p.1 = some (.tup (p.2.map kV))
  | [], [], _ => ⟨[], rfl, rfl, fun p h => nomatch h⟩
  | [], _ :: _, t => by
    have := t.1
    cases this
  | _ :: _, [], t => by
    have := t.1
    cases this
  | x :: xs, p :: ps, t => by
    have t2 : Tps H xs ps := ⟨by have := t.1; simpa using this, fun j y q h1 h2 => t.2 (j + 1) y q h1 h2⟩
    obtain ⟨ks, rfl, e2, h3⟩ := tps_ents t2
    obtain ⟨u, rfl, hu⟩ := t.2 0 x p rfl rfl
    refine ⟨(u, key2 p) :: ks, rfl, by rw [List.map_cons, List.map_cons, e2], fun q hq => ?_⟩
    rcases List.mem_cons.mp hq with rfl | hq
    · exact hu
    · exact h3 q hq
theorem pr_get {α β : Type} {F : α → β → Prop} {xs : List α} {ys : List β} (h : Paired F xs ys) : ∀ {i : Nat} {x : α} {y : β}, xs[i]? = some x → ys[i]? = some y → F x y := by
  induction h with
  | nil => intro i x y h; simp at h
  | cons h0 t ih =>
    intro i x y h1 h2
    cases i with
    | zero =>
      cases h1
      cases h2
      exact h0
    | succ i => exact ih h1 h2
theorem uniq_pairs {ps : List Pr} : decide (V.int ((Km.uniq (ps.map key2)).length : Nat) = V.int (ps.length : Nat)) = decide ps.Nodup := by
  refine decide_eq_decide.mpr ?_
  have h1 := Km.uniq_full (ps.map key2)
  rw [nodup_map_inj (f := key2) (fun _ _ e => key2_inj e), List.length_map] at h1
  rw [← h1]
  constructor
  · intro e
    have := V.int.inj e
    omega
  · intro e
    rw [e]
theorem uniq_few {zs : List Str} {ps : List Pr} (h : ∀ p ∈ ps, p ∈ pairsOf zs) (h8 : zs.length ≤ 8) : (Km.uniq (ps.map key2)).length ≤ 74 := by
  have : (Km.uniq (ps.map key2)).length ≤ ((pairsOf zs).map key2).length := Km.nodup_le (Km.uniq_nd _) fun k hk => by
    rw [Km.mem_uniq] at hk
    obtain ⟨p, hp, rfl⟩ := List.mem_map.mp hk
    exact List.mem_map.mpr ⟨p, h p hp, rfl⟩
  rw [List.length_map] at this
  have h64 : (pairsOf zs).length ≤ 64 := pairs_len h8 h8
  omega
/-- a member of what is given for lists: its items, where it is a list or a tuple -/
inductive MemArg (K : PySem.W.Frag) (H : Hp) : V → Option (List V) → Prop where
  | no {v : V} {T : String} (t : TyN K H v T) (h1 : T ≠ "list") (h2 : T ≠ "tuple") : MemArg K H v none
  | seq {a : Addr} {xs : List V} (e : HSeq H a xs) (h : ∀ x ∈ xs, ∃ T, TyN K H x T) (hl : xs.length ≤ 100) : MemArg K H (.ref a) (some xs)
def memOk : Option (List V) → Bool
  | some (_ :: _) => true
  | _ => false
def flatO (os : List (Option (List V))) : List V := os.flatMap fun o => o.getD []
def listsB (zs : List Str) (os : List (Option (List V))) : Bool := os.all memOk && (decide ((flatO os).length = zs.length) && ((flatO os).all (fun v => hasB v zs) && decide (flatO os).Nodup))
inductive ListsArg (K : PySem.W.Frag) (H : Hp) : V → Option (List (Option (List V))) → Prop where
  | no {v : V} {T : String} (t : TyN K H v T) (h1 : T ≠ "list") (h2 : T ≠ "tuple") : ListsArg K H v none
  | seq {a : Addr} {xs : List V} {os : List (Option (List V))} (e : HSeq H a xs) (hl : xs.length ≤ 10) (h : Paired (MemArg K H) xs os) : ListsArg K H (.ref a) (some os)
theorem MemArg.same {K : PySem.W.Frag} {H H2 : Hp} {v : V} {o : Option (List V)} (s : Same H H2) (h : MemArg K H v o) : MemArg K H2 v o := by
  cases h with
  | no t h1 h2 => exact .no (t.same s) h1 h2
  | seq e h hl => exact .seq (e.same s) (fun x hx => (h x hx).elim fun T t => ⟨T, t.same s⟩) hl
theorem ListsArg.same {K : PySem.W.Frag} {H H2 : Hp} {v : V} {o : Option (List (Option (List V)))} (s : Same H H2) (h : ListsArg K H v o) : ListsArg K H2 v o := by
  cases h with
  | no t h1 h2 => exact .no (t.same s) h1 h2
  | seq e hl h => exact .seq (e.same s) hl (Paired.mono (fun _ _ z => z.same s) h)
def argB (zs : List Str) : Option (List (Option (List V))) → Bool
  | none => false
  | some os => listsB zs os
def spAreLists (K : PySem.W.Frag) (C : Addr) : Sp := fun vs H Q _ => ∃ (c : Addr) (v : V) (zs : List Str) (m : Int) (o : Option (List (Option (List V)))), vs = [.ref c, v] ∧ CrowdOf H C c zs m ∧ zs.length ≤ 8 ∧ ListsArg K H v o ∧ ∀ H2, Same H H2 → Q (.bl (argB zs o)) H2
/-- a list or tuple of lists or tuples of words -/
def LL (H : Hp) (a : Addr) (ls : List (List Str)) : Prop := ∃ us : List Addr, HSeq H a (us.map V.ref) ∧ Paired (fun u l => HSeq H u (l.map V.str)) us ls
theorem LL.same {H H2 : Hp} {a : Addr} {ls : List (List Str)} (s : Same H H2) (h : LL H a ls) : LL H2 a ls := by
  obtain ⟨us, h1, h2⟩ := h
  exact ⟨us, h1.same s, Paired.mono (fun _ _ z => z.same s) h2⟩
/-- new lists of words -/
def Rows (H : Hp) (us : List Addr) (ls : List (List Str)) : Prop := Paired (fun u l => H u = some (.lst (l.map V.str))) us ls
theorem Rows.same {H H2 : Hp} {us : List Addr} {ls : List (List Str)} (s : Same H H2) (h : Rows H us ls) : Rows H2 us ls := Paired.mono (fun _ _ z => s _ _ z) h
def spInOrder (C : Addr) : Sp := fun vs H Q _ => ∃ (c l : Addr) (zs : List Str) (m : Int) (ls : List (List Str)), vs = [.ref c, .ref l] ∧ CrowdOf H C c zs m ∧ zs.length ≤ 8 ∧ LL H l ls ∧ Parts zs ls ∧
  ∀ H2 p us, Same H H2 → H p = none → H2 p = some (.lst (us.map V.ref)) → Rows H2 us (inOrder zs ls) → Q (.ref p) H2
/-- the dict of the readers -/
def ReadersAt (H : Hp) (d : Addr) (zs : List Str) (rs : List Pr) : Prop := ∃ us : List Addr, H d = some (.dK ((zs.zip us).map fun p => (Sum.inr p.1, V.ref p.2))) ∧ Paired (fun u z => H u = some (.lst ((readersOf rs z).map V.str))) us zs
theorem ReadersAt.same {H H2 : Hp} {d : Addr} {zs : List Str} {rs : List Pr} (s : Same H H2) (h : ReadersAt H d zs rs) : ReadersAt H2 d zs rs := by
  obtain ⟨us, h1, h2⟩ := h
  exact ⟨us, s _ _ h1, Paired.mono (fun _ _ z => s _ _ z) h2⟩
def spShort : Sp := fun vs H Q _ => ∃ (d l : Addr) (zs : List Str) (rs : List Pr) (ls : List (List Str)) (us : List Addr) (trim : Int), vs = [.ref d, .ref l, .int trim] ∧ ReadersAt H d zs rs ∧ zs.Nodup ∧ H l = some (.lst (us.map V.ref)) ∧ Rows H us ls ∧ (∀ l ∈ ls, ∀ p ∈ l, p ∈ zs) ∧ ls.flatten.length ≤ 1000 ∧ 0 ≤ trim ∧ trim ≤ 3 ∧
  ∀ H2, Same H H2 → Q (.bl (shortB rs ls trim)) H2
/-- what a rule's instance holds -/
def ruleFs (c r l d : Addr) (R : RuleD) : List (Str × V) := [("crowd", .ref c), ("turn", .str R.turn), ("gather", .str R.gather), ("trim", .int R.trim), ("prizes", .int R.prizes), ("_reads", .ref r), ("_lists", .ref l), ("_readers", .ref d)]
structure RuleAt (H : Hp) (CR CC x c r l d : Addr) (ys : List V) (us : List Addr) (R : RuleD) : Prop where
  ob : ∃ dx, H x = some (.ins CR dx (ruleFs c r l d R))
  crowd : CrowdOf H CC c R.zs R.m
  rd : H r = some (.lst ys)
  tps : Tps H ys R.reads
  ls : H l = some (.lst (us.map V.ref))
  rows : Rows H us R.lists
  rds : ReadersAt H d R.zs R.reads
def RuleOf (H : Hp) (CR CC x : Addr) (R : RuleD) : Prop := ∃ c r l d ys us, RuleAt H CR CC x c r l d ys us R
theorem RuleAt.same {H H2 : Hp} {CR CC x c r l d : Addr} {ys : List V} {us : List Addr} {R : RuleD} (s : Same H H2) (h : RuleAt H CR CC x c r l d ys us R) : RuleAt H2 CR CC x c r l d ys us R := by
  obtain ⟨⟨dx, h1⟩, h2, h3, h4, h5, h6, h7⟩ := h
  exact ⟨⟨dx, s _ _ h1⟩, h2.same s, s _ _ h3, h4.same s, s _ _ h5, h6.same s, h7.same s⟩
theorem RuleOf.same {H H2 : Hp} {CR CC x : Addr} {R : RuleD} (s : Same H H2) (h : RuleOf H CR CC x R) : RuleOf H2 CR CC x R := by
  obtain ⟨c, r, l, d, ys, us, h⟩ := h
  exact ⟨c, r, l, d, ys, us, h.same s⟩
/-- reads that are given, or None: all pairs -/
inductive ReadsOpt (K : PySem.W.Frag) (H : Hp) (zs : List Str) : V → Bool → List Pr → Prop where
  | non : ReadsOpt K H zs .non true (pairsOf zs)
  | some {v : V} {b : Bool} {ps : List Pr} (h : ReadsArg K H zs v b ps) (nn : v ≠ .non) (lst : b = true → ∃ a xs, v = .ref a ∧ H a = some (.lst xs)) : ReadsOpt K H zs v b (pick zs ps)
/-- lists that are given, or None: one of all -/
inductive ListsOpt (K : PySem.W.Frag) (H : Hp) (zs : List Str) : V → Bool → List (List Str) → Prop where
  | non : ListsOpt K H zs .non true [zs]
  | bad {v : V} {o : Option (List (Option (List V)))} (h : ListsArg K H v o) (nn : v ≠ .non) (hb : argB zs o = false) : ListsOpt K H zs v false []
  | good {a : Addr} {ls : List (List Str)} (h : LL H a ls) (hp : Parts zs ls) (hl : ls.length ≤ 10) : ListsOpt K H zs (.ref a) true (inOrder zs ls)
/-- the first part that cannot be so -/
def firstWrong (t r g m l s p : Bool) : Option Str := if t = false then some "turn" else if r = false then some "reads" else if g = false then some "gather" else if m = false then some "trim" else if l = false then some "lists" else if s = true then some "lists" else if p = false then some "prizes" else none
theorem shaped_pairs {ps : List Pr} (h : ∀ p ∈ ps, PyData.strOk p.1 = true ∧ PyData.strOk p.2 = true) : SeqAt.shaped (.list (ps.map pairD)) = true := by
  have key : ∀ {ps : List Pr}, (∀ p ∈ ps, PyData.strOk p.1 = true ∧ PyData.strOk p.2 = true) → PyData.canLayAll0 (ps.map pairD) = true ∧ PyData.depthAll (ps.map pairD) ≤ 2 := fun {ps} => by
    induction ps with
    | nil => exact fun _ => ⟨rfl, by simp [PyData.depthAll]⟩
    | cons p ps ih =>
      intro h
      obtain ⟨h1, h2⟩ := ih fun q hq => h q (List.mem_cons_of_mem _ hq)
      obtain ⟨o1, o2⟩ := h p List.mem_cons_self
      have c : PyData.canLay0 (pairD p) = true := SeqAt.canLay_of_shaped (shaped_pairD o1 o2)
      have d : (pairD p).depth ≤ 2 := by
        show (PyData.tuple ([p.1, p.2].map .str)).depth ≤ 2
        have := depth_strs [p.1, p.2]
        rw [PyData.depth]
        omega
      constructor
      · rw [List.map_cons, PyData.canLayAll0, c, h1]
        rfl
      · simp only [List.map_cons, PyData.depthAll]
        omega
  obtain ⟨h1, h2⟩ := key h
  unfold SeqAt.shaped
  rw [PyData.canLay0, h1, Bool.true_and]
  refine decide_eq_true ?_
  rw [PyData.depth]
  omega
theorem any_pairs (ps : List Pr) (p : Pr) : ((ps.map pairD).any fun z => PyData.eqv z (pairD p)) = decide (p ∈ ps) := by
  induction ps with
  | nil => rfl
  | cons q ps ih =>
    rw [List.map_cons, List.any_cons, ih, eqv_pairD, ← Bool.decide_or]
    exact decide_eq_decide.mpr ⟨fun h => h.elim (fun e => by rw [e]; exact List.mem_cons_self) (List.mem_cons_of_mem _), fun h => (List.mem_cons.mp h).elim (fun e => .inl e.symm) .inr⟩
theorem pairsOf_mem {zs : List Str} {p : Pr} (h : p ∈ pairsOf zs) : p.1 ∈ zs ∧ p.2 ∈ zs := by
  obtain ⟨a, ha, hr⟩ := List.mem_flatMap.mp h
  unfold rowOf at hr
  obtain ⟨b, hb, rfl⟩ := List.mem_map.mp hr
  exact ⟨ha, (List.mem_filter.mp hb).1⟩
theorem ReadsOpt.same {K : PySem.W.Frag} {H H2 : Hp} {zs : List Str} {v : V} {b : Bool} {ps : List Pr} (s : Same H H2) (h : ReadsOpt K H zs v b ps) : ReadsOpt K H2 zs v b ps := by
  cases h with
  | non => exact .non
  | some h nn lst => exact .some (h.same s) nn fun e => (lst e).elim fun a z => z.elim fun xs z => ⟨a, xs, z.1, s _ _ z.2⟩
theorem ListsOpt.same {K : PySem.W.Frag} {H H2 : Hp} {zs : List Str} {v : V} {b : Bool} {ls : List (List Str)} (s : Same H H2) (h : ListsOpt K H zs v b ls) : ListsOpt K H2 zs v b ls := by
  cases h with
  | non => exact .non
  | bad h nn hb => exact .bad (h.same s) nn hb
  | good h hp hl => exact .good (h.same s) hp hl
/-- a good parting, as what is judged -/
theorem good_arg {K : PySem.W.Frag} {H : Hp} {a : Addr} {ls : List (List Str)} {zs : List Str} (h : LL H a ls) (hp : Parts zs ls) (hl : ls.length ≤ 10) (z8 : zs.length ≤ 8) : ∃ os, ListsArg K H (.ref a) (some os) ∧ listsB zs os = true := by
  obtain ⟨us, h1, h2⟩ := h
  refine ⟨ls.map fun l => some (l.map V.str), .seq h1 ?_ ?_, ?_⟩
  · rw [List.length_map, h2.length]
    exact hl
  · have short : ∀ l ∈ ls, l.length ≤ 100 := fun l hl => by
      have := (List.sublist_flatten_of_mem hl).length_le
      rw [hp.len] at this
      omega
    have : ∀ {us : List Addr} {ls : List (List Str)}, Paired (fun u l => HSeq H u (l.map V.str)) us ls → (∀ l ∈ ls, l.length ≤ 100) → Paired (MemArg K H) (us.map V.ref) (ls.map fun l => some (l.map V.str)) := fun h => by
      induction h with
      | nil => exact fun _ => .nil
      | cons h0 t ih =>
        intro sh
        refine .cons (.seq h0 (fun x hx => ?_) ?_) (ih fun l hl => sh l (List.mem_cons_of_mem _ hl))
        · obtain ⟨z, _, rfl⟩ := List.mem_map.mp hx
          exact ⟨"str", .base (.str _), by decide⟩
        · rw [List.length_map]
          exact sh _ List.mem_cons_self
    exact this h2 short
  · have fl : flatO (ls.map fun l => some (l.map V.str)) = ls.flatten.map V.str := by
      unfold flatO
      rw [List.flatMap_map, List.map_flatten, List.flatMap_def]
      rfl
    unfold listsB
    rw [fl, List.length_map]
    have h3 : (ls.map fun l => some (l.map V.str)).all memOk = true := by
      rw [List.all_map, List.all_eq_true]
      intro l hl
      cases l with
      | nil => exact absurd rfl (hp.ne _ hl)
      | cons a b => rfl
    have h4 : (ls.flatten.map V.str).all (fun v => hasB v zs) = true := by
      rw [List.all_map, List.all_eq_true]
      intro z hz
      obtain ⟨l, hl, hz⟩ := List.mem_flatten.mp hz
      exact decide_eq_true (hp.mem l hl z hz)
    rw [h3, h4, decide_eq_true hp.len, decide_eq_true ((nodup_map_inj (f := V.str) (fun _ _ e => V.str.inj e)).mpr hp.nd)]
    rfl
theorem same_at {x : Addr} {H0 H : Hp} {o : HO} (s : Same H0 H) (nx : H0 x = none) : Same H0 (upd H x o) := fun b u e => by
  rw [upd_ne (ne_of_none e nx)]
  exact s _ _ e
/-- Rule.__init__: H0 is the heap without the instance -/
def spRuleInit (K : PySem.W.Frag) (C CR CB : Addr) : Sp := fun vs H Q E => ∃ (H0 : Hp) (x dx c : Addr) (zs : List Str) (m : Int) (tv rv gv mv lv pv : V) (rB lB : Bool) (rs : List Pr) (ls : List (List Str)) (T1 T2 T3 T4 : String),
  vs = [.ref x, .ref c, tv, rv, gv, mv, lv, pv] ∧ Same H0 H ∧ H0 x = none ∧ H x = some (.ins CR dx []) ∧ CrowdOf H0 C c zs m ∧ Folk zs ∧ TyN K H0 tv T1 ∧ ReadsOpt K H0 zs rv rB rs ∧ TyN K H0 gv T2 ∧ TyN K H0 mv T3 ∧ ListsOpt K H0 zs lv lB ls ∧ TyN K H0 pv T4 ∧
  (∀ z, (∀ t g mi, tv = .str t → gv = .str g → mv = .int mi → firstWrong (turnB tv) rB (gatherB t gv) (trimB g mv) lB (shortB rs ls mi) (markB 0 8 pv) = some z) → ∀ H' d, Raised H0 H' d "part" (.str z) → E (.ref CB) (some d) H') ∧
  (∀ t g mi p, tv = .str t → gv = .str g → mv = .int mi → pv = .int p → firstWrong (turnB tv) rB (gatherB t gv) (trimB g mv) lB (shortB rs ls mi) (markB 0 8 pv) = none →
    ∀ H' r l d ys us, Same H0 H' → H0 r = none → H0 l = none → H0 d = none → RuleAt H' CR C x c r l d ys us ⟨zs, m, t, g, mi, p, rs, ls⟩ → Q .non H')
def rule5 (c : Addr) (t g : Str) (mi : Int) (p : V) : List (Str × V) := [("crowd", .ref c), ("turn", .str t), ("gather", .str g), ("trim", .int mi), ("prizes", p)]
def rule6 (c r : Addr) (t g : Str) (mi : Int) (p : V) : List (Str × V) := [("crowd", .ref c), ("turn", .str t), ("gather", .str g), ("trim", .int mi), ("prizes", p), ("_reads", .ref r)]
def rule7 (c r l : Addr) (t g : Str) (mi : Int) (p : V) : List (Str × V) := [("crowd", .ref c), ("turn", .str t), ("gather", .str g), ("trim", .int mi), ("prizes", p), ("_reads", .ref r), ("_lists", .ref l)]
def rule8 (c r l d : Addr) (t g : Str) (mi : Int) (p : V) : List (Str × V) := [("crowd", .ref c), ("turn", .str t), ("gather", .str g), ("trim", .int mi), ("prizes", p), ("_reads", .ref r), ("_lists", .ref l), ("_readers", .ref d)]
theorem rule_put5 {c : Addr} {t g : Str} {mi : Int} {p : V} : putF "prizes" p (putF "trim" (.int mi) (putF "gather" (.str g) (putF "turn" (.str t) (putF "crowd" (.ref c) [])))) = rule5 c t g mi p := by kernel_rfl
theorem rule_put6 {c r : Addr} {t g : Str} {mi : Int} {p : V} : putF "_reads" (.ref r) (rule5 c t g mi p) = rule6 c r t g mi p := by kernel_rfl
theorem rule_put7 {c r l : Addr} {t g : Str} {mi : Int} {p : V} : putF "_lists" (.ref l) (rule6 c r t g mi p) = rule7 c r l t g mi p := by kernel_rfl
theorem rule_put8 {c r l d : Addr} {t g : Str} {mi : Int} {p : V} : putF "_readers" (.ref d) (rule7 c r l t g mi p) = rule8 c r l d t g mi p := by kernel_rfl
end L2

set_option Elab.async false
set_option linter.all false
set_option maxRecDepth 100000
set_option maxHeartbeats 4000000
/-! Lists of pairs of a page's pairs and their marks, made by a comprehension, for dict(..). -/
namespace L2
open PySem PySem.Spec PyProof.Rows
theorem paired_snoc {α β : Type} {R : α → β → Prop} {x : α} {y : β} : ∀ {xs : List α} {ys : List β}, Paired R xs ys → R x y → Paired R (xs ++ [x]) (ys ++ [y])
  | _, _, .nil, h => .cons h .nil
  | _, _, .cons a r, h => .cons a (paired_snoc r h)
theorem paired_imp {α β : Type} {R S : α → β → Prop} (f : ∀ x y, R x y → S x y) : ∀ {xs : List α} {ys : List β}, Paired R xs ys → Paired S xs ys
  | _, _, .nil => .nil
  | _, _, .cons a r => .cons (f _ _ a) (paired_imp f r)
theorem paired_len {α β : Type} {R : α → β → Prop} : ∀ {xs : List α} {ys : List β}, Paired R xs ys → xs.length = ys.length
  | _, _, .nil => rfl
  | _, _, .cons _ r => by rw [List.length_cons, List.length_cons, paired_len r]
theorem isPairT_same {H G : Hp} {u : Addr} {kv : List Key × V} (s : Same H G) (h : IsPairT H u kv) : IsPairT G u kv := by
  obtain ⟨q, a, b⟩ := h
  exact ⟨q, s _ _ a, s _ _ b⟩
theorem isPairT_upd {H : Hp} {u D : Addr} {kv : List Key × V} {xs ys : List V} (hD : H D = some (.lst xs)) (h : IsPairT H u kv) : IsPairT (upd H D (.lst ys)) u kv := by
  obtain ⟨q, a, b⟩ := h
  exact ⟨q, by rw [upd_ne (ne_of a hD (fun z => nomatch z))]; exact a, by rw [upd_ne (ne_of b hD (fun z => nomatch z))]; exact b⟩
theorem nest_pairs {J : It} {n : Nat} {Gd : Hp → Prop} {Y : Nat → Hp → V → Hp → Prop} (w : Walk J n Gd Y) {ps : List (Str × Str)} (hn : n = ps.length) (h64 : ps.length ≤ 64) {HL : Hp} {D : Addr} (nD : HL D = none)
    (hY : ∀ i x G G', Same HL G → Y i G x G' → G' = G ∧ ∃ p t, ps[i]? = some p ∧ x = .ref t ∧ G t = some (.tup [.str p.1, .str p.2])) (hG : ∀ G, Same HL G → Gd G) {B : V → Hp → (Hp → Prop) → Prop} (g : Str × Str → V)
    (hB : ∀ p t G Nx, p ∈ ps → Same HL G → G t = some (.tup [.str p.1, .str p.2]) → (∀ u G', Same G G' → G u = none → G' u = some (.tup [.ref t, g p]) → ∃ acc, G' D = some (.lst acc) ∧ acc.length < sizeLine ∧ Nx (upd G' D (.lst (acc ++ [.ref u])))) → B (.ref t) G Nx)
    {Qd : Hp → Prop} (hd : ∀ G us, Same HL G → G D = some (.lst (us.map V.ref)) → Paired (IsPairT G) us (ps.map fun p => (key2 p, g p)) → Qd G) :
    ∃ W : Nat → Nat → Hp → Prop, (∃ m, W 0 m (upd HL D (.lst []))) ∧ ∀ i m H, W i m H → (J.stop i H ∧ Qd H) ∨ (J.go i H ∧ ∃ Nx : Hp → Prop, (∀ H', Nx H' → ∃ m', m' < m ∧ W (i + 1) m' H') ∧ ∀ x H', J.yld i H x H' → B x H' Nx) := by
  refine nest_it w (fun i G => Same HL G ∧ ∃ us : List Addr, G D = some (.lst (us.map V.ref)) ∧ Paired (IsPairT G) us ((ps.take i).map fun p => (key2 p, g p))) ⟨same_new nD, [], upd_same, .nil⟩ (fun i G _ h => hG _ h.1) ?_ ?_
  · rintro i x G G' hi ⟨sG, us, hD, hus⟩ y
    obtain ⟨rfl, p, t, hp, rfl, ht⟩ := hY i x G G' sG y
    refine hB p t _ _ (List.mem_of_getElem? hp) sG ht fun u G2 s2 nu hu => ⟨_, s2 _ _ hD, ?_, fun b o e => ?_, us ++ [u], ?_, ?_⟩
    · rw [List.length_map, paired_len hus, List.length_map, List.length_take]
      exact Nat.lt_of_le_of_lt (Nat.min_le_left _ _) (small1000 (by omega))
    · rw [upd_ne (ne_of_none e nD)]
      exact s2 _ _ (sG _ _ e)
    · rw [upd_same, List.map_append]
      rfl
    · rw [List.take_add_one, hp, List.map_append]
      refine paired_snoc (paired_imp (fun _ _ z => isPairT_upd (s2 _ _ hD) (isPairT_same s2 z)) hus) ?_
      exact isPairT_upd (s2 _ _ hD) ⟨t, hu, s2 _ _ ht⟩
  · rintro G ⟨sG, us, hD, hus⟩
    rw [hn, List.take_length] at hus
    exact hd G us sG hD hus
/-- the keys of a sheet -/
theorem keys_sheet {zs : List Str} {f : Str × Str → V} {i : Nat} {x : V} {G G' : Hp} (h : G' = G ∧ ∃ (k : List Key) (v : V) (q : Addr), (sheetOf zs f)[i]? = some (k, v) ∧ x = .ref q ∧ G q = some (.tup (k.map kV))) :
    G' = G ∧ ∃ p t, (pairsOf zs)[i]? = some p ∧ x = .ref t ∧ G t = some (.tup [.str p.1, .str p.2]) := by
  obtain ⟨e, k, v, q, hk, hx, hq⟩ := h
  unfold sheetOf at hk
  rw [List.getElem?_map] at hk
  obtain ⟨p, hp, e2⟩ := Option.map_eq_some_iff.mp hk
  cases e2
  exact ⟨e, p, q, hp, hx, hq⟩
theorem nodup_keys2 {ps : List (Str × Str)} (h : ps.Nodup) (g : Str × Str → V) : ((ps.map fun p => (key2 p, g p)).map (·.1)).Nodup := by
  rw [List.map_map]
  refine List.Pairwise.map _ (fun a b n z => n (key2_inj z)) h
theorem merge_new {κ : List (Key × V)} : ∀ {kvs acc : List (Key × V)}, ((acc ++ kvs).map (·.1)).Nodup → mergeK acc kvs = acc ++ kvs
  | [], acc, _ => by rw [List.append_nil]; rfl
  | (k, v) :: r, acc, h => by
    have nk : k ∉ acc.map (·.1) := fun z => by
      rw [List.map_append, List.map_cons] at h
      exact (List.nodup_append.mp h).2.2 k z k (List.mem_cons_self ..) rfl
    have e : putK acc k v = acc ++ [(k, v)] := putK_new _ (valV_none nk)
    show mergeK (putK acc k v) r = _
    rw [e, merge_new (κ := κ) (kvs := r) (by rw [List.append_assoc]; exact h), List.append_assoc]
    rfl
theorem putRow_none {a b : Str} : ∀ {es : List (Str × V)} {f : Str × Str → V}, (∀ e ∈ es, e.1 ≠ b) → putRow f a es (a, b) = f (a, b)
  | [], _, _ => rfl
  | e :: es, f, h => by
    show putRow (withF f (a, e.1) e.2) a es (a, b) = _
    rw [putRow_none fun x hx => h x (List.mem_cons_of_mem _ hx)]
    unfold withF
    rw [if_neg fun z => h e (List.mem_cons_self ..) (Prod.mk.inj z).2.symm]
theorem putRow_else {a : Str} {p : Str × Str} (hp : p.1 ≠ a) : ∀ {es : List (Str × V)} {f : Str × Str → V}, putRow f a es p = f p
  | [], _ => rfl
  | e :: es, f => by
    show putRow (withF f (a, e.1) e.2) a es p = _
    rw [putRow_else hp]
    unfold withF
    rw [if_neg fun z => hp (by rw [z])]
theorem putRow_val {a b : Str} : ∀ {es : List (Str × V)} {f : Str × Str → V}, (es.map (·.1)).Nodup → b ∈ es.map (·.1) → valV (rowD es) (Sum.inr b : Key) = some (putRow f a es (a, b))
  | [], _, _, h => by cases h
  | e :: es, f, nd, h => by
    show valV ((Sum.inr e.1, e.2) :: rowD es) (Sum.inr b : Key) = some (putRow (withF f (a, e.1) e.2) a es (a, b))
    rw [List.map_cons, List.nodup_cons] at nd
    by_cases c : e.1 = b
    · subst c
      rw [valV_pos rfl, putRow_none fun x hx z => nd.1 (List.mem_map.mpr ⟨x, hx, z⟩)]
      unfold withF
      rw [if_pos rfl]
    · rw [List.map_cons] at h
      rcases List.mem_cons.mp h with z | z
      · exact absurd z.symm c
      · rw [valV_neg fun z => c (Sum.inr.inj z)]
        exact putRow_val nd.2 z
theorem isKeys_mem {H : Hp} {f : Str × Str → V} {b : Addr} : ∀ {l : List (Str × Str)} {bs : List Addr}, IsKeys H (l.map fun p => (key2 p, f p)) bs → b ∈ bs → ∃ p ∈ l, H b = some (.tup [.str p.1, .str p.2])
  | [], _, h, hb => by
    cases h
    cases hb
  | p :: l, _, h, hb => by
    cases h with
    | cons h t =>
      rcases List.mem_cons.mp hb with e | e
      · subst e
        exact ⟨p, List.mem_cons_self .., h⟩
      · obtain ⟨q, hq, k⟩ := isKeys_mem (l := l) t e
        exact ⟨q, List.mem_cons_of_mem _ hq, k⟩
theorem Told.put {zs : List Str} {m : Int} {f g : Str × Str → V} (t : Told zs m f) (h : ∀ p ∈ pairsOf zs, mkOk m (g p) = true) : Told zs m g := ⟨t.mem, t.nd, t.one, t.most, t.m1, t.m10, h⟩
theorem but_fresh {H G : Hp} {a p : Addr} {o : HO} (b : But a H G) (n : H p = none) : But a H (upd G p o) := fun c u nc e => by
  rw [upd_ne (ne_of_none e n)]
  exact b c u nc e
theorem Pool.lists {H : Hp} {a l : Addr} {zs : List Str} (h : Pool H a) (hl : H l = some (.lst (zs.map V.str))) (one : 1 ≤ zs.length) : l ≠ a := fun e => by
  obtain ⟨g, q, ha, _⟩ := h
  rw [e, ha] at hl
  cases zs with
  | nil => cases one
  | cons z zs => cases hl
theorem Pool.other {H : Hp} {a b : Addr} {o : HO} (h : Pool H a) (hb : H b = some o) (n : ∀ xs, o ≠ .lst xs) : b ≠ a := fun e => by
  obtain ⟨g, q, ha, _⟩ := h
  rw [e, ha] at hb
  exact n _ (Option.some.inj hb).symm
theorem PageOf.but {H G : Hp} {C CP x a : Addr} {zs : List Str} {m : Int} {f : Str × Str → V} (P : Pool H a) (b : But a H G) (one : 1 ≤ zs.length) (h : PageOf H C CP x zs m f) : PageOf G C CP x zs m f := by
  obtain ⟨dx, c, d, hx, ⟨dc, lc, hc, hl⟩, hd⟩ := h
  exact ⟨dx, c, d, b _ _ (P.other hx fun _ z => nomatch z) hx, ⟨dc, lc, b _ _ (P.other hc fun _ z => nomatch z) hc, b _ _ (P.lists hl one) hl⟩, b _ _ (P.other hd fun _ z => nomatch z) hd⟩
theorem Pool.same {H G : Hp} {a : Addr} (s : Same H G) (h : Pool H a) : Pool G a := by
  obtain ⟨g, q, ha, hb⟩ := h
  exact ⟨g, q, s _ _ ha, hb⟩
/-- a row of drawn marks -/
structure RowAt (a : Addr) (m : Int) (G : Hp) (us : List Addr) (es : List (Str × V)) (ks : List Str) : Prop where
  pool : Pool G a
  tups : Paired (fun u e => G u = some (.tup [.str e.1, e.2])) us es
  keys : es.map (·.1) = ks
  marks : ∀ e ∈ es, mkOk m e.2 = true
theorem nest_row {J : It} {n : Nat} {Gd : Hp → Prop} {Y : Nat → Hp → V → Hp → Prop} (w : Walk J n Gd Y) {ys : List Str} (hn : n = ys.length) (h8 : ys.length ≤ 8) {HL : Hp} {D a : Addr} {m : Int} {who : Str} (nD : HL D = none) (P : Pool HL a)
    (hY : ∀ i x G G', Y i G x G' → G' = G ∧ (ys.map V.str)[i]? = some x) (hG : ∀ G, But a HL G → Gd G) {B : V → Hp → (Hp → Prop) → Prop}
    (hB : ∀ b G Nx, b ∈ ys → Pool G a → But a HL G → (b = who → Nx G) → (b ≠ who → ∀ (r : Int) u G', 0 ≤ r → r ≤ m → Pool G' a → But a G G' → G' u = some (.tup [.str b, .int r]) → ∃ acc, G' D = some (.lst acc) ∧ acc.length < sizeLine ∧ Nx (upd G' D (.lst (acc ++ [.ref u])))) → B (.str b) G Nx)
    {Qd : Hp → Prop} (hd : ∀ G us es, But a HL G → G D = some (.lst (us.map V.ref)) → RowAt a m G us es (ys.filter fun b => b ≠ who) → Qd G) :
    ∃ W : Nat → Nat → Hp → Prop, (∃ m, W 0 m (upd HL D (.lst []))) ∧ ∀ i m H, W i m H → (J.stop i H ∧ Qd H) ∨ (J.go i H ∧ ∃ Nx : Hp → Prop, (∀ H', Nx H' → ∃ m', m' < m ∧ W (i + 1) m' H') ∧ ∀ x H', J.yld i H x H' → B x H' Nx) := by
  have nDa : D ≠ a := fun e => by
    obtain ⟨g, q, ha, _⟩ := P
    rw [e, ha] at nD
    cases nD
  refine nest_it w (fun i G => But a HL G ∧ ∃ (us : List Addr) (es : List (Str × V)), G D = some (.lst (us.map V.ref)) ∧ RowAt a m G us es ((ys.take i).filter fun b => b ≠ who)) ⟨But.of_same (same_new nD), [], [], upd_same, P.same (same_new nD), .nil, rfl, fun e he => by cases he⟩ (fun i G _ h => hG _ h.1) ?_ ?_
  · rintro i x G G' hi ⟨bG, us, es, hD, r⟩ y
    obtain ⟨rfl, hx⟩ := hY i x G G' y
    rw [List.getElem?_map] at hx
    obtain ⟨b, hb, rfl⟩ := Option.map_eq_some_iff.mp hx
    have tk : (ys.take (i + 1)).filter (fun b => b ≠ who) = ((ys.take i).filter fun b => b ≠ who) ++ ([b].filter fun b => b ≠ who) := by
      rw [List.take_add_one, hb, List.filter_append]
      rfl
    refine hB b _ _ (List.mem_of_getElem? hb) r.pool bG (fun e => ⟨bG, us, es, hD, r.pool, r.tups, ?_, r.marks⟩) fun ne rr u G2 h0 h1 P2 b2 hu => ⟨_, b2 _ _ nDa hD, ?_, fun c o nc e => ?_, us ++ [u], es ++ [(b, .int rr)], ?_, ?_, ?_, ?_, fun e he => ?_⟩
    · rw [tk, e, List.filter_cons_of_neg (by simp), List.filter_nil, List.append_nil]
      exact r.keys
    · rw [List.length_map, r.tups.length, ← List.length_map (f := (·.1)), r.keys]
      refine Nat.lt_of_le_of_lt (List.length_filter_le _ _) (small1000 ?_)
      rw [List.length_take]
      omega
    · rw [upd_ne (ne_of_none e nD)]
      exact b2 _ _ nc (bG _ _ nc e)
    · rw [upd_same, List.map_append]
      rfl
    · obtain ⟨g, q, ha, hq⟩ := P2
      exact ⟨g, q, by rw [upd_ne nDa.symm]; exact ha, hq⟩
    · refine Paired.snoc (Paired.mono (fun x e h => ?_) r.tups) ?_
      · rw [upd_ne (ne_of (b2 _ _ (r.pool.other h fun _ z => nomatch z) h) (b2 _ _ nDa hD) (fun z => nomatch z))]
        exact b2 _ _ (r.pool.other h fun _ z => nomatch z) h
      · rw [upd_ne (ne_of hu (b2 _ _ nDa hD) (fun z => nomatch z))]
        exact hu
    · rw [tk, List.map_append, r.keys, List.filter_cons_of_pos (by simpa using ne), List.filter_nil]
      rfl
    · rcases List.mem_append.mp he with h | h
      · exact r.marks e h
      · obtain rfl := List.mem_singleton.mp h
        show (decide (V.int rr = V.non) || (decide (0 ≤ rr) && decide (rr ≤ m))) = true
        rw [decide_eq_true h0, decide_eq_true h1]
        simp
  · rintro G ⟨bG, us, es, hD, r⟩
    rw [hn, List.take_length] at r
    exact hd G us es bG hD r
theorem isPairT_unl {H : Hp} {u d : Addr} {kv : List Key × V} {od : Obj} {o o' : HO} (hd : H d = some (.frz od o)) (h : IsPairT H u kv) : IsPairT (upd H d o') u kv := by
  obtain ⟨q, a, b⟩ := h
  exact ⟨q, by rw [upd_ne (ne_of a hd (fun z => nomatch z))]; exact a, by rw [upd_ne (ne_of b hd (fun z => nomatch z))]; exact b⟩
theorem paired_rowD {K : PySem.W.Frag} {G : Hp} : ∀ {us : List Addr} {es : List (Str × V)}, Paired (fun u e => G u = some (.tup [.str e.1, e.2])) us es → Paired (fun p kv => SqT K G p [kV kv.1, kv.2]) us (rowD es)
  | _, _, .nil => .nil
  | _, _, .cons h r => .cons (SqT.of h) (paired_rowD r)
theorem rowD_nodup {es : List (Str × V)} (h : (es.map (·.1)).Nodup) : ((rowD es).map (·.1)).Nodup := by
  unfold rowD
  rw [List.map_map]
  have : (es.map fun e => (Sum.inr e.1 : Key)) = (es.map (·.1)).map Sum.inr := by rw [List.map_map]; rfl
  show ((es.map fun e => (Sum.inr e.1 : Key))).Nodup
  rw [this]
  exact List.Pairwise.map _ (fun a b n z => n (Sum.inr.inj z)) h
theorem merge_row {es : List (Str × V)} (h : (es.map (·.1)).Nodup) : mergeK [] (rowD es) = rowD es := by
  rw [merge_new (κ := []) (by rw [List.nil_append]; exact rowD_nodup h), List.nil_append]
theorem len_filter_ne {zs : List Str} (nd : zs.Nodup) {a : Str} (h : a ∈ zs) : (zs.filter fun b => b ≠ a).length + 1 = zs.length := by
  induction zs with
  | nil => cases h
  | cons z zs ih =>
    rw [List.nodup_cons] at nd
    by_cases c : z = a
    · subst c
      rw [List.filter_cons_of_neg (by simp), List.length_cons]
      congr 1
      congr 1
      exact List.filter_eq_self.mpr fun b hb => by
        have : b ≠ z := fun e => nd.1 (e ▸ hb)
        simpa using this
    · rw [List.filter_cons_of_pos (by simpa using c), List.length_cons, List.length_cons, ih nd.2 ((List.mem_cons.mp h).resolve_left fun e => c e.symm)]
theorem rowFor_of {zs : List Str} {m : Int} {a : Str} {G : Hp} {pa : Addr} {us : List Addr} {es : List (Str × V)} (nd : zs.Nodup) (ha : a ∈ zs) (r : RowAt pa m G us es (zs.reverse.filter fun b => b ≠ a)) : RowFor zs m a es ∧ (es.map (·.1)).Nodup ∧ ∀ b ∈ zs, b ≠ a → b ∈ es.map (·.1) := by
  have nr : zs.reverse.Nodup := (List.reverse_perm zs).nodup_iff.mpr nd
  refine ⟨⟨?_, fun e he => ?_⟩, ?_, fun b hb n => ?_⟩
  · rw [← List.length_map (f := (·.1)), r.keys, len_filter_ne nr (List.mem_reverse.mpr ha), List.length_reverse]
  · have : e.1 ∈ es.map (·.1) := List.mem_map.mpr ⟨e, he, rfl⟩
    rw [r.keys] at this
    obtain ⟨h1, h2⟩ := List.mem_filter.mp this
    exact ⟨List.mem_reverse.mp h1, by simpa using h2, r.marks e he⟩
  · rw [r.keys]
    exact nr.filter _
  · rw [r.keys]
    exact List.mem_filter.mpr ⟨List.mem_reverse.mpr hb, by simpa using n⟩
theorem pairs_some {zs : List Str} (nd : zs.Nodup) (h : 2 ≤ zs.length) : 1 ≤ (pairsOf zs).length := by
  match zs, nd, h with
  | a :: b :: r, nd, _ =>
    have n : a ≠ b := fun e => by
      rw [e] at nd
      exact (List.nodup_cons.mp nd).1 (List.mem_cons_self ..)
    exact List.length_pos_of_mem (mem_pairsOf (List.mem_cons_self ..) (List.mem_cons_of_mem _ (List.mem_cons_self ..)) n)
end L2

set_option Elab.async false
set_option linter.all false
set_option maxRecDepth 100000
set_option maxHeartbeats 4000000
/-! o.m(k = v, ..), also where what is raised is wished for at the caller's slots. -/
namespace L2
open PySem PySem.Spec PyProof.Rows
def tMethK (C : Addr) (m : Str) (n : Nat) (sp : Sp) (gV : List V → List V → List V) (E : St → XK) (ta : TE) (tk : TA) : TE := fun σ H Q => ta σ H fun x H1 => ∃ a dx fs, x = .ref a ∧ H1 a = some (.ins C dx fs) ∧ fs.lookup m = none ∧ tk σ H1 fun zs H2 => zs.length = n ∧ sp (gV [.ref a] zs) H2 Q (E σ)
section
variable {X : Cx} {CX : CXT} {k : Nat} {C f : Addr} {m : Str} {fd : FuncData} {ps ks : List Str} {sp : Sp} {E : St → XK} {o : Expr} {apos pos : Pos} {kws : List Keyword} {ta : TE} {tk : TA} {g : List Value → List Value → List Value} {gV : List V → List V → List V}
theorem pe_methK {pl : Sem Bool} (he : PE X o ta) (c : Cls X.K C) (hm : Meth X.K C m f) (F : FnOk X.prog X.w X.K X.mg X.base CX k f fd ps sp) (hr : Room k X.A) (hb : KBn X.K fd ps 1 ks g gV) (hx : ∀ σ, PassesAt CX X σ (E σ)) (hkw : PK X kws tk)
    (hall : (backToKw pos (keywordEach kws X.env)).all (·.1.isSome) = true := by rfl) (hks : (backToKw pos (keywordEach kws X.env)).filterMap (·.1) = ks := by rfl)
    (hpl : ((backTo pos (starEach [] X.env)).any (·.1) || (backToKw pos (keywordEach kws X.env)).any (·.1.isNone)) = false := by rfl)
    (ht : eval (.Call (.Attribute o m apos) [] kws pos) X.env = (do
      let ov ← eval o X.env
      standAt apos.atName
      let (f, first) ← holding [ov] (getMethod ov m pl)
      callWith pos f first (backTo pos (starEach [] X.env)) (backToKw pos (keywordEach kws X.env))) := by rfl) :
    PE X (.Call (.Attribute o m apos) [] kws pos) (tMethK C m ks.length sp gV E ta tk) := by
  constructor
  intro pins s σ H Q I h
  refine PySem.W.methodCall_KW (pl := pl) (thn (he.run pins s σ H _ I h) fun u s1 z => ?_) ht
  obtain ⟨x, H1, I1, rx, a, dx, fs, rfl, ea, l, q⟩ := z
  cases rx
  refine getmeth_ok I1 ea c hm l ?_
  refine PySem.W.callWith_KW0 (first := [.ref a]) (h₀ := X.base) I.ok.mod.kin hm.kp hall (thn (hkw.run pos pins s1 σ H1 _ I1 q) fun ws s2 z => ?_) hpl
  obtain ⟨zs, H2, I2, rz, l2, q2⟩ := z
  refine ⟨I2.kIn, ?_⟩
  rw [hks]
  have r1 : Vals [V.ref a] [Value.ref a] := .cons rfl .nil
  refine wpAny_call (codeAny_mono (F.run X.A X.stack s2 H2 ⟨[.ref a], ks.zip ws⟩ (g [.ref a] ws) (gV [.ref a] zs) Q (E σ) hr I2.env0 (hb.to s2 [.ref a] ws I2.kIn rfl (rz.length.symm.trans l2)) (hb.rel r1 rz) q2) fun r s3 hq => ?_)
  cases r with
  | error e => exact hx σ pins H2 s2 e s3 I2 hq
  | ok fl =>
    cases fl with
    | ret u => exact I2.after hq
    | next => exact False.elim hq
    | brk => exact False.elim hq
    | cont => exact False.elim hq
end
end L2

set_option Elab.async false
set_option linter.all false
set_option maxRecDepth 100000
set_option maxHeartbeats 4000000
/-! What a rule's methods promise, and the functions that look at rules. -/
namespace L2
open PySem PySem.Spec PyProof.Rows
structure RuleD.Ok (R : RuleD) : Prop where
  folk : Folk R.zs
  turn : turnB (.str R.turn) = true
  gather : gatherB R.turn (.str R.gather) = true
  trim : trimB R.gather (.int R.trim) = true
  prizes : markB 0 8 (.int R.prizes) = true
  reads : R.reads.Sublist (pairsOf R.zs)
  lists : Straight R.zs R.lists
  full : shortB R.reads R.lists R.trim = false
def RuleD.listOf (R : RuleD) (p : Str) : List Str := (R.lists.filter fun l => decide (p ∈ l)).flatten
def RuleD.ownReads (R : RuleD) (p : Str) : List Pr := R.reads.filter fun q => decide (q.1 = p) && decide (q.2 ∈ R.listOf p)
def RuleD.safe (R : RuleD) : List Str := R.zs.filter fun p => decide ((R.ownReads p).length = 0)
def within (rs : List Pr) (ls : List (List Str)) : List Pr := rs.filter fun q => ls.any fun l => decide (q.1 ∈ l) && decide (q.2 ∈ l)
def rListOf (K : PySem.W.Frag) : List V → Hp → VK → Prop := fun xs H Q => ∃ p ys, xs = [.ref p] ∧ (SqL K H p ys ∨ SqT K H p ys) ∧ ∀ l, H l = none → Q (.ref l) (upd H l (.lst ys))
theorem call_listS {X : Cx} : CallR X (.type "list") (rListOf X.K) := call_list_of
def spNeedRule (C CR : Addr) : Sp := fun vs H Q _ => ∃ (x : Addr) (R : RuleD), vs = [.ref x] ∧ RuleOf H CR C x R ∧ Q .non H
def spNeedPlain (C CR : Addr) : Sp := fun vs H Q _ => ∃ (x : Addr) (R : RuleD), vs = [.ref x] ∧ RuleOf H CR C x R ∧ R.turn = "plain" ∧ Q .non H
def spRuleReads (C CR : Addr) : Sp := fun vs H Q _ => ∃ (x : Addr) (R : RuleD), vs = [.ref x] ∧ RuleOf H CR C x R ∧ ∀ H2 p ys, Same H H2 → H p = none → H2 p = some (.lst ys) → Tps H2 ys R.reads → Q (.ref p) H2
def spRuleLists (C CR : Addr) : Sp := fun vs H Q _ => ∃ (x : Addr) (R : RuleD), vs = [.ref x] ∧ RuleOf H CR C x R ∧ R.lists.length ≤ 100 ∧ ∀ H2 p us, Same H H2 → H p = none → H2 p = some (.lst (us.map V.ref)) → Rows H2 us R.lists → Q (.ref p) H2
def spRuleLen (C CR : Addr) : Sp := fun vs H Q _ => ∃ (x : Addr) (R : RuleD), vs = [.ref x] ∧ RuleOf H CR C x R ∧ Q (.int R.reads.length) H
def spListOf (C CR : Addr) : Sp := fun vs H Q _ => ∃ (x : Addr) (p : Str) (R : RuleD), vs = [.ref x, .str p] ∧ RuleOf H CR C x R ∧ p ∈ R.zs ∧ R.lists.length ≤ 100 ∧ R.lists.flatten.length ≤ 1000 ∧ ∀ H2 l, Same H H2 → H l = none → H2 l = some (.lst ((R.listOf p).map V.str)) → Q (.ref l) H2
def spOwnReads (C CR : Addr) : Sp := fun vs H Q _ => ∃ (x : Addr) (p : Str) (R : RuleD), vs = [.ref x, .str p] ∧ RuleOf H CR C x R ∧ p ∈ R.zs ∧ R.lists.length ≤ 100 ∧ R.lists.flatten.length ≤ 1000 ∧ R.reads.length ≤ 64 ∧ ∀ H2 l ys, Same H H2 → H l = none → H2 l = some (.lst ys) → Tps H2 ys (R.ownReads p) → Q (.ref l) H2
def spSafePeople (C CR : Addr) : Sp := fun vs H Q _ => ∃ (x : Addr) (R : RuleD), vs = [.ref x] ∧ RuleOf H CR C x R ∧ R.zs.length ≤ 8 ∧ R.lists.length ≤ 100 ∧ R.lists.flatten.length ≤ 1000 ∧ R.reads.length ≤ 64 ∧ ∀ H2 l, Same H H2 → H l = none → H2 l = some (.lst (R.safe.map V.str)) → Q (.ref l) H2
def spIsSafe (C CR : Addr) : Sp := fun vs H Q _ => ∃ (x : Addr) (R : RuleD), vs = [.ref x] ∧ RuleOf H CR C x R ∧ R.Ok ∧ ∀ H2, Same H H2 → Q (.bl (decide (R.safe = R.zs))) H2
def spPairsWithin : Sp := fun vs H Q _ => ∃ (a b : Addr) (ys : List V) (rs : List Pr) (ls : List (List Str)), vs = [.ref a, .ref b] ∧ H a = some (.lst ys) ∧ Tps H ys rs ∧ LL H b ls ∧ rs.length ≤ 64 ∧ ls.length ≤ 100 ∧ ∀ H2 l zs, Same H H2 → H l = none → H2 l = some (.lst zs) → Tps H2 zs (within rs ls) → Q (.ref l) H2
theorem RuleD.Ok.few {R : RuleD} (o : R.Ok) : R.zs.length ≤ 8 ∧ R.lists.length ≤ 8 ∧ R.lists.flatten.length ≤ 8 ∧ R.reads.length ≤ 64 := by
  have h := o.folk.most
  refine ⟨h, ?_, by rw [o.lists.parts.len]; exact h, ?_⟩
  · have key : ∀ l : List (List Str), (∀ x ∈ l, x ≠ []) → l.length ≤ l.flatten.length := fun l => by
      induction l with
      | nil => intro _; exact Nat.le_refl _
      | cons x l ih =>
        intro h
        rw [List.flatten_cons, List.length_append, List.length_cons]
        have h1 := ih fun y hy => h y (List.mem_cons_of_mem _ hy)
        have h2 : 0 < x.length := List.length_pos_iff.mpr (h x List.mem_cons_self)
        omega
    have := key R.lists o.lists.parts.ne
    rw [o.lists.parts.len] at this
    omega
  · have h1 := o.reads.length_le
    have h2 : (pairsOf R.zs).length ≤ 64 := pairs_len h h
    omega
theorem LL.of_rows {H : Hp} {a : Addr} {us : List Addr} {ls : List (List Str)} (h : H a = some (.lst (us.map V.ref))) (r : Rows H us ls) : LL H a ls := ⟨us, .inl h, Paired.mono (fun _ _ z => .inl z) r⟩
end L2

set_option Elab.async false
set_option linter.all false
set_option maxRecDepth 100000
set_option maxHeartbeats 4000000
/-! Rules compared, changed, made safe. -/
namespace L2
open PySem PySem.Spec PyProof.Rows
/-- two rules that are equal but for reads -/
structure Alike (R S : RuleD) : Prop where
  zs : R.zs = S.zs
  m : R.m = S.m
  turn : R.turn = S.turn
  gather : R.gather = S.gather
  trim : R.trim = S.trim
  prizes : R.prizes = S.prizes
  lists : R.lists = S.lists
theorem Alike.eq {R S : RuleD} (a : Alike R S) (h : R.reads = S.reads) : R = S := by
  cases R
  cases S
  obtain ⟨h1, h2, h3, h4, h5, h6, h7⟩ := a
  dsimp only at *
  subst h1 h2 h3 h4 h5 h6 h7 h
  rfl
theorem eqvAll_pairs : ∀ ps qs : List Pr, PyData.eqvAll (ps.map pairD) (qs.map pairD) = decide (ps = qs)
  | [], [] => rfl
  | [], _ :: _ => rfl
  | _ :: _, [] => rfl
  | p :: ps, q :: qs => by
    rw [List.map_cons, List.map_cons, PyData.eqvAll, eqvAll_pairs ps qs, eqv_pairD, ← Bool.decide_and]
    exact decide_eq_decide.mpr ⟨fun h => by rw [h.1, h.2], fun h => by injection h with h1 h2; exact ⟨h1, h2⟩⟩
theorem eqv_pairs (ps qs : List Pr) : PyData.eqv (.list (ps.map pairD)) (.list (qs.map pairD)) = decide (ps = qs) := by
  rw [PyData.eqv, eqvAll_pairs]
/-- two crowds with the same people and the same greatest mark -/
def SameCrowd (C : Addr) (a b : Addr) (H : Hp) : Prop := ∃ zs m, CrowdOf H C a zs m ∧ CrowdOf H C b zs m ∧ ∀ z ∈ zs, PyData.strOk z = true
def partD (C : Addr) : Eqv := fun x y H => (DFlat x y H ∨ DIns C (SameCrowd C) x y H) ∨ DList (DList DFlat) x y H
theorem mon_partD (C : Addr) : Mon (partD C) := Mon.or (Mon.or mon_flat (mon_ins fun a b H H2 e r => by
  obtain ⟨zs, m, h1, h2, h3⟩ := r
  exact ⟨zs, m, h1.same e, h2.same e, h3⟩)) (mon_list (mon_list mon_flat))
theorem eqV_word (z : Str) : eqV (.str z) (.str z) = true := by
  show (z == z) = true
  exact beq_self_eq_true z
theorem rows_like {H : Hp} : ∀ {us vs : List Addr} {ls : List (List Str)}, Rows H us ls → Rows H vs ls → Prs (DList DFlat) (us.map V.ref) (vs.map V.ref) H
  | [], [], _, _, _ => Prs.nil
  | [], _ :: _, _, h1, h2 => by
    cases h1
    cases h2
  | _ :: _, [], _, h1, h2 => by
    cases h1
    cases h2
  | u :: us, v :: vs, _, .cons h1 t1, .cons h2 t2 => by
    refine Prs.cons ⟨u, v, _, _, rfl, rfl, h1, h2, rfl, fun i x y hx hy => ?_⟩ (rows_like t1 t2)
    rw [hx] at hy
    obtain rfl := Option.some.inj hy
    rw [List.getElem?_map] at hx
    obtain ⟨z, _, rfl⟩ := Option.map_eq_some_iff.mp hx
    exact ⟨rfl, rfl, eqV_word z⟩
def spParts (C CR : Addr) : Sp := fun vs H Q _ => ∃ (x c r l d : Addr) (ys : List V) (us : List Addr) (R : RuleD), vs = [.ref x] ∧ RuleAt H CR C x c r l d ys us R ∧ R.lists.length ≤ 100 ∧
  ∀ H2 t l2 us2, Same H H2 → H t = none → H2 t = some (.tup [.ref c, .str R.turn, .str R.gather, .int R.trim, .ref l2, .int R.prizes]) → H2 l2 = some (.lst (us2.map V.ref)) → Rows H2 us2 R.lists → Q (.ref t) H2
def spLike (C CR : Addr) : Sp := fun vs H Q _ => ∃ (x y : Addr) (R S : RuleD), vs = [.ref x, .ref y] ∧ RuleOf H CR C x R ∧ RuleOf H CR C y S ∧ R.Ok ∧ Alike R S ∧ ∀ H2, Same H H2 → Q (.bl true) H2
def spRuleEq (C CR : Addr) : Sp := fun vs H Q _ => ∃ (x y : Addr) (R S : RuleD), vs = [.ref x, .ref y] ∧ RuleOf H CR C x R ∧ RuleOf H CR C y S ∧ R.Ok ∧ S.Ok ∧ Alike R S ∧ ∀ H2, Same H H2 → Q (.bl (decide (R.reads = S.reads))) H2
def spRuleHas (C CR : Addr) : Sp := fun vs H Q _ => ∃ (x t : Addr) (p : Pr) (R : RuleD), vs = [.ref x, .ref t] ∧ RuleOf H CR C x R ∧ R.Ok ∧ H t = some (.tup [.str p.1, .str p.2]) ∧ p ∈ pairsOf R.zs ∧ Q (.bl (decide (p ∈ R.reads))) H
def spIsWithin (C CR : Addr) : Sp := fun vs H Q _ => ∃ (x y : Addr) (R S : RuleD), vs = [.ref x, .ref y] ∧ RuleOf H CR C x R ∧ RuleOf H CR C y S ∧ R.Ok ∧ S.Ok ∧ Alike R S ∧ ∀ H2, Same H H2 → Q (.bl (R.reads.all fun p => decide (p ∈ S.reads))) H2
/-- what is given, or what the rule has -/
def given (v w : V) : V := if v = .non then w else v
def spChanged (K : PySem.W.Frag) (C CR CB : Addr) : Sp := fun vs H Q E => ∃ (x : Addr) (R : RuleD) (tv rv gv mv lv pv : V) (rB lB : Bool) (rs : List Pr) (ls : List (List Str)),
  vs = [.ref x, tv, rv, gv, mv, lv, pv] ∧ RuleOf H CR C x R ∧ R.Ok ∧ (∃ T, TyN K H tv T) ∧ ((rv = .non ∧ rB = true ∧ rs = R.reads) ∨ (rv ≠ .non ∧ ReadsOpt K H R.zs rv rB rs)) ∧ (∃ T, TyN K H gv T) ∧ (∃ T, TyN K H mv T) ∧
  ((lv = .non ∧ lB = true ∧ ls = R.lists) ∨ (lv ≠ .non ∧ ListsOpt K H R.zs lv lB ls)) ∧ (∃ T, TyN K H pv T) ∧
  (∀ z, (∀ t g mi, given tv (.str R.turn) = .str t → given gv (.str R.gather) = .str g → given mv (.int R.trim) = .int mi → firstWrong (turnB (given tv (.str R.turn))) rB (gatherB t (given gv (.str R.gather))) (trimB g (given mv (.int R.trim))) lB (shortB rs ls mi) (markB 0 8 (given pv (.int R.prizes))) = some z) → ∀ H' d, Raised H H' d "part" (.str z) → E (.ref CB) (some d) H') ∧
  (∀ t g mi p, given tv (.str R.turn) = .str t → given gv (.str R.gather) = .str g → given mv (.int R.trim) = .int mi → given pv (.int R.prizes) = .int p → firstWrong (turnB (given tv (.str R.turn))) rB (gatherB t (given gv (.str R.gather))) (trimB g (given mv (.int R.trim))) lB (shortB rs ls mi) (markB 0 8 (given pv (.int R.prizes))) = none →
    ∀ H' y, Same H H' → H y = none → RuleOf H' CR C y ⟨R.zs, R.m, t, g, mi, p, rs, ls⟩ → Q (.ref y) H')
/-- the rule with other reads -/
def RuleD.withReads (R : RuleD) (rs : List Pr) : RuleD := { R with reads := rs }
def RuleD.lessInner (R : RuleD) : List Pr := R.reads.filter fun p => !decide (p ∈ within R.reads R.lists)
def spMadeSafe (C CR : Addr) : Sp := fun vs H Q _ => ∃ (x : Addr) (R : RuleD), vs = [.ref x] ∧ RuleOf H CR C x R ∧ R.Ok ∧ R.turn = "plain" ∧
  (shortB R.lessInner R.lists R.trim = true → ∀ H2, Same H H2 → Q .non H2) ∧
  (shortB R.lessInner R.lists R.trim = false → ∀ H2 y, Same H H2 → H y = none → RuleOf H2 CR C y (R.withReads R.lessInner) → Q (.ref y) H2)
def spCost (C CR : Addr) : Sp := fun vs H Q _ => ∃ (x a : Addr) (R : RuleD) (ls : List (List Str)), vs = [.ref x, .ref a] ∧ RuleOf H CR C x R ∧ R.Ok ∧ R.turn = "plain" ∧ LL H a ls ∧ Parts R.zs ls ∧ ls.length ≤ 10 ∧ ∀ H2, Same H H2 → Q (.int (within R.reads ls).length) H2
end L2

set_option Elab.async false
set_option linter.all false
set_option maxRecDepth 100000
set_option maxHeartbeats 4000000
/-! The laws' own drawn rules: a pool of numbers, words, pairs, a parting, a rule as a dict. -/
namespace L2
open PySem PySem.Spec PyProof.Rows
/-! heaps without the pool -/
theorem del_le {H : Hp} {a : Addr} : Same (del H a) H := fun b o e => by
  by_cases c : b = a
  · subst c
    rw [del_same] at e
    cases e
  · rwa [del_ne c] at e
theorem del_but {H H2 : Hp} {a : Addr} (b : But a H H2) : Same (del H a) (del H2 a) := fun c o e => by
  by_cases q : c = a
  · subst q
    rw [del_same] at e
    cases e
  · rw [del_ne q] at e ⊢
    exact b c o q e
theorem del_mono {H H2 : Hp} {a : Addr} (s : Same H H2) : Same (del H a) (del H2 a) := del_but (But.of_same s)
theorem del_at {H : Hp} {a b : Addr} {o : HO} (n : b ≠ a) (e : H b = some o) : del H a b = some o := by
  rw [del_ne n]
  exact e
theorem del_none {H : Hp} {a b : Addr} (e : H b = none) : del H a b = none := by
  by_cases q : b = a
  · subst q
    exact del_same
  · rw [del_ne q]
    exact e
/-- the pool: a list of numbers, and how many are drawn -/
def PoolC (H : Hp) (a : Addr) : Prop := ∃ (n : Addr) (ns : List Int) (i : Nat), H a = some (.lst [.ref n, .int (i : Int)]) ∧ n ≠ a ∧ H n = some (.lst (ns.map V.int)) ∧ (∀ k ∈ ns, 0 ≤ k) ∧ ns.length ≤ 1000 ∧ 1 ≤ ns.length
theorem PoolC.same {H H2 : Hp} {a : Addr} (p : PoolC H a) (s : Same H H2) : PoolC H2 a := by
  obtain ⟨n, ns, i, h1, h2, h3, h4⟩ := p
  exact ⟨n, ns, i, s _ _ h1, h2, s _ _ h3, h4⟩
theorem PoolC.ne {H : Hp} {a b : Addr} (p : PoolC H a) (e : H b = none) : b ≠ a := fun q => by
  obtain ⟨n, ns, i, h1, _⟩ := p
  rw [q, h1] at e
  cases e
theorem PoolC.some {H : Hp} {a : Addr} (p : PoolC H a) : H a ≠ none := fun q => by
  obtain ⟨n, ns, i, h1, _⟩ := p
  rw [h1] at q
  cases q
theorem PoolC.put {H : Hp} {a p : Addr} {xs : List V} {o : HO} (P : PoolC H a) (np : p ≠ a) (h : H p = Option.some (.lst xs)) (hx : ∀ j : Int, V.int j ∉ xs) : PoolC (upd H p o) a := by
  obtain ⟨n, ns, i, h1, h2, h3, h4, h5, h6⟩ := P
  refine ⟨n, ns, i, by rw [upd_ne (Ne.symm np)]; exact h1, h2, ?_, h4, h5, h6⟩
  rw [upd_ne]
  · exact h3
  · rintro rfl
    rw [h] at h3
    have e : xs = ns.map V.int := HO.lst.inj (Option.some.inj h3)
    cases ns with
    | nil => simp at h6
    | cons k ks => exact hx k (by rw [e]; simp)
def spNumbers : Sp := fun vs H Q _ => ∃ (z : Int) (k m : Nat), vs = [.int z, .int (k : Int), .int (m : Int)] ∧ k ≤ 62 ∧ m ≤ 1000 ∧ ∀ H' p (ns : List Int), Same H H' → H p = none → H' p = some (.lst (ns.map V.int)) → ns.length = m → (∀ n ∈ ns, 0 ≤ n) → Q (.ref p) H'
def spOpenedC (K : PySem.W.Frag) : Sp := fun vs H Q _ => ∃ (a : Addr) (ns : List Int) (k m : Nat), vs = [.ref a, .int (k : Int), .int (m : Int)] ∧ SqL K H a (ns.map V.int) ∧ ns.length ≤ 63 ∧ k ≤ 62 ∧ (ns ≠ [] → k < ns.length) ∧ m ≤ 1000 ∧ 1 ≤ m ∧ ∀ H' p, Same H H' → H p = none → PoolC H' p → Q (.ref p) H'
def spDrawC : Sp := fun vs H Q _ => ∃ (a : Addr) (m : Int), vs = [.ref a, .int m] ∧ PoolC H a ∧ 1 ≤ m ∧ ∀ (r : Int) H', 0 ≤ r → r < m → PoolC H' a → But a H H' → Q (.int r) H'
def spPickC : Sp := fun vs H Q _ => ∃ (a l : Addr) (xs : List V), vs = [.ref a, .ref l] ∧ PoolC H a ∧ H l = some (.lst xs) ∧ l ≠ a ∧ 1 ≤ xs.length ∧ ∀ x H', x ∈ xs → PoolC H' a → But a H H' → Q x H'
def namesC : List Str := ["cy", "ann", "di", "bo", "flo", "ed"]
theorem namesC_ok : ∀ z ∈ namesC, isW (.str z) = true ∧ PyData.strOk z = true ∧ z.length ≤ 1000 ∧ z.length ≤ 8 := by decide +kernel
theorem namesC_nd : namesC.Nodup := by decide +kernel
structure WordsC (zs : List Str) : Prop where
  sub : zs.Sublist namesC
  one : 1 ≤ zs.length
theorem WordsC.nd {zs : List Str} (w : WordsC zs) : zs.Nodup := namesC_nd.sublist w.sub
theorem WordsC.six {zs : List Str} (w : WordsC zs) : zs.length ≤ 6 := w.sub.length_le
theorem WordsC.ok {zs : List Str} (w : WordsC zs) : ∀ z ∈ zs, PyData.strOk z = true := fun z hz => (namesC_ok z (w.sub.subset hz)).2.1
theorem WordsC.folk {zs : List Str} (w : WordsC zs) : Folk zs := ⟨w.ok, w.nd, w.one, by have := w.six; omega⟩
theorem WordsC.people {zs : List Str} (w : WordsC zs) : peopleB (zs.map V.str) = true := by
  show ((decide (1 ≤ (zs.map V.str).length) && decide ((zs.map V.str).length ≤ 8)) && ((zs.map V.str).all isW && decide (zs.map V.str).Nodup)) = true
  have h1 : (zs.map V.str).all isW = true := by
    rw [List.all_map]
    exact List.all_eq_true.mpr fun z hz => (namesC_ok z (w.sub.subset hz)).1
  have h2 := w.one
  have h3 := w.six
  rw [h1, List.length_map, decide_eq_true h2, decide_eq_true (show zs.length ≤ 8 by omega), decide_eq_true ((nodup_map_inj (f := V.str) (fun _ _ e => V.str.inj e)).mpr w.nd)]
  rfl
theorem WordsC.items {K : PySem.W.Frag} {H : Hp} {zs : List Str} (w : WordsC zs) : ∀ x ∈ zs.map V.str, ItemOk K H x := fun x hx => by
  obtain ⟨z, hz, rfl⟩ := List.mem_map.mp hx
  exact item_str (namesC_ok z (w.sub.subset hz)).2.2.1
theorem wordsC_cut {r m : Nat} (hr : r ≤ 2) (h1 : 1 ≤ m) : WordsC ((namesC.drop r).take m) := by
  refine ⟨(List.take_sublist _ _).trans (List.drop_sublist _ _), ?_⟩
  rw [List.length_take, List.length_drop]
  show 1 ≤ min m (6 - r)
  omega
def spWordsC : Sp := fun vs H Q _ => ∃ (a : Addr) (m : Nat), vs = [.ref a, .int (m : Int)] ∧ PoolC H a ∧ 1 ≤ m ∧ m ≤ 6 ∧ ∀ H' p zs, WordsC zs → PoolC H' a → Same (del H a) (del H' a) → H p = none → H' p = some (.lst (zs.map V.str)) → Q (.ref p) H'
/-! partings -/
theorem straight_nil {zs : List Str} (h : zs = []) : Straight zs [] := by
  subst h
  exact ⟨⟨(fun l h => nomatch h), (fun l h => nomatch h), List.nodup_nil, rfl⟩, (fun l h => nomatch h), List.nil_sublist _⟩
theorem straight_new {zs : List Str} {ls : List (List Str)} {z : Str} (s : Straight zs ls) (nz : z ∉ zs) : Straight (zs ++ [z]) (ls ++ [[z]]) where
  parts := by
    refine ⟨fun l hl => ?_, fun l hl p hp => ?_, ?_, ?_⟩
    · rcases List.mem_append.mp hl with hl | hl
      · exact s.parts.ne l hl
      · rw [List.mem_singleton.mp hl]
        exact List.cons_ne_nil _ _
    · rcases List.mem_append.mp hl with hl | hl
      · exact List.mem_append_left _ (s.parts.mem l hl p hp)
      · rw [List.mem_singleton.mp hl] at hp
        exact List.mem_append_right _ hp
    · rw [List.flatten_append, List.nodup_append]
      refine ⟨s.parts.nd, by simp, fun a ha b hb e => ?_⟩
      have hb2 : b = z := by simpa using hb
      obtain ⟨l, hl, hal⟩ := List.mem_flatten.mp ha
      exact nz (hb2 ▸ e ▸ s.parts.mem l hl a hal)
    · rw [List.flatten_append, List.length_append, List.length_append, s.parts.len]
      rfl
  sub := fun l hl => by
    rcases List.mem_append.mp hl with hl | hl
    · exact (s.sub l hl).trans (List.sublist_append_left _ _)
    · rw [List.mem_singleton.mp hl]
      exact List.sublist_append_right _ _
  heads := by
    rw [List.map_append]
    exact s.heads.append (List.Sublist.refl _)
theorem straight_more {zs : List Str} {l1 l2 : List (List Str)} {l : List Str} {z : Str} (s : Straight zs (l1 ++ l :: l2)) (nz : z ∉ zs) : Straight (zs ++ [z]) (l1 ++ (l ++ [z]) :: l2) where
  parts := by
    have fl : (l1 ++ (l ++ [z]) :: l2).flatten.Perm ((l1 ++ l :: l2).flatten ++ [z]) := by
      rw [List.flatten_append, List.flatten_append, List.flatten_cons, List.flatten_cons, List.append_assoc, List.append_assoc, List.append_assoc]
      exact ((List.perm_append_comm (l₁ := [z])).append_left l).append_left l1.flatten
    refine ⟨fun k hk => ?_, fun k hk p hp => ?_, ?_, ?_⟩
    · rcases List.mem_append.mp hk with hk | hk
      · exact s.parts.ne k (List.mem_append_left _ hk)
      · rcases List.mem_cons.mp hk with rfl | hk
        · exact List.append_ne_nil_of_right_ne_nil _ (List.cons_ne_nil _ _)
        · exact s.parts.ne k (List.mem_append_right _ (List.mem_cons_of_mem _ hk))
    · rcases List.mem_append.mp hk with hk | hk
      · exact List.mem_append_left _ (s.parts.mem k (List.mem_append_left _ hk) p hp)
      · rcases List.mem_cons.mp hk with rfl | hk
        · rcases List.mem_append.mp hp with hp | hp
          · exact List.mem_append_left _ (s.parts.mem l (List.mem_append_right _ List.mem_cons_self) p hp)
          · exact List.mem_append_right _ hp
        · exact List.mem_append_left _ (s.parts.mem k (List.mem_append_right _ (List.mem_cons_of_mem _ hk)) p hp)
    · refine fl.nodup_iff.mpr (List.nodup_append.mpr ⟨s.parts.nd, by simp, fun a ha b hb e => ?_⟩)
      have hb2 : b = z := List.mem_singleton.mp hb
      obtain ⟨k, hk, hak⟩ := List.mem_flatten.mp ha
      exact nz (hb2 ▸ e ▸ s.parts.mem k hk a hak)
    · rw [fl.length_eq, List.length_append, List.length_append, s.parts.len]
  sub := fun k hk => by
    rcases List.mem_append.mp hk with hk | hk
    · exact (s.sub k (List.mem_append_left _ hk)).trans (List.sublist_append_left _ _)
    · rcases List.mem_cons.mp hk with rfl | hk
      · exact (s.sub l (List.mem_append_right _ List.mem_cons_self)).append (List.Sublist.refl _)
      · exact (s.sub k (List.mem_append_right _ (List.mem_cons_of_mem _ hk))).trans (List.sublist_append_left _ _)
  heads := by
    have nl := s.parts.ne l (List.mem_append_right _ List.mem_cons_self)
    have e : (l1 ++ (l ++ [z]) :: l2).map (fun l => l.headD Str.empty) = (l1 ++ l :: l2).map fun l => l.headD Str.empty := by
      rw [List.map_append, List.map_append, List.map_cons, List.map_cons]
      cases l with
      | nil => exact absurd rfl nl
      | cons a b => rfl
    rw [e]
    exact s.heads.trans (List.sublist_append_left _ _)
theorem paired_cut {α β : Type} {F : α → β → Prop} : ∀ {us : List α} {ls : List β}, Paired F us ls → ∀ k, k < ls.length → ∃ u1 u u2 l1 l l2, us = u1 ++ u :: u2 ∧ ls = l1 ++ l :: l2 ∧ u1.length = k ∧ F u l ∧ ∀ F' : α → β → Prop, (∀ u l, F u l → F' u l) → ∀ u' l', F' u' l' → Paired F' (u1 ++ u' :: u2) (l1 ++ l' :: l2)
  | _, _, .nil, k, h => absurd h (Nat.not_lt_zero _)
  | _, _, .cons (a := a) (b := b) (l₁ := l₁) (l₂ := l₂) r t, 0, _ => ⟨[], a, l₁, [], b, l₂, rfl, rfl, rfl, r, fun F' m u' l' h => .cons h (Paired.mono m t)⟩
  | _, _, .cons (a := a) (b := b) r t, k + 1, h => by
    obtain ⟨u1, u, u2, l1, l, l2, rfl, rfl, hk, hf, put⟩ := paired_cut t k (Nat.lt_of_succ_lt_succ h)
    exact ⟨a :: u1, u, u2, b :: l1, l, l2, rfl, rfl, by rw [List.length_cons, hk], hf, fun F' m u' l' h => .cons (m _ _ r) (put F' m u' l' h)⟩
def spPartingC : Sp := fun vs H Q _ => ∃ (a w : Addr) (zs : List Str), vs = [.ref a, .ref w] ∧ PoolC H a ∧ w ≠ a ∧ H w = some (.lst (zs.map V.str)) ∧ zs.Nodup ∧ 1 ≤ zs.length ∧ zs.length ≤ 8 ∧
  ∀ H' p us ls, Straight zs ls → PoolC H' a → Same (del H a) (del H' a) → H p = none → (del H' a) p = some (.lst (us.map V.ref)) → Rows (del H' a) us ls → Q (.ref p) H'
/-! the drawn rule, as a dict -/
def gameK (w l r : Addr) (R : RuleD) : List (Key × V) := [(.inr "words", .ref w), (.inr "most", .int R.m), (.inr "turn", .str R.turn), (.inr "trim", .int R.trim), (.inr "gather", .str R.gather), (.inr "prizes", .int R.prizes), (.inr "lists", .ref l), (.inr "reads", .ref r)]
def gameK4 (w : Addr) (m : Int) (t : Str) (tr : Int) : List (Key × V) := [(.inr "words", .ref w), (.inr "most", .int m), (.inr "turn", .str t), (.inr "trim", .int tr)]
def gameK6 (w : Addr) (m : Int) (t : Str) (tr : Int) (ga : Str) (pr : Int) : List (Key × V) := gameK4 w m t tr ++ [(.inr "gather", .str ga), (.inr "prizes", .int pr)]
def gameK7 (w : Addr) (m : Int) (t : Str) (tr : Int) (ga : Str) (pr : Int) (l : Addr) : List (Key × V) := gameK6 w m t tr ga pr ++ [(.inr "lists", .ref l)]
def gameK8 (w : Addr) (m : Int) (t : Str) (tr : Int) (ga : Str) (pr : Int) (l r : Addr) : List (Key × V) := gameK7 w m t tr ga pr l ++ [(.inr "reads", .ref r)]
theorem gameK_eq {w l r : Addr} {R : RuleD} : gameK w l r R = gameK8 w R.m R.turn R.trim R.gather R.prizes l r := rfl
theorem merge4 {w : Addr} {m : Int} {t : Str} {tr : Int} : mergeK [] (gameK4 w m t tr) = gameK4 w m t tr := by
  rw [merge_new (κ := []) (by show ([Sum.inr "words", Sum.inr "most", Sum.inr "turn", Sum.inr "trim"] : List Key).Nodup; decide +kernel), List.nil_append]
theorem put4 {w : Addr} {m : Int} {t : Str} {tr : Int} {ga : Str} {pr : Int} : putK (putK (gameK4 w m t tr) (.inr "gather") (.str ga)) (.inr "prizes") (.int pr) = gameK6 w m t tr ga pr := rfl
theorem put6t {w : Addr} {m : Int} {t : Str} {tr : Int} {ga : Str} {pr x : Int} : putK (gameK6 w m t tr ga pr) (.inr "trim") (.int x) = gameK6 w m t x ga pr := rfl
theorem put6 {w : Addr} {m : Int} {t : Str} {tr : Int} {ga : Str} {pr : Int} {l : Addr} : putK (gameK6 w m t tr ga pr) (.inr "lists") (.ref l) = gameK7 w m t tr ga pr l := rfl
theorem put7 {w : Addr} {m : Int} {t : Str} {tr : Int} {ga : Str} {pr : Int} {l r : Addr} : putK (gameK7 w m t tr ga pr l) (.inr "reads") (.ref r) = gameK8 w m t tr ga pr l r := rfl
theorem put8r {w : Addr} {m : Int} {t : Str} {tr : Int} {ga : Str} {pr : Int} {l r r2 : Addr} : putK (gameK8 w m t tr ga pr l r) (.inr "reads") (.ref r2) = gameK8 w m t tr ga pr l r2 := rfl
theorem put8g {w : Addr} {m : Int} {t : Str} {tr x : Int} {ga gb : Str} {pr : Int} {l r : Addr} : putK (putK (gameK8 w m t tr ga pr l r) (.inr "gather") (.str gb)) (.inr "trim") (.int x) = gameK8 w m t x gb pr l r := rfl
structure GameAt (H : Hp) (g w l r : Addr) (us : List Addr) (ys : List V) (R : RuleD) : Prop where
  ob : H g = some (.dK (gameK w l r R))
  words : H w = some (.lst (R.zs.map V.str))
  ls : H l = some (.lst (us.map V.ref))
  rows : Rows H us R.lists
  rd : H r = some (.lst ys)
  tps : Tps H ys R.reads
def GameOf (H : Hp) (g : Addr) (R : RuleD) : Prop := ∃ w l r us ys, GameAt H g w l r us ys R
theorem GameAt.same {H H2 : Hp} {g w l r : Addr} {us : List Addr} {ys : List V} {R : RuleD} (s : Same H H2) (h : GameAt H g w l r us ys R) : GameAt H2 g w l r us ys R :=
  ⟨s _ _ h.ob, s _ _ h.words, s _ _ h.ls, h.rows.same s, s _ _ h.rd, h.tps.same s⟩
theorem GameOf.same {H H2 : Hp} {g : Addr} {R : RuleD} (s : Same H H2) (h : GameOf H g R) : GameOf H2 g R := by
  obtain ⟨w, l, r, us, ys, h⟩ := h
  exact ⟨w, l, r, us, ys, h.same s⟩
theorem GameAt.gWords {H : Hp} {g w l r : Addr} {us : List Addr} {ys : List V} {R : RuleD} (h : GameAt H g w l r us ys R) : DGet H g (.str "words") (some (.ref w)) := DGet.k (k := .inr "words") h.ob
theorem GameAt.gMost {H : Hp} {g w l r : Addr} {us : List Addr} {ys : List V} {R : RuleD} (h : GameAt H g w l r us ys R) : DGet H g (.str "most") (some (.int R.m)) := DGet.k (k := .inr "most") h.ob
theorem GameAt.gTurn {H : Hp} {g w l r : Addr} {us : List Addr} {ys : List V} {R : RuleD} (h : GameAt H g w l r us ys R) : DGet H g (.str "turn") (some (.str R.turn)) := DGet.k (k := .inr "turn") h.ob
theorem GameAt.gTrim {H : Hp} {g w l r : Addr} {us : List Addr} {ys : List V} {R : RuleD} (h : GameAt H g w l r us ys R) : DGet H g (.str "trim") (some (.int R.trim)) := DGet.k (k := .inr "trim") h.ob
theorem GameAt.gGather {H : Hp} {g w l r : Addr} {us : List Addr} {ys : List V} {R : RuleD} (h : GameAt H g w l r us ys R) : DGet H g (.str "gather") (some (.str R.gather)) := DGet.k (k := .inr "gather") h.ob
theorem GameAt.gPrizes {H : Hp} {g w l r : Addr} {us : List Addr} {ys : List V} {R : RuleD} (h : GameAt H g w l r us ys R) : DGet H g (.str "prizes") (some (.int R.prizes)) := DGet.k (k := .inr "prizes") h.ob
theorem GameAt.gLists {H : Hp} {g w l r : Addr} {us : List Addr} {ys : List V} {R : RuleD} (h : GameAt H g w l r us ys R) : DGet H g (.str "lists") (some (.ref l)) := DGet.k (k := .inr "lists") h.ob
theorem GameAt.gReads {H : Hp} {g w l r : Addr} {us : List Addr} {ys : List V} {R : RuleD} (h : GameAt H g w l r us ys R) : DGet H g (.str "reads") (some (.ref r)) := DGet.k (k := .inr "reads") h.ob
def rowsD (ls : List (List Str)) : List PyData := ls.map fun l => .list (l.map .str)
theorem rows_dp {K : PySem.W.Frag} {H : Hp} {us : List Addr} {ls : List (List Str)} (h : Rows H us ls) : DpAll K H (us.map V.ref) (rowsD ls) := by
  induction h with
  | nil => exact .nil
  | cons e t ih => exact .cons (.lst (SqL.of e) (dp_strs _)) ih
theorem shaped_rows {ls : List (List Str)} (h : ∀ l ∈ ls, ∀ p ∈ l, PyData.strOk p = true) : SeqAt.shaped (.list (rowsD ls)) = true := by
  have key : ∀ {ls : List (List Str)}, (∀ l ∈ ls, ∀ p ∈ l, PyData.strOk p = true) → PyData.canLayAll0 (rowsD ls) = true ∧ PyData.depthAll (rowsD ls) ≤ 2 := fun {ls} => by
    induction ls with
    | nil => exact fun _ => ⟨rfl, by simp [rowsD, PyData.depthAll]⟩
    | cons l ls ih =>
      intro h
      obtain ⟨h1, h2⟩ := ih fun k hk => h k (List.mem_cons_of_mem _ hk)
      have c : PyData.canLay0 (.list (l.map .str)) = true := SeqAt.canLay_of_shaped (shaped_strs (h l List.mem_cons_self))
      have d : (PyData.list (l.map .str)).depth ≤ 2 := by
        have := depth_strs l
        rw [PyData.depth]
        omega
      show PyData.canLayAll0 (.list (l.map .str) :: rowsD ls) = true ∧ PyData.depthAll (.list (l.map .str) :: rowsD ls) ≤ 2
      constructor
      · rw [PyData.canLayAll0, c, h1]
        rfl
      · simp only [PyData.depthAll]
        omega
  obtain ⟨h1, h2⟩ := key h
  unfold SeqAt.shaped
  rw [PyData.canLay0, h1, Bool.true_and]
  refine decide_eq_true ?_
  rw [PyData.depth]
  omega
theorem eqv_nilC (ds : List PyData) : PyData.eqv (.list ds) (.list []) = decide (ds.length = 0) := by
  rw [PyData.eqv]
  cases ds with
  | nil => rfl
  | cons d ds => rfl
/-- somebody of a list of two or more who has too few readers -/
def RuleD.lacks (R : RuleD) (z : Str) : Bool := (R.lists.any fun l => decide (z ∈ l) && decide (1 < l.length)) && decide (((readersOf R.reads z).length : Int) ≤ 2 * R.trim)
theorem short_lacks {R : RuleD} (mem : ∀ l ∈ R.lists, ∀ p ∈ l, p ∈ R.zs) : shortB R.reads R.lists R.trim = R.zs.any R.lacks := by
  rw [Bool.eq_iff_iff, shortB, List.any_eq_true, List.any_eq_true]
  constructor
  · rintro ⟨z, hz, h⟩
    obtain ⟨l, hl, hzl⟩ := List.mem_flatten.mp hz
    obtain ⟨hl1, hl2⟩ := List.mem_filter.mp hl
    refine ⟨z, mem l hl1 z hzl, ?_⟩
    unfold RuleD.lacks
    rw [Bool.and_eq_true, List.any_eq_true]
    exact ⟨⟨l, hl1, by rw [decide_eq_true hzl, hl2]; rfl⟩, h⟩
  · rintro ⟨z, hz, h⟩
    unfold RuleD.lacks at h
    rw [Bool.and_eq_true, List.any_eq_true] at h
    obtain ⟨⟨l, hl, h1⟩, h2⟩ := h
    rw [Bool.and_eq_true] at h1
    exact ⟨z, List.mem_flatten.mpr ⟨l, List.mem_filter.mpr ⟨hl, h1.2⟩, of_decide_eq_true h1.1⟩, h2⟩
def spLacksC : Sp := fun vs H Q _ => ∃ (g : Addr) (z : Str) (R : RuleD), vs = [.ref g, .str z] ∧ GameOf H g R ∧ (∀ l ∈ R.lists, ∀ p ∈ l, PyData.strOk p = true) ∧ R.lists.length ≤ 100 ∧ (∀ l ∈ R.lists, l.length ≤ 100) ∧ R.reads.length ≤ 64 ∧ 0 ≤ R.trim ∧ R.trim ≤ 3 ∧ ∀ H2, Same H H2 → Q (.bl (R.lacks z)) H2
theorem gather_plain {g : Str} (h : g ∈ gathers) : gatherB "plain" (.str g) = true := by
  show (decide (g ∈ gathers) && (decide (("plain" : Str) = "plain") || decide (g ∈ gathersT))) = true
  rw [decide_eq_true h, decide_eq_true rfl]
  rfl
theorem gather_turned {t g : Str} (h : g ∈ gathersT) : gatherB t (.str g) = true := by
  show (decide (g ∈ gathers) && (decide (t = "plain") || decide (g ∈ gathersT))) = true
  rw [decide_eq_true h, decide_eq_true (show g ∈ gathers from List.mem_of_mem_take (i := 2) h), Bool.or_true]
  rfl
/-- the reads, and all of one more word -/
def fillC (zs : List Str) (rs : List Pr) (z : Str) : List Pr := (pairsOf zs).filter fun p => decide (p ∈ rs) || decide (p.2 = z)
def NeedsC (ls : List (List Str)) (z : Str) : Prop := ∃ l ∈ ls, z ∈ l ∧ 1 < l.length
theorem fill_grow {zs : List Str} {rs : List Pr} {z : Str} (h : rs.Sublist (pairsOf zs)) : ∀ p ∈ rs, p ∈ fillC zs rs z := fun p hp => by
  refine List.mem_filter.mpr ⟨h.subset hp, ?_⟩
  rw [decide_eq_true hp]
  rfl
theorem fill_read {zs : List Str} {ls : List (List Str)} {rs : List Pr} {z : Str} (nd : zs.Nodup) (st : Straight zs ls) (n : NeedsC ls z) : ∃ p ∈ fillC zs rs z, p.2 = z := by
  obtain ⟨l, hl, hz, big⟩ := n
  have ndl := nd.sublist (st.sub l hl)
  obtain ⟨y, hy, ne⟩ : ∃ y ∈ l, y ≠ z := by
    refine Classical.byContradiction fun c => ?_
    have all : ∀ y ∈ l, y = z := fun y hy => Classical.byContradiction fun e => c ⟨y, hy, e⟩
    cases l with
    | nil => cases hz
    | cons a l =>
      cases l with
      | nil => simp at big
      | cons b l =>
        have e1 := all a List.mem_cons_self
        have e2 := all b (List.mem_cons_of_mem _ List.mem_cons_self)
        rw [e1, e2] at ndl
        exact (List.nodup_cons.mp ndl).1 List.mem_cons_self
  have ys := (st.sub l hl).subset hy
  have zz := (st.sub l hl).subset hz
  refine ⟨(y, z), List.mem_filter.mpr ⟨List.mem_flatMap.mpr ⟨y, ys, ?_⟩, ?_⟩, rfl⟩
  · unfold rowOf
    exact List.mem_map.mpr ⟨z, List.mem_filter.mpr ⟨zz, decide_eq_true ne⟩, rfl⟩
  · rw [decide_eq_true (rfl : (y, z).2 = z), Bool.or_true]
theorem readers_some {rs : List Pr} {z : Str} : (∃ p ∈ rs, p.2 = z) ↔ 0 < (readersOf rs z).length := by
  unfold readersOf
  rw [List.length_map, List.length_pos_iff_exists_mem]
  exact ⟨fun ⟨p, h1, h2⟩ => ⟨p, List.mem_filter.mpr ⟨h1, decide_eq_true h2⟩⟩, fun ⟨p, h⟩ => ⟨p, (List.mem_filter.mp h).1, of_decide_eq_true (List.mem_filter.mp h).2⟩⟩
theorem needs_any {ls : List (List Str)} {z : Str} (n : NeedsC ls z) : (ls.any fun l => decide (z ∈ l) && decide (1 < l.length)) = true := by
  obtain ⟨l, hl, h1, h2⟩ := n
  rw [List.any_eq_true]
  exact ⟨l, hl, by rw [decide_eq_true h1, decide_eq_true h2]; rfl⟩
theorem lacks_read {R : RuleD} {z : Str} (h : R.lacks z = false) (t : 0 ≤ R.trim) (n : NeedsC R.lists z) : ∃ p ∈ R.reads, p.2 = z := by
  unfold RuleD.lacks at h
  rw [needs_any n, Bool.true_and, decide_eq_false_iff_not] at h
  exact readers_some.mpr (by omega)
theorem lacks_zero {R : RuleD} {z : Str} (t : R.trim = 0) (h : NeedsC R.lists z → ∃ p ∈ R.reads, p.2 = z) : R.lacks z = false := by
  unfold RuleD.lacks
  cases e : R.lists.any fun l => decide (z ∈ l) && decide (1 < l.length) with
  | false => rfl
  | true =>
    obtain ⟨l, hl, h1⟩ := List.any_eq_true.mp e
    rw [Bool.and_eq_true, decide_eq_true_eq, decide_eq_true_eq] at h1
    have := readers_some.mp (h ⟨l, hl, h1.1, h1.2⟩)
    rw [t, Bool.true_and, decide_eq_false_iff_not]
    omega
theorem nolack_full {R : RuleD} (mem : ∀ l ∈ R.lists, ∀ p ∈ l, p ∈ R.zs) (h : ∀ z ∈ R.zs, R.lacks z = false) : shortB R.reads R.lists R.trim = false := by
  rw [short_lacks mem, Bool.eq_false_iff]
  intro c
  obtain ⟨z, hz, e⟩ := List.any_eq_true.mp c
  rw [h z hz] at e
  cases e
theorem PoolC.putD {H : Hp} {a p : Addr} {kvs : List (Key × V)} {o : HO} (P : PoolC H a) (np : p ≠ a) (h : H p = Option.some (.dK kvs)) : PoolC (upd H p o) a := by
  obtain ⟨n, ns, i, h1, h2, h3, h4, h5, h6⟩ := P
  refine ⟨n, ns, i, by rw [upd_ne (Ne.symm np)]; exact h1, h2, ?_, h4, h5, h6⟩
  rw [upd_ne]
  · exact h3
  · rintro rfl
    rw [h] at h3
    cases h3
/-- all but the pool and the game itself -/
def del2 (G : Hp) (a g : Addr) : Hp := del (del G a) g
theorem del2_le {G : Hp} {a g : Addr} : Same (del2 G a g) (del G a) := del_le
theorem del2_upd {G : Hp} {a g : Addr} {o : HO} : del2 (upd G g o) a g = del2 G a g := by
  funext b
  unfold del2
  by_cases e : b = g
  · subst e
    rw [del_same, del_same]
  · rw [del_ne e, del_ne e]
    by_cases e2 : b = a
    · subst e2
      rw [del_same, del_same]
    · rw [del_ne e2, del_ne e2, upd_ne e]
theorem del2_up {G : Hp} {a g b : Addr} {o o2 : HO} (h : del G a b = some o) (hg : G g = some o2) (n : o ≠ o2) : del2 G a g b = some o := by
  refine del_at (fun e => ?_) h
  subst e
  have := del_le _ _ h
  rw [hg] at this
  exact n (Option.some.inj this).symm
theorem del2_mono {G G2 : Hp} {a g : Addr} (s : Same (del G a) (del G2 a)) : Same (del2 G a g) (del2 G2 a g) := del_mono s
theorem del2_at {G : Hp} {a g b : Addr} {o : HO} (n1 : b ≠ a) (n2 : b ≠ g) (e : G b = some o) : del2 G a g b = some o := del_at n2 (del_at n1 e)
theorem del2_of {G : Hp} {a g b : Addr} {o : HO} (e : del2 G a g b = some o) : G b = some o := del_le _ _ (del_le _ _ e)
theorem PoolC.del_at {H : Hp} {a b : Addr} {xs : List V} (P : PoolC H a) (h : H b = Option.some (.tup xs)) : del H a b = Option.some (.tup xs) := L2.del_at (fun e => by
  obtain ⟨n, ns, i, h1, _⟩ := P
  rw [e, h1] at h
  cases h) h
theorem paired_map {α β : Type} {F : α → β → Prop} : ∀ {qs : List (α × β)}, (∀ q ∈ qs, F q.1 q.2) → Paired F (qs.map (·.1)) (qs.map (·.2))
  | [], _ => .nil
  | q :: qs, h => .cons (h q List.mem_cons_self) (paired_map fun p hp => h p (List.mem_cons_of_mem _ hp))
theorem paired_zip {α β : Type} {F : α → β → Prop} : ∀ {xs : List α} {ys : List β}, Paired F xs ys → ∀ q ∈ xs.zip ys, F q.1 q.2
  | _, _, .nil, q, h => by cases h
  | _, _, .cons r t, q, h => by
    rw [List.zip_cons_cons] at h
    rcases List.mem_cons.mp h with rfl | h
    · exact r
    · exact paired_zip t q h
structure PartsAt (H : Hp) (w l r : Addr) (us : List Addr) (ys : List V) (zs : List Str) (ls : List (List Str)) (rs : List Pr) : Prop where
  words : H w = some (.lst (zs.map V.str))
  lsa : H l = some (.lst (us.map V.ref))
  rows : Rows H us ls
  rd : H r = some (.lst ys)
  tps : Tps H ys rs
theorem PartsAt.same {H H2 : Hp} {w l r : Addr} {us : List Addr} {ys : List V} {zs : List Str} {ls : List (List Str)} {rs : List Pr} (s : Same H H2) (h : PartsAt H w l r us ys zs ls rs) : PartsAt H2 w l r us ys zs ls rs :=
  ⟨s _ _ h.words, s _ _ h.lsa, h.rows.same s, s _ _ h.rd, h.tps.same s⟩
theorem PartsAt.game {G : Hp} {a g w l r : Addr} {us : List Addr} {ys : List V} {R : RuleD} (h : PartsAt (del2 G a g) w l r us ys R.zs R.lists R.reads) (n : g ≠ a) (ob : G g = some (.dK (gameK w l r R))) : GameAt (del G a) g w l r us ys R :=
  ⟨del_at n ob, (h.same del2_le).words, (h.same del2_le).lsa, (h.same del2_le).rows, (h.same del2_le).rd, (h.same del2_le).tps⟩
def spGameC : Sp := fun vs H Q _ => ∃ (a tl : Addr) (many most : Nat) (ts : List Str), vs = [.ref a, .int (many : Int), .int (most : Int), .ref tl] ∧ PoolC H a ∧ H tl = some (.lst (ts.map V.str)) ∧ tl ≠ a ∧ 1 ≤ ts.length ∧ (∀ t ∈ ts, t ∈ turns) ∧ 1 ≤ many ∧ many ≤ 6 ∧ 1 ≤ most ∧ most ≤ 10 ∧
  ∀ H' g R, R.Ok → WordsC R.zs → R.turn ∈ ts → 1 ≤ R.m → R.m ≤ (most : Int) → PoolC H' a → Same (del H a) (del H' a) → H g = none → g ≠ a → GameOf (del H' a) g R → Q (.ref g) H'
end L2

set_option Elab.async false
set_option linter.all false
set_option maxRecDepth 100000
set_option maxHeartbeats 4000000
/-! The laws' own crowd, rule and pairs of a drawn game. -/
namespace L2
open PySem PySem.Spec PyProof.Rows
/-- of a parting, somebody's list -/
theorem parts_one {zs : List Str} {ls : List (List Str)} (h : Parts zs ls) (nd : zs.Nodup) {z : Str} (hz : z ∈ zs) : ∃ l, (ls.filter fun l => decide (z ∈ l)) = [l] ∧ l ∈ ls ∧ z ∈ l := by
  have mem : z ∈ ls.flatten := by
    refine Classical.byContradiction fun n => ?_
    have := Km.nodup_le (l := z :: ls.flatten) (d := zs) (List.nodup_cons.mpr ⟨n, h.nd⟩) fun x hx => by
      rcases List.mem_cons.mp hx with rfl | hx
      · exact hz
      · obtain ⟨l, hl, hxl⟩ := List.mem_flatten.mp hx
        exact h.mem l hl x hxl
    rw [List.length_cons, h.len] at this
    omega
  have key : ∀ {ls : List (List Str)}, ls.flatten.Nodup → z ∈ ls.flatten → ∃ l, (ls.filter fun l => decide (z ∈ l)) = [l] ∧ l ∈ ls ∧ z ∈ l := fun {ls} => by
    induction ls with
    | nil => exact fun _ h => by cases h
    | cons l ls ih =>
      intro nd hm
      rw [List.flatten_cons, List.nodup_append] at nd
      rw [List.flatten_cons, List.mem_append] at hm
      by_cases e : z ∈ l
      · refine ⟨l, ?_, List.mem_cons_self, e⟩
        rw [List.filter_cons_of_pos (by simpa using e)]
        congr 1
        refine List.filter_eq_nil_iff.mpr fun k hk c => ?_
        exact nd.2.2 z e z (List.mem_flatten.mpr ⟨k, hk, of_decide_eq_true c⟩) rfl
      · obtain ⟨k, h1, h2, h3⟩ := ih nd.2.1 (hm.resolve_left e)
        refine ⟨k, ?_, List.mem_cons_of_mem _ h2, h3⟩
        rw [List.filter_cons_of_neg (by simpa using e)]
        exact h1
  exact key h.nd mem
theorem listOf_one {R : RuleD} {z : Str} {l : List Str} (h : (R.lists.filter fun l => decide (z ∈ l)) = [l]) : R.listOf z = l := by
  unfold RuleD.listOf
  rw [h]
  simp
/-- the pairs within a list, by the list of the one who is read -/
theorem within_one {R : RuleD} (h : Parts R.zs R.lists) (nd : R.zs.Nodup) {p : Pr} (hp : p.1 ∈ R.zs) : (R.lists.any fun l => decide (p.1 ∈ l) && decide (p.2 ∈ l)) = decide (p.2 ∈ R.listOf p.1) := by
  obtain ⟨l, e, _, _⟩ := parts_one h nd hp
  rw [listOf_one e, ← List.any_filter, e]
  simp
theorem within_listOf {R : RuleD} (ok : R.Ok) : within R.reads R.lists = R.reads.filter fun p => decide (p.2 ∈ R.listOf p.1) :=
  List.filter_congr fun p hp => within_one ok.lists.parts ok.folk.nd (pairsOf_mem (ok.reads.subset hp)).1
def spCrowdG (C : Addr) : Sp := fun vs H Q _ => ∃ (g : Addr) (R : RuleD), vs = [.ref g] ∧ GameOf H g R ∧ WordsC R.zs ∧ 1 ≤ R.m ∧ R.m ≤ 10 ∧ ∀ H' c, Same H H' → H c = none → CrowdOf H' C c R.zs R.m → Q (.ref c) H'
def spRuleG (C CR : Addr) : Sp := fun vs H Q _ => ∃ (g : Addr) (R : RuleD), vs = [.ref g] ∧ GameOf H g R ∧ R.Ok ∧ WordsC R.zs ∧ 1 ≤ R.m ∧ R.m ≤ 10 ∧ ∀ H' x, Same H H' → H x = none → RuleOf H' CR C x R → Q (.ref x) H'
/-- names of parts -/
def wordKeys (kvs : List (Key × V)) : Prop := (∀ kv ∈ kvs, ∃ z, kv.1 = Sum.inr z) ∧ (kvs.map (·.1)).Nodup
def spOtherG : Sp := fun vs H Q _ => ∃ (g : Addr) (kvs : List (Key × V)) (z : Str) (v : V), vs = [.ref g, .str z, v] ∧ H g = some (.dK kvs) ∧ wordKeys kvs ∧ kvs.length ≤ 100 ∧ ∀ H' p, Same H H' → H p = none → H' p = some (.dK (putK kvs (.inr z) v)) → Q (.ref p) H'
def spListG : Sp := fun vs H Q _ => ∃ (g : Addr) (z : Str) (R : RuleD), vs = [.ref g, .str z] ∧ GameOf H g R ∧ R.Ok ∧ z ∈ R.zs ∧ ∀ H' u, Same H H' → H' u = some (.lst ((R.listOf z).map V.str)) → Q (.ref u) H'
def spInnerG : Sp := fun vs H Q _ => ∃ (g : Addr) (R : RuleD), vs = [.ref g] ∧ GameOf H g R ∧ R.Ok ∧ ∀ H' p ys, Same H H' → H p = none → H' p = some (.lst ys) → Tps H' ys (within R.reads R.lists) → Q (.ref p) H'
/-- new pairs of a word and a value -/
def NamedAt (G : Hp) (us : List Addr) (kvs : List (Key × V)) : Prop := Paired (fun u kv => G u = some (.tup [kV kv.1, kv.2])) us kvs
theorem NamedAt.sq {K : PySem.W.Frag} {G : Hp} {us : List Addr} {kvs : List (Key × V)} (h : NamedAt G us kvs) : Paired (fun p kv => SqT K G p [kV kv.1, kv.2]) us kvs := Paired.mono (fun _ _ e => SqT.of e) h
theorem merge_nil {kvs : List (Key × V)} (h : (kvs.map (·.1)).Nodup) : mergeK [] kvs = kvs := by
  rw [merge_new (κ := []) (by rw [List.nil_append]; exact h), List.nil_append]
theorem valV_at {κ : Type} [DecidableEq κ] : ∀ {kvs : List (κ × V)} {i : Nat} {k : κ} {v : V}, (kvs.map (·.1)).Nodup → kvs[i]? = some (k, v) → valV kvs k = some v
  | [], _, _, _, _, h => by simp at h
  | p :: r, 0, k, v, _, h => by
    have e : p = (k, v) := by simpa using h
    rw [valV_pos (by rw [e]), e]
  | p :: r, i + 1, k, v, nd, h => by
    rw [List.map_cons, List.nodup_cons] at nd
    have h2 : r[i]? = some (k, v) := by simpa using h
    rw [valV_neg (fun e => nd.1 (by rw [e]; exact List.mem_map.mpr ⟨(k, v), List.mem_of_getElem? h2, rfl⟩))]
    exact valV_at nd.2 h2
theorem take_snocG {α : Type} {xs : List α} {i : Nat} {x : α} (h : xs[i]? = some x) : xs.take (i + 1) = xs.take i ++ [x] := by
  rw [List.take_add_one, h]
  rfl
theorem own_within {R : RuleD} (ok : R.Ok) {p : Pr} (hp : p ∈ R.reads) : p ∈ within R.reads R.lists ↔ p.2 ∈ R.listOf p.1 := by
  rw [within_listOf ok, List.mem_filter, decide_eq_true_eq]
  exact ⟨fun h => h.2, fun h => ⟨hp, h⟩⟩
/-- safe, if nobody reads of the own list -/
theorem safe_within {R : RuleD} (ok : R.Ok) : decide (R.safe = R.zs) = decide ((within R.reads R.lists).length = 0) := by
  refine decide_eq_decide.mpr ?_
  unfold RuleD.safe
  rw [List.filter_eq_self, List.length_eq_zero_iff, within_listOf ok, List.filter_eq_nil_iff]
  constructor
  · intro h p hp c
    have c := of_decide_eq_true c
    have m := pairsOf_mem (ok.reads.subset hp)
    have e := of_decide_eq_true (h p.1 m.1)
    have := List.eq_nil_of_length_eq_zero e
    unfold RuleD.ownReads at this
    have n := List.filter_eq_nil_iff.mp this p hp
    rw [decide_eq_true rfl, decide_eq_true c] at n
    exact n rfl
  · intro h z _
    refine decide_eq_true (List.length_eq_zero_iff.mpr (List.filter_eq_nil_iff.mpr fun p hp c => ?_))
    rw [Bool.and_eq_true, decide_eq_true_eq, decide_eq_true_eq] at c
    refine h p hp (decide_eq_true ?_)
    rw [c.1]
    exact c.2
theorem filter_len {α : Type} (f : α → Bool) : ∀ l : List α, (l.filter f).length + (l.filter fun a => !f a).length = l.length
  | [] => rfl
  | a :: l => by
    have := filter_len f l
    cases e : f a with
    | true =>
      rw [List.filter_cons_of_pos e, List.filter_cons_of_neg (by rw [e]; decide), List.length_cons, List.length_cons]
      omega
    | false =>
      rw [List.filter_cons_of_neg (by rw [e]; decide), List.filter_cons_of_pos (by rw [e]; rfl), List.length_cons, List.length_cons]
      omega
theorem less_sub {R : RuleD} (ok : R.Ok) : R.lessInner.Sublist (pairsOf R.zs) := List.Sublist.trans List.filter_sublist ok.reads
theorem less_eq {R : RuleD} (ok : R.Ok) : R.lessInner = R.reads.filter fun p => !decide (p.2 ∈ R.listOf p.1) := by
  refine List.filter_congr fun p hp => ?_
  congr 1
  exact decide_eq_decide.mpr (own_within ok hp)
theorem less_len {R : RuleD} (ok : R.Ok) : (R.reads.length : Int) - (R.lessInner.length : Int) = ((within R.reads R.lists).length : Int) := by
  have := filter_len (fun p => decide (p.2 ∈ R.listOf p.1)) R.reads
  rw [less_eq ok, within_listOf ok]
  omega
theorem less_ok {R : RuleD} (ok : R.Ok) (h : shortB R.lessInner R.lists R.trim = false) : (R.withReads R.lessInner).Ok :=
  ⟨ok.folk, ok.turn, ok.gather, ok.trim, ok.prizes, less_sub ok, ok.lists, h⟩
theorem less_safe {R : RuleD} (ok : R.Ok) (h : shortB R.lessInner R.lists R.trim = false) : decide ((R.withReads R.lessInner).safe = (R.withReads R.lessInner).zs) = true := by
  rw [safe_within (less_ok ok h), within_listOf (less_ok ok h)]
  refine decide_eq_true (List.length_eq_zero_iff.mpr (List.filter_eq_nil_iff.mpr fun p hp c => ?_))
  have hp2 : p ∈ R.lessInner := hp
  rw [less_eq ok] at hp2
  have := (List.mem_filter.mp hp2).2
  have c2 : p.2 ∈ R.listOf p.1 := of_decide_eq_true c
  rw [decide_eq_true c2] at this
  cases this
theorem less_all {R : RuleD} : (R.lessInner.all fun p => decide (p ∈ R.reads)) = true :=
  List.all_eq_true.mpr fun p hp => decide_eq_true (List.mem_filter.mp hp).1
theorem alike_less {R : RuleD} : Alike (R.withReads R.lessInner) R := ⟨rfl, rfl, rfl, rfl, rfl, rfl, rfl⟩
theorem alike_refl {R : RuleD} : Alike R R := ⟨rfl, rfl, rfl, rfl, rfl, rfl, rfl⟩
/-- some word lacks readers, without the inner pairs -/
theorem less_short {R : RuleD} (ok : R.Ok) : shortB R.lessInner R.lists R.trim = (R.zs.any (R.withReads R.lessInner).lacks) := short_lacks (R := R.withReads R.lessInner) ok.lists.parts.mem
/-- what is not of the pool, once the pool is drawn anew -/
theorem same_del {H H1 H2 : Hp} {a : Addr} (na : H a = none) (s : Same H H1) (d : Same (del H1 a) (del H2 a)) : Same H H2 := fun b o e => by
  have n : b ≠ a := fun z => by
    rw [z, na] at e
    cases e
  exact del_le _ _ (d _ _ (del_at n (s _ _ e)))
theorem gameK_words {w l r : Addr} {R : RuleD} : wordKeys (gameK w l r R) := by
  refine ⟨fun kv h => ?_, ?_⟩
  · unfold gameK at h
    simp only [List.mem_cons, List.not_mem_nil, or_false] at h
    rcases h with h | h | h | h | h | h | h | h <;> exact ⟨_, by rw [h]⟩
  · show ([Sum.inr "words", Sum.inr "most", Sum.inr "turn", Sum.inr "trim", Sum.inr "gather", Sum.inr "prizes", Sum.inr "lists", Sum.inr "reads"] : List Key).Nodup
    decide +kernel
theorem gameK_put {w l r r2 : Addr} {R : RuleD} {rs : List Pr} : putK (gameK w l r R) (.inr "reads") (.ref r2) = gameK w l r2 (R.withReads rs) := rfl
theorem any_len {α : Type} (f : α → Bool) (l : List α) : l.any f = !decide ((l.filter f).length = 0) := by
  rw [Bool.eq_iff_iff, List.any_eq_true, Bool.not_eq_true', decide_eq_false_iff_not, List.length_eq_zero_iff, List.filter_eq_nil_iff]
  constructor
  · rintro ⟨a, ha, h⟩ n
    exact n a ha h
  · intro n
    exact Classical.byContradiction fun c => n fun a ha h => c ⟨a, ha, h⟩
theorem trim_bounds {R : RuleD} (ok : R.Ok) : 0 ≤ R.trim ∧ R.trim ≤ 3 := by
  have h := ok.trim
  unfold trimB at h
  split at h
  · have h : (decide (1 ≤ R.trim) && decide (R.trim ≤ 3)) = true := h
    rw [Bool.and_eq_true, decide_eq_true_eq, decide_eq_true_eq] at h
    omega
  · have h := V.int.inj (of_decide_eq_true h)
    omega
theorem lists_short {R : RuleD} (ok : R.Ok) : R.lists.length ≤ 100 ∧ (∀ l ∈ R.lists, l.length ≤ 100) ∧ (∀ l ∈ R.lists, ∀ p ∈ l, PyData.strOk p = true) := by
  obtain ⟨f1, f2, f3, f4⟩ := ok.few
  refine ⟨by omega, fun l hl => ?_, fun l hl p hp => ok.folk.ok p (ok.lists.parts.mem l hl p hp)⟩
  have := (ok.lists.sub l hl).length_le
  omega
end L2

set_option Elab.async false
set_option linter.all false
set_option maxRecDepth 100000
set_option maxHeartbeats 4000000
/-! sum(..) of a list or a tuple of ints. -/
namespace L2
open PySem PySem.Spec PyProof.Rows
def rSumA (K : PySem.W.Frag) : List V → Hp → VK → Prop := fun vs H Q => ∃ (a : Addr) (ns : List Int), vs = [V.ref a] ∧ SqA K H a (ns.map V.int) ∧ Q (.int ns.sum) H
theorem cr_sumA {X : Cx} (hc : X.calm = true) : CallR X (.builtin "sum") (rSumA X.K) := by
  intro pins s σ H vs us Q I r h
  obtain ⟨a, ns, rfl, hs, q⟩ := h
  rcases hs with hs | hs
  · exact cr_sum hc pins s σ H _ us Q I r ⟨a, ns, rfl, hs, q⟩
  · obtain ⟨its, rv, hl, _⟩ := I.tuple hs
    rw [Vals.ref1 r]
    have hi := rv.ints
    obtain ⟨xs, e⟩ := hi.allInts.items
    have hn : numsOf (intItems xs).toList = ns := by rw [← e]; exact hi.numsOf
    rw [nums_intItems] at hn
    have ht : s.heap.IsTuple a its.toArray := hl
    rw [e] at ht
    refine PySem.W.ktm_sumG (I.ok.hd hc) ht fun h' tk t' hk => ?_
    rw [preSum_eq, List.take_of_length_le (by simp), hn]
    exact ⟨.int _, H, I.kept hk, ⟨_, rfl⟩, q⟩
end L2

set_option Elab.async false
set_option linter.all false
set_option maxRecDepth 100000
set_option maxHeartbeats 4000000
/-! What cost and least_lists refuse. -/
namespace L2
open PySem PySem.Spec PyProof.Rows
/-- what is given for sizes: its items, where it is a list or a tuple -/
inductive SizesArg (K : PySem.W.Frag) (H : Hp) : V → Option (List V) → Prop where
  | no {v : V} {T : String} (t : TyN K H v T) (h1 : T ≠ "list") (h2 : T ≠ "tuple") : SizesArg K H v none
  | seq {a : Addr} {xs : List V} (e : HSeq H a xs) (hl : xs.length ≤ 100) (h : ∀ x ∈ xs, ∃ T, TyN K H x T) : SizesArg K H (.ref a) (some xs)
theorem SizesArg.same {K : PySem.W.Frag} {H H2 : Hp} {v : V} {o : Option (List V)} (s : Same H H2) (h : SizesArg K H v o) : SizesArg K H2 v o := by
  cases h with
  | no t h1 h2 => exact .no (t.same s) h1 h2
  | seq e hl h => exact .seq (e.same s) hl fun x hx => (h x hx).elim fun T t => ⟨T, t.same s⟩
def posInt : V → Bool
  | .int i => decide (1 ≤ i)
  | _ => false
def intOf : V → Int
  | .int i => i
  | _ => 0
def sizesB (n : Nat) : Option (List V) → Bool
  | none => false
  | some xs => xs.all posInt && decide ((xs.map intOf).sum = (n : Int))
def spAreSizes (K : PySem.W.Frag) (C : Addr) : Sp := fun vs H Q _ => ∃ (c : Addr) (v : V) (zs : List Str) (m : Int) (o : Option (List V)), vs = [.ref c, v] ∧ CrowdOf H C c zs m ∧ zs.length ≤ 8 ∧ SizesArg K H v o ∧ ∀ H2, Same H H2 → Q (.bl (sizesB zs.length o)) H2
def spCostO (K : PySem.W.Frag) (C CR CB : Addr) : Sp := fun vs H Q E => ∃ (x : Addr) (v : V) (R : RuleD) (o : Option (List (Option (List V)))), vs = [.ref x, v] ∧ RuleOf H CR C x R ∧ R.Ok ∧ R.turn = "plain" ∧ v ≠ .non ∧ ListsArg K H v o ∧
  (argB R.zs o = false → ∀ H' d, Raised H H' d "part" (.str "lists") → E (.ref CB) (some d) H') ∧
  (argB R.zs o = true → ∃ a ls, v = .ref a ∧ LL H a ls ∧ ls.length ≤ 10 ∧ ∀ H2, Same H H2 → Q (.int (within R.reads ls).length) H2)
def spLeastBad (K : PySem.W.Frag) (C CR CA : Addr) : Sp := fun vs H _ E => ∃ (x : Addr) (v : V) (R : RuleD) (o : Option (List V)), vs = [.ref x, v] ∧ RuleOf H CR C x R ∧ R.Ok ∧ R.turn = "plain" ∧ SizesArg K H v o ∧ sizesB R.zs.length o = false ∧
  ∀ H' d, Raised H H' d "value" v → E (.ref CA) (some d) H'
/-- repr(x), data without dicts or one dict of whole numbers -/
def rReprDd (K : PySem.W.Frag) : List V → Hp → VK → Prop := fun xs H Q => ∃ (x : V) (d : PyData), xs = [x] ∧ Dd K H x d ∧ d.showable = true ∧ d.depth ≤ 100 ∧ d.shown.length ≤ sizeLine ∧ Q (.str d.shown) H
theorem call_reprDd {X : Cx} (hg : X.A.guards = some []) (hu : X.A.units + 200 < cLine) : CallR X (.builtin "repr") (rReprDd X.K) := by
  intro pins s σ H xs us Q I r h
  obtain ⟨x, d, rfl, D, sh, dep, hz, q⟩ := h
  rcases id D with ⟨D1, nd⟩ | ⟨b, kvs, rfl, e, rfl⟩
  · exact call_reprD hg hu pins s σ H _ us Q I r ⟨x, d, rfl, D1, nd, sh, dep, hz, q⟩
  · obtain ⟨u, rfl, ru⟩ := vals1 r
    obtain ⟨as, ra, ns⟩ := D.reads I ru
    cases ru
    exact repr_of_reads' ra sh ns hg (by omega) (fun _ _ z => z) (fun h2 t tk k => ⟨.str _, H, I.kept (t' := tk) k, ⟨_, rfl⟩, q⟩) hz
def spRefusedC (K : PySem.W.Frag) (C CR : Addr) : Sp := fun vs H Q _ => ∃ (x : Addr) (v : V) (R : RuleD) (o : Option (List (Option (List V)))), vs = [.ref x, v] ∧ RuleOf H CR C x R ∧ R.Ok ∧ R.turn = "plain" ∧ v ≠ .non ∧ ListsArg K H v o ∧ argB R.zs o = false ∧ ∀ H2, Same H H2 → Q (.bl true) H2
def spNoSizes (K : PySem.W.Frag) (C CR : Addr) : Sp := fun vs H Q _ => ∃ (x : Addr) (v : V) (R : RuleD) (o : Option (List V)) (d : PyData), vs = [.ref x, v] ∧ RuleOf H CR C x R ∧ R.Ok ∧ R.turn = "plain" ∧ SizesArg K H v o ∧ sizesB R.zs.length o = false ∧ (∀ H2, Same H H2 → Dd K H2 v d) ∧ d.showable = true ∧ d.depth ≤ 100 ∧ d.shown.length ≤ sizeLine ∧ ∀ H2, Same H H2 → Q (.bl true) H2
/-- a rule's people, reads and lists, whoever lacks readers -/
structure RuleD.Fit (R : RuleD) : Prop where
  folk : Folk R.zs
  reads : R.reads.Sublist (pairsOf R.zs)
  lists : Straight R.zs R.lists
theorem RuleD.Ok.fit {R : RuleD} (o : R.Ok) : R.Fit := ⟨o.folk, o.reads, o.lists⟩
theorem RuleD.Fit.few {R : RuleD} (o : R.Fit) : R.zs.length ≤ 8 ∧ R.lists.length ≤ 8 ∧ R.lists.flatten.length ≤ 8 ∧ R.reads.length ≤ 64 := by
  have h := o.folk.most
  refine ⟨h, ?_, by rw [o.lists.parts.len]; exact h, ?_⟩
  · have key : ∀ l : List (List Str), (∀ x ∈ l, x ≠ []) → l.length ≤ l.flatten.length := fun l => by
      induction l with
      | nil => intro _; exact Nat.le_refl _
      | cons x l ih =>
        intro h
        rw [List.flatten_cons, List.length_append, List.length_cons]
        have h1 := ih fun y hy => h y (List.mem_cons_of_mem _ hy)
        have h2 : 0 < x.length := List.length_pos_iff.mpr (h x List.mem_cons_self)
        omega
    have := key R.lists o.lists.parts.ne
    rw [o.lists.parts.len] at this
    omega
  · have h1 := o.reads.length_le
    have h2 : (pairsOf R.zs).length ≤ 64 := pairs_len h h
    omega
theorem within_listOfF {R : RuleD} (ok : R.Fit) : within R.reads R.lists = R.reads.filter fun p => decide (p.2 ∈ R.listOf p.1) :=
  List.filter_congr fun p hp => within_one ok.lists.parts ok.folk.nd (pairsOf_mem (ok.reads.subset hp)).1
def spListF : Sp := fun vs H Q _ => ∃ (g : Addr) (z : Str) (R : RuleD), vs = [.ref g, .str z] ∧ GameOf H g R ∧ R.Fit ∧ z ∈ R.zs ∧ ∀ H' u, Same H H' → H' u = some (.lst ((R.listOf z).map V.str)) → Q (.ref u) H'
def spInnerF : Sp := fun vs H Q _ => ∃ (g : Addr) (R : RuleD), vs = [.ref g] ∧ GameOf H g R ∧ R.Fit ∧ ∀ H' p ys, Same H H' → H p = none → H' p = some (.lst ys) → Tps H' ys (within R.reads R.lists) → Q (.ref p) H'
/-- what is not the pool -/
theorem PoolC.away {H : Hp} {a b : Addr} {o : HO} (P : PoolC H a) (h : H b = Option.some o) (n : ∀ (c : Addr) (i : Int), o ≠ .lst [.ref c, .int i]) : del H a b = Option.some o := L2.del_at (fun e => by
  obtain ⟨m, ns, i, h1, _⟩ := P
  rw [e, h1] at h
  exact n m i (Option.some.inj h).symm) h
theorem strs_away (zs : List Str) (c : Addr) (i : Int) : HO.lst (zs.map V.str) ≠ .lst [.ref c, .int i] := fun e => by
  have e := HO.lst.inj e
  cases zs with
  | nil => cases e
  | cons z zs => cases (List.cons.inj e).1
theorem refs_away (us : List Addr) (c : Addr) (i : Int) : HO.lst (us.map V.ref) ≠ .lst [.ref c, .int i] := fun e => by
  have e := HO.lst.inj e
  match us, e with
  | [], e => cases e
  | [_], e => cases e
  | _ :: _ :: _, e => cases (List.cons.inj (List.cons.inj e).2).1
theorem pairs_away {H : Hp} {ys : List V} {rs : List Pr} (t : Tps H ys rs) (c : Addr) (i : Int) : HO.lst ys ≠ .lst [.ref c, .int i] := fun e => by
  have e := HO.lst.inj e
  subst e
  obtain ⟨r, hr⟩ : ∃ r, rs[1]? = some r := ⟨_, List.getElem?_eq_getElem (by rw [← t.1]; show 1 < 2; decide)⟩
  obtain ⟨q, hq, _⟩ := t.2 1 (.int i) r rfl hr
  cases hq
theorem RuleOf.away {H : Hp} {CR C x a : Addr} {R : RuleD} (P : PoolC H a) (h : RuleOf H CR C x R) : RuleOf (del H a) CR C x R := by
  obtain ⟨c, r, l, d, ys, us, at'⟩ := h
  obtain ⟨⟨dx, h1⟩, ⟨dc, p, h2, h3⟩, h4, h5, h6, h7, us2, h8, h9⟩ := at'
  refine ⟨c, r, l, d, ys, us, ⟨dx, P.away h1 (fun _ _ e => nomatch e)⟩, ⟨dc, p, P.away h2 (fun _ _ e => nomatch e), P.away h3 (strs_away _)⟩, P.away h4 (pairs_away h5), ⟨h5.1, fun j y q e1 e2 => ?_⟩, P.away h6 (refs_away _), Paired.mono (fun u l e => P.away e (strs_away _)) h7, us2, P.away h8 (fun _ _ e => nomatch e), Paired.mono (fun u z e => P.away e (strs_away _)) h9⟩
  obtain ⟨t, e, h⟩ := h5.2 j y q e1 e2
  exact ⟨t, e, P.away h (fun _ _ e => nomatch e)⟩
def RuleD.withLists (R : RuleD) (ls : List (List Str)) : RuleD := { R with lists := ls }
theorem gameK_putL {w l r l2 : Addr} {R : RuleD} {ls : List (List Str)} : putK (gameK w l r R) (.inr "lists") (.ref l2) = gameK w l2 r (R.withLists ls) := rfl
def turnedC (ls : List (List Str)) : List (List Str) := ls.reverse.map List.reverse
theorem turned_within {rs : List Pr} {ls : List (List Str)} : within rs (turnedC ls) = within rs ls := by
  refine List.filter_congr fun p _ => ?_
  unfold turnedC
  rw [List.any_map, List.any_reverse]
  congr 1
  funext l
  show (decide (p.1 ∈ l.reverse) && decide (p.2 ∈ l.reverse)) = _
  rw [decide_eq_decide.mpr List.mem_reverse, decide_eq_decide.mpr List.mem_reverse]
theorem turned_flat (ls : List (List Str)) : (turnedC ls).flatten = ls.flatten.reverse := by
  unfold turnedC
  induction ls with
  | nil => rfl
  | cons l ls ih => rw [List.reverse_cons, List.map_append, List.flatten_append, ih, List.flatten_cons, List.reverse_append]; simp
theorem turned_parts {zs : List Str} {ls : List (List Str)} (h : Parts zs ls) : Parts zs (turnedC ls) where
  ne := fun l hl => by
    obtain ⟨k, hk, rfl⟩ := List.mem_map.mp hl
    exact fun e => h.ne k (List.mem_reverse.mp hk) (List.reverse_eq_nil_iff.mp e)
  mem := fun l hl p hp => by
    obtain ⟨k, hk, rfl⟩ := List.mem_map.mp hl
    exact h.mem k (List.mem_reverse.mp hk) p (List.mem_reverse.mp hp)
  nd := by
    rw [turned_flat]
    exact (List.reverse_perm _).nodup_iff.mpr h.nd
  len := by
    rw [turned_flat, List.length_reverse]
    exact h.len
theorem del_some {H : Hp} {a b : Addr} {o : HO} (h : del H a b = some o) : b ≠ a := fun e => by
  rw [e, del_same] at h
  cases h
theorem paired_appC {α β : Type} {F : α → β → Prop} : ∀ {as cs : List α} {bs ds : List β}, Paired F as bs → Paired F cs ds → Paired F (as ++ cs) (bs ++ ds)
  | _, _, _, _, .nil, h => h
  | _, _, _, _, .cons r t, h => .cons r (paired_appC t h)
theorem paired_revC {α β : Type} {F : α → β → Prop} : ∀ {as : List α} {bs : List β}, Paired F as bs → Paired F as.reverse bs.reverse
  | _, _, .nil => .nil
  | _, _, .cons r t => by
    rw [List.reverse_cons, List.reverse_cons]
    exact paired_appC (paired_revC t) (.cons r .nil)
theorem paired_mapRC {α β γ : Type} {F : α → β → Prop} {F' : α → γ → Prop} {f : β → γ} (m : ∀ a b, F a b → F' a (f b)) : ∀ {as : List α} {bs : List β}, Paired F as bs → Paired F' as (bs.map f)
  | _, _, .nil => .nil
  | _, _, .cons r t => .cons (m _ _ r) (paired_mapRC m t)
end L2

set_option Elab.async false
set_option linter.all false
set_option maxRecDepth 100000
set_option maxHeartbeats 4000000
/-! Odd values for lists and sizes. -/
namespace L2
open PySem PySem.Spec PyProof.Rows
def OddL (K : PySem.W.Frag) (zs : List Str) (H : Hp) (v : V) : Prop := v ≠ .non ∧ ∃ o, ListsArg K H v o ∧ argB zs o = false
section
variable {K : PySem.W.Frag} {zs : List Str} {H : Hp} {a b e w : Addr}
theorem OddL.same {H2 : Hp} {v : V} (s : Same H H2) (h : OddL K zs H v) : OddL K zs H2 v := ⟨h.1, h.2.elim fun o z => ⟨o, z.1.same s, z.2⟩⟩
theorem ty_strs (H : Hp) (ks : List Str) : ∀ x ∈ ks.map V.str, ∃ T, TyN K H x T := fun x hx => by
  obtain ⟨z, _, rfl⟩ := List.mem_map.mp hx
  exact ⟨"str", .base (.str _), by decide⟩
theorem odd_str (z : Str) : OddL K zs H (.str z) := ⟨(fun e => nomatch e), none, .no (T := "str") ⟨.base (.str _), by decide⟩ (by decide) (by decide), rfl⟩
theorem odd_dict {kvs : List (Key × V)} (h : H a = some (.dK kvs)) : OddL K zs H (.ref a) := ⟨(fun e => nomatch e), none, .no (T := "dict") ⟨.base (.dK h), by decide⟩ (by decide) (by decide), rfl⟩
theorem odd_seq {xs : List V} {os : List (Option (List V))} (h : H a = some (.lst xs)) (hl : xs.length ≤ 10) (p : Paired (MemArg K H) xs os) (hb : listsB zs os = false) : OddL K zs H (.ref a) := ⟨(fun e => nomatch e), some os, .seq (.inl h) hl p, hb⟩
theorem memA_strs {ks : List Str} (h : H b = some (.lst (ks.map V.str))) (hl : ks.length ≤ 100) : MemArg K H (.ref b) (some (ks.map V.str)) := .seq (.inl h) (ty_strs H ks) (by rw [List.length_map]; exact hl)
theorem memA_nil (h : H b = some (.lst [])) : MemArg K H (.ref b) (some []) := .seq (.inl h) (fun x hx => by cases hx) (by decide)
theorem memA_non : MemArg K H .non none := .no (T := "NoneType") ⟨.base .non, by decide⟩ (by decide) (by decide)
theorem memA_str (z : Str) : MemArg K H (.str z) none := .no (T := "str") ⟨.base (.str _), by decide⟩ (by decide) (by decide)
theorem lists_len {os : List (Option (List V))} (h : (flatO os).length ≠ zs.length) : listsB zs os = false := by
  unfold listsB
  rw [decide_eq_false h, Bool.false_and, Bool.and_false]
theorem lists_mem {os : List (Option (List V))} (h : os.all memOk = false) : listsB zs os = false := by
  unfold listsB
  rw [h, Bool.false_and]
theorem odd_nil (h : H a = some (.lst [])) (one : 1 ≤ zs.length) : OddL K zs H (.ref a) := odd_seq h (by decide) .nil (lists_len (by show 0 ≠ zs.length; omega))
theorem odd_ee (h : H a = some (.lst [.ref e])) (he : H e = some (.lst [])) : OddL K zs H (.ref a) := odd_seq h (by show 1 ≤ 10; decide) (.cons (memA_nil he) .nil) (lists_mem rfl)
theorem odd_len {ks : List Str} (h : H a = some (.lst [.ref b])) (hb : H b = some (.lst (ks.map V.str))) (hl : ks.length ≤ 100) (n : ks.length ≠ zs.length) : OddL K zs H (.ref a) :=
  odd_seq h (by show 1 ≤ 10; decide) (.cons (memA_strs hb hl) .nil) (lists_len (by show (ks.map V.str ++ []).length ≠ zs.length; rw [List.append_nil, List.length_map]; exact n))
theorem odd_ww (h : H a = some (.lst [.ref w, .ref w])) (hw : H w = some (.lst (zs.map V.str))) (one : 1 ≤ zs.length) (z8 : zs.length ≤ 8) : OddL K zs H (.ref a) :=
  odd_seq h (by show 2 ≤ 10; decide) (.cons (memA_strs hw (by omega)) (.cons (memA_strs hw (by omega)) .nil)) (lists_len (by
    show (zs.map V.str ++ (zs.map V.str ++ [])).length ≠ zs.length
    rw [List.append_nil, List.length_append, List.length_map]
    omega))
theorem odd_we (h : H a = some (.lst [.ref w, .ref e])) (hw : H w = some (.lst (zs.map V.str))) (he : H e = some (.lst [])) (z8 : zs.length ≤ 8) : OddL K zs H (.ref a) :=
  odd_seq h (by show 2 ≤ 10; decide) (.cons (memA_strs hw (by omega)) (.cons (memA_nil he) .nil)) (lists_mem (by
    show (memOk (some (zs.map V.str)) && (memOk (some []) && true)) = false
    cases memOk (some (zs.map V.str)) <;> rfl))
theorem odd_n (h : H a = some (.lst [.non])) : OddL K zs H (.ref a) := odd_seq h (by show 1 ≤ 10; decide) (.cons memA_non .nil) (lists_mem rfl)
theorem odd_nn (h : H a = some (.lst [.ref b])) (hb : H b = some (.lst [.non])) : OddL K zs H (.ref a) :=
  odd_seq h (by show 1 ≤ 10; decide) (.cons (.seq (.inl hb) (fun x hx => by rw [List.mem_singleton.mp hx]; exact ⟨"NoneType", .base .non, by decide⟩) (by show 1 ≤ 100; decide)) .nil) (by
    show (_ && (_ && ((hasB .non zs && true) && _))) = false
    show (_ && (_ && ((false && true) && _))) = false
    rw [Bool.false_and, Bool.false_and, Bool.and_false, Bool.and_false])
theorem odd_w (h : H w = some (.lst (zs.map V.str))) (one : 1 ≤ zs.length) (z8 : zs.length ≤ 8) : OddL K zs H (.ref w) := by
  refine odd_seq (os := zs.map fun _ => none) h (by rw [List.length_map]; omega) ?_ ?_
  · have : ∀ ks : List Str, Paired (MemArg K H) (ks.map V.str) (ks.map fun _ => (none : Option (List V))) := fun ks => by
      induction ks with
      | nil => exact .nil
      | cons k ks ih => exact .cons (memA_str k) ih
    exact this zs
  · cases zs with
    | nil => simp at one
    | cons z zs => exact lists_mem rfl
end
/-- data that repr tells -/
def okD (d : PyData) : Bool := d.showable && (decide (d.depth ≤ 100) && decide (d.shown.length ≤ sizeLine))
def OddS (K : PySem.W.Frag) (n : Nat) (H : Hp) (v : V) : Prop := ∃ (o : Option (List V)) (d : PyData), SizesArg K H v o ∧ sizesB n o = false ∧ (∀ H2, Same H H2 → Dd K H2 v d) ∧ okD d = true
section
variable {K : PySem.W.Frag} {n : Nat} {H : Hp} {a : Addr}
theorem OddS.same {H2 : Hp} {v : V} (s : Same H H2) (h : OddS K n H v) : OddS K n H2 v := by
  obtain ⟨o, d, h1, h2, h3, h4⟩ := h
  exact ⟨o, d, h1.same s, h2, fun G t => h3 G (s.trans t), h4⟩
theorem six {P : Nat → Prop} (h1 : P 1) (h2 : P 2) (h3 : P 3) (h4 : P 4) (h5 : P 5) (h6 : P 6) (a : 1 ≤ n) (b : n ≤ 6) : P n := by
  have : n = 1 ∨ n = 2 ∨ n = 3 ∨ n = 4 ∨ n = 5 ∨ n = 6 := by omega
  rcases this with rfl | rfl | rfl | rfl | rfl | rfl <;> assumption
theorem sz_non : OddS K n H .non := ⟨none, .none, .no (T := "NoneType") ⟨.base .non, by decide⟩ (by decide) (by decide), rfl, fun _ _ => .inl ⟨.non, rfl⟩, by decide +kernel⟩
theorem sz_int (h1 : 1 ≤ n) (h6 : n ≤ 6) : OddS K n H (.int (n : Int)) := ⟨none, .int n, .no (T := "int") ⟨.base (.int _), by decide⟩ (by decide) (by decide), rfl, fun _ _ => .inl ⟨.int _, rfl⟩, six (P := fun n => okD (.int (n : Int)) = true) (by decide +kernel) (by decide +kernel) (by decide +kernel) (by decide +kernel) (by decide +kernel) (by decide +kernel) h1 h6⟩
theorem dp_flatD {ds : List PyData} {xs : List V} (h : ∀ H2, DpAll K H2 xs ds) (e : ∀ H2, Same H H2 → H2 a = some (.lst xs)) (nd : (PyData.list ds).hasDict = false) : ∀ H2, Same H H2 → Dd K H2 (.ref a) (.list ds) := fun H2 s => .inl ⟨.lst (SqL.of (e H2 s)) (h H2), nd⟩
theorem sz_seq {xs : List V} {ds : List PyData} (h : H a = some (.lst xs)) (hl : xs.length ≤ 100) (ht : ∀ x ∈ xs, ∃ T, TyN K H x T) (hb : sizesB n (some xs) = false) (hd : ∀ H2, DpAll K H2 xs ds) (ok : ((PyData.list ds).hasDict || !okD (.list ds)) = false) : OddS K n H (.ref a) := by
  rw [Bool.or_eq_false_iff] at ok
  exact ⟨some xs, .list ds, .seq (.inl h) hl ht, hb, dp_flatD hd (fun H2 s => s _ _ h) ok.1, by have := ok.2; simpa using this⟩
theorem ty_ints (H : Hp) (is : List Int) : ∀ x ∈ is.map V.int, ∃ T, TyN K H x T := fun x hx => by
  obtain ⟨z, _, rfl⟩ := List.mem_map.mp hx
  exact ⟨"int", .base (.int _), by decide⟩
theorem dp_intsC (H : Hp) : ∀ is : List Int, DpAll K H (is.map V.int) (is.map PyData.int)
  | [] => .nil
  | i :: is => .cons (.int i) (dp_intsC H is)
/-- a list of ints that are no sizes -/
theorem sz_ints {is : Nat → List Int} (h : H a = some (.lst ((is n).map V.int))) (h1 : 1 ≤ n) (h6 : n ≤ 6)
    (ok : ∀ m, 1 ≤ m → m ≤ 6 → (decide ((is m).length ≤ 100) && (!sizesB m (some ((is m).map V.int)) && !((PyData.list ((is m).map PyData.int)).hasDict || !okD (.list ((is m).map PyData.int))))) = true) : OddS K n H (.ref a) := by
  have := ok n h1 h6
  rw [Bool.and_eq_true, Bool.and_eq_true, decide_eq_true_eq, Bool.not_eq_true', Bool.not_eq_true'] at this
  exact sz_seq h (by rw [List.length_map]; exact this.1) (ty_ints H _) this.2.1 (fun H2 => dp_intsC H2 _) this.2.2
theorem sz_tup (h : H a = some (.tup [.int (n : Int), .int 1])) (h1 : 1 ≤ n) (h6 : n ≤ 6) : OddS K n H (.ref a) := by
  refine ⟨some [.int (n : Int), .int 1], .tuple [.int n, .int 1], .seq (.inr h) (by show 2 ≤ 100; decide) (ty_ints H [n, 1]), ?_, fun H2 s => .inl ⟨.tup (SqT.of (s _ _ h)) (.cons (.int _) (.cons (.int _) .nil)), rfl⟩, ?_⟩
  · exact six (P := fun n => sizesB n (some [.int (n : Int), .int 1]) = false) (by decide +kernel) (by decide +kernel) (by decide +kernel) (by decide +kernel) (by decide +kernel) (by decide +kernel) h1 h6
  · exact six (P := fun n => okD (.tuple [.int n, .int 1]) = true) (by decide +kernel) (by decide +kernel) (by decide +kernel) (by decide +kernel) (by decide +kernel) (by decide +kernel) h1 h6
theorem dp_trues (H : Hp) : ∀ m : Nat, DpAll K H (List.replicate m (V.bl true)) (List.replicate m (PyData.bool true))
  | 0 => .nil
  | m + 1 => by
    rw [List.replicate_succ, List.replicate_succ]
    exact .cons (.bl true) (dp_trues H m)
theorem sz_true (h : H a = some (.lst (List.replicate n (.bl true)))) (h1 : 1 ≤ n) (h6 : n ≤ 6) : OddS K n H (.ref a) := by
  refine sz_seq h (by rw [List.length_replicate]; omega) (fun x hx => by rw [(List.mem_replicate.mp hx).2]; exact ⟨"bool", .base (.bl _), by decide⟩) ?_ (fun H2 => dp_trues H2 n) ?_
  · exact six (P := fun n => sizesB n (some (List.replicate n (.bl true))) = false) (by decide +kernel) (by decide +kernel) (by decide +kernel) (by decide +kernel) (by decide +kernel) (by decide +kernel) h1 h6
  · exact six (P := fun n => ((PyData.list (List.replicate n (.bool true))).hasDict || !okD (.list (List.replicate n (.bool true)))) = false) (by decide +kernel) (by decide +kernel) (by decide +kernel) (by decide +kernel) (by decide +kernel) (by decide +kernel) h1 h6
theorem sz_one (h : H a = some (.lst [.str "1"])) : OddS K n H (.ref a) :=
  sz_seq h (by show 1 ≤ 100; decide) (fun x hx => by rw [List.mem_singleton.mp hx]; exact ⟨"str", .base (.str _), by decide⟩) rfl (fun H2 => .cons (.str _) .nil) (by decide +kernel)
theorem sz_dict (h : H a = some (.dK [(.inl (n : Int), .int 1)])) (h1 : 1 ≤ n) (h6 : n ≤ 6) : OddS K n H (.ref a) := by
  refine ⟨none, .dict (([((.inl (n : Int) : Key), (1 : Int))].map fun p => keyD p.1).zip ([((.inl (n : Int) : Key), (1 : Int))].map fun p => PyData.int p.2)), .no (T := "dict") ⟨.base (.dK h), by decide⟩ (by decide) (by decide), rfl, fun H2 s => .inr ⟨a, [(.inl (n : Int), 1)], rfl, s _ _ h, rfl⟩, ?_⟩
  exact six (P := fun n : Nat => okD (.dict (([((.inl (n : Int) : Key), (1 : Int))].map fun p => keyD p.1).zip ([((.inl (n : Int) : Key), (1 : Int))].map fun p => PyData.int p.2))) = true) (by decide +kernel) (by decide +kernel) (by decide +kernel) (by decide +kernel) (by decide +kernel) (by decide +kernel) h1 h6
theorem sz_plus (h : H a = some (.lst (([(n : Int) + 1] : List Int).map V.int))) (h1 : 1 ≤ n) (h6 : n ≤ 6) : OddS K n H (.ref a) :=
  sz_ints (is := fun n => [(n : Int) + 1]) h h1 h6 fun m a b => six (P := fun m => (decide (([(m : Int) + 1] : List Int).length ≤ 100) && (!sizesB m (some (([(m : Int) + 1] : List Int).map V.int)) && !((PyData.list (([(m : Int) + 1] : List Int).map PyData.int)).hasDict || !okD (.list (([(m : Int) + 1] : List Int).map PyData.int))))) = true) (by decide +kernel) (by decide +kernel) (by decide +kernel) (by decide +kernel) (by decide +kernel) (by decide +kernel)  a b
theorem sz_front (h : H a = some (.lst (([0, (n : Int)] : List Int).map V.int))) (h1 : 1 ≤ n) (h6 : n ≤ 6) : OddS K n H (.ref a) :=
  sz_ints (is := fun n => [0, (n : Int)]) h h1 h6 fun m a b => six (P := fun m => (decide (([0, (m : Int)] : List Int).length ≤ 100) && (!sizesB m (some (([0, (m : Int)] : List Int).map V.int)) && !((PyData.list (([0, (m : Int)] : List Int).map PyData.int)).hasDict || !okD (.list (([0, (m : Int)] : List Int).map PyData.int))))) = true) (by decide +kernel) (by decide +kernel) (by decide +kernel) (by decide +kernel) (by decide +kernel) (by decide +kernel)  a b
theorem sz_minus (h : H a = some (.lst (([(n : Int) - 1] : List Int).map V.int))) (h1 : 1 ≤ n) (h6 : n ≤ 6) : OddS K n H (.ref a) :=
  sz_ints (is := fun n => [(n : Int) - 1]) h h1 h6 fun m a b => six (P := fun m => (decide (([(m : Int) - 1] : List Int).length ≤ 100) && (!sizesB m (some (([(m : Int) - 1] : List Int).map V.int)) && !((PyData.list (([(m : Int) - 1] : List Int).map PyData.int)).hasDict || !okD (.list (([(m : Int) - 1] : List Int).map PyData.int))))) = true) (by decide +kernel) (by decide +kernel) (by decide +kernel) (by decide +kernel) (by decide +kernel) (by decide +kernel)  a b
theorem sz_back (h : H a = some (.lst (([(n : Int), 0] : List Int).map V.int))) (h1 : 1 ≤ n) (h6 : n ≤ 6) : OddS K n H (.ref a) :=
  sz_ints (is := fun n => [(n : Int), 0]) h h1 h6 fun m a b => six (P := fun m => (decide (([(m : Int), 0] : List Int).length ≤ 100) && (!sizesB m (some (([(m : Int), 0] : List Int).map V.int)) && !((PyData.list (([(m : Int), 0] : List Int).map PyData.int)).hasDict || !okD (.list (([(m : Int), 0] : List Int).map PyData.int))))) = true) (by decide +kernel) (by decide +kernel) (by decide +kernel) (by decide +kernel) (by decide +kernel) (by decide +kernel)  a b
theorem sz_nil (h : H a = some (.lst (([] : List Int).map V.int))) (h1 : 1 ≤ n) (h6 : n ≤ 6) : OddS K n H (.ref a) :=
  sz_ints (is := fun n => []) h h1 h6 fun m a b => six (P := fun m => (decide (([] : List Int).length ≤ 100) && (!sizesB m (some (([] : List Int).map V.int)) && !((PyData.list (([] : List Int).map PyData.int)).hasDict || !okD (.list (([] : List Int).map PyData.int))))) = true) (by decide +kernel) (by decide +kernel) (by decide +kernel) (by decide +kernel) (by decide +kernel) (by decide +kernel)  a b
theorem okD_parts {d : PyData} (h : okD d = true) : d.showable = true ∧ d.depth ≤ 100 ∧ d.shown.length ≤ sizeLine := by
  unfold okD at h
  rw [Bool.and_eq_true, Bool.and_eq_true, decide_eq_true_eq, decide_eq_true_eq] at h
  exact h
theorem rep_true (n : Nat) : (List.replicate ((n : Int)).toNat [V.bl true]).flatten = List.replicate n (V.bl true) := by
  rw [Int.toNat_natCast]
  induction n with
  | zero => rfl
  | succ n ih => rw [List.replicate_succ, List.flatten_cons, ih, List.replicate_succ]; rfl
theorem merge1 (n : Int) : mergeK [] [((Sum.inl n : Key), V.int 1)] = [((Sum.inl n : Key), V.int 1)] := by
  rw [merge_new (κ := []) (by simp), List.nil_append]
theorem same_over {X Y : Hp} {c : Addr} {o : HO} (n : X c = none) (s : Same X Y) : Same X (upd Y c o) := fun b q e => by
  rw [upd_ne (ne_of_none e n)]
  exact s _ _ e
end
end L2

set_option Elab.async false
set_option linter.all false
set_option maxRecDepth 100000
set_option maxHeartbeats 4000000
/-! The laws' other drawn rules (a plan): numbers unlike, a parting by numbers. -/
namespace L2
open PySem PySem.Spec PyProof.Rows
theorem del_of {H : Hp} {a b : Addr} {o : HO} (e : del H a b = some o) : H b = some o := del_le _ _ e
theorem del_free {H H2 : Hp} {a b : Addr} (s : Same (del H a) (del H2 a)) (n : b ≠ a) (e : H2 b = none) : H b = none := by
  have := s.free (del_none e)
  rwa [del_ne n] at this
theorem del_upd {H G : Hp} {a p : Addr} {o : HO} (s : Same (del H a) (del G a)) (np : H p = none) : Same (del H a) (del (upd G p o) a) := fun b o2 e => by
  have nb : b ≠ p := fun z => by
    have := del_le _ _ e
    rw [z, np] at this
    cases this
  have na : b ≠ a := fun z => by
    rw [z, del_same] at e
    cases e
  have := s _ _ e
  rw [del_ne na] at this ⊢
  rw [upd_ne nb]
  exact this
/-- the numbers, each at its first place only: of the first i -/
def unl (ws : List Int) : Nat → List Int
  | 0 => []
  | i + 1 => unl ws i ++ (match ws[i]? with | none => [] | some k => if k ∈ ws.take i then [] else [k])
theorem unl_mem {ws : List Int} : ∀ (i : Nat) (k : Int), k ∈ unl ws i ↔ k ∈ ws.take i
  | 0, k => by simp [unl]
  | i + 1, k => by
    unfold unl
    rw [List.mem_append, unl_mem i k, List.take_add_one, List.mem_append]
    cases h : ws[i]? with
    | none => simp
    | some j =>
      dsimp only
      by_cases c : j ∈ ws.take i
      · rw [if_pos c]
        constructor
        · rintro (h | h)
          · exact .inl h
          · cases h
        · rintro (h | h)
          · exact .inl h
          · have e : k = j := by simpa using h
            exact .inl (e ▸ c)
      · rw [if_neg c]
        simp
theorem unl_nodup {ws : List Int} : ∀ i : Nat, (unl ws i).Nodup
  | 0 => List.nodup_nil
  | i + 1 => by
    unfold unl
    cases h : ws[i]? with
    | none => rw [List.append_nil]; exact unl_nodup i
    | some j =>
      dsimp only
      by_cases c : j ∈ ws.take i
      · rw [if_pos c, List.append_nil]
        exact unl_nodup i
      · rw [if_neg c]
        refine List.nodup_append.mpr ⟨unl_nodup i, by simp, fun a ha b hb e => c ?_⟩
        rw [List.mem_singleton.mp hb] at e
        exact (unl_mem i j).mp (e ▸ ha)
/-- those of one number -/
def rowN (zs : List Str) (ws : List Int) (k : Int) : List Str := ((zs.zip ws).filter fun q => decide (q.2 = k)).map (·.1)
def partN (zs : List Str) (ws : List Int) : List (List Str) := (unl ws ws.length).map (rowN zs ws)
theorem row_snoc {zs : List Str} {ws : List Int} {z : Str} {j k : Int} (h : zs.length = ws.length) : rowN (zs ++ [z]) (ws ++ [j]) k = rowN zs ws k ++ (if j = k then [z] else []) := by
  unfold rowN
  rw [List.zip_append h, List.filter_append, List.map_append]
  congr 1
  by_cases e : j = k
  · rw [if_pos e]
    simp [e]
  · rw [if_neg e]
    simp [e]
theorem unl_take {ws : List Int} {j : Int} : ∀ i, i ≤ ws.length → unl (ws ++ [j]) i = unl ws i
  | 0, _ => rfl
  | i + 1, h => by
    unfold unl
    rw [unl_take i (by omega), List.getElem?_append_left (by omega), List.take_append_of_le_length (by omega)]
theorem unl_snoc (ws : List Int) (j : Int) : unl (ws ++ [j]) (ws ++ [j]).length = unl ws ws.length ++ (if j ∈ ws then [] else [j]) := by
  rw [List.length_append]
  show unl (ws ++ [j]) (ws.length + 1) = _
  rw [unl, unl_take _ (Nat.le_refl _), List.getElem?_append_right (Nat.le_refl _), Nat.sub_self, List.take_append_of_le_length (Nat.le_refl _), List.take_length]
  rfl
theorem unl_all {ws : List Int} {k : Int} : k ∈ unl ws ws.length ↔ k ∈ ws := by
  rw [unl_mem, List.take_length]
theorem row_none {zs : List Str} {ws : List Int} {k : Int} (h : k ∉ ws) : rowN zs ws k = [] := by
  unfold rowN
  rw [List.map_eq_nil_iff, List.filter_eq_nil_iff]
  intro q hq c
  exact h (of_decide_eq_true c ▸ (List.of_mem_zip hq).2)
theorem straight_parts : ∀ {n : Nat} {zs : List Str} {ws : List Int}, zs.length = n → ws.length = n → zs.Nodup → Straight zs (partN zs ws)
  | 0, zs, ws, h1, h2, _ => by
    obtain rfl := List.length_eq_zero_iff.mp h1
    obtain rfl := List.length_eq_zero_iff.mp h2
    exact straight_nil rfl
  | n + 1, zs, ws, h1, h2, nd => by
    obtain ⟨zs', z, rfl⟩ : ∃ a b, zs = a ++ [b] := by
      have ne : zs ≠ [] := fun e => by rw [e] at h1; simp at h1
      exact ⟨_, _, (List.dropLast_concat_getLast ne).symm⟩
    obtain ⟨ws', j, rfl⟩ : ∃ a b, ws = a ++ [b] := by
      have ne : ws ≠ [] := fun e => by rw [e] at h2; simp at h2
      exact ⟨_, _, (List.dropLast_concat_getLast ne).symm⟩
    rw [List.length_append] at h1 h2
    have l1 : zs'.length = n := by simpa using h1
    have l2 : ws'.length = n := by simpa using h2
    have nd2 := (List.nodup_append.mp nd)
    have nz : z ∉ zs' := fun h => nd2.2.2 z h z (List.mem_singleton.mpr rfl) rfl
    have ih := straight_parts l1 l2 nd2.1
    have e : zs'.length = ws'.length := by omega
    unfold partN at ih ⊢
    rw [unl_snoc]
    by_cases c : j ∈ ws'
    · rw [if_pos c, List.append_nil]
      obtain ⟨u1, u2, hu⟩ := List.append_of_mem (unl_all.mpr c)
      have ndu := unl_nodup (ws := ws') ws'.length
      rw [hu] at ih ndu ⊢
      rw [List.map_append, List.map_cons] at ih ⊢
      have n1 : ∀ k ∈ u1, rowN (zs' ++ [z]) (ws' ++ [j]) k = rowN zs' ws' k := fun k hk => by
        rw [row_snoc e, if_neg (fun x => (List.nodup_append.mp ndu).2.2 k hk j List.mem_cons_self x.symm), List.append_nil]
      have n2 : ∀ k ∈ u2, rowN (zs' ++ [z]) (ws' ++ [j]) k = rowN zs' ws' k := fun k hk => by
        rw [row_snoc e, if_neg (fun x : j = k => (List.nodup_cons.mp (List.nodup_append.mp ndu).2.1).1 (by rw [x]; exact hk)), List.append_nil]
      rw [List.map_congr_left n1, List.map_congr_left n2, row_snoc e, if_pos rfl]
      exact straight_more ih nz
    · rw [if_neg c, List.map_append]
      have n1 : ∀ k ∈ unl ws' ws'.length, rowN (zs' ++ [z]) (ws' ++ [j]) k = rowN zs' ws' k := fun k hk => by
        rw [row_snoc e, if_neg (fun x : j = k => c (by rw [x]; exact unl_all.mp hk)), List.append_nil]
      rw [List.map_congr_left n1, List.map_singleton, row_snoc e, if_pos rfl, row_none c, List.nil_append]
      exact straight_new ih nz
def spUnlike (K : PySem.W.Frag) : Sp := fun vs H Q _ => ∃ (l : Addr) (ws : List Int), vs = [.ref l] ∧ H l = some (.lst (ws.map V.int)) ∧ ws.length ≤ 100 ∧ ∀ H' p, Same H H' → H p = none → H' p = some (.lst ((unl ws ws.length).map V.int)) → Q (.ref p) H'
theorem unl_len (ws : List Int) : ∀ i, (unl ws i).length ≤ i
  | 0 => Nat.le_refl _
  | i + 1 => by
    have := unl_len ws i
    unfold unl
    rw [List.length_append]
    cases ws[i]? with
    | none => simp; omega
    | some k =>
      dsimp only
      split
      · simp; omega
      · simp; omega
theorem inV_ints (k : Int) : ∀ ks : List Int, inV (.int k) (ks.map V.int) = decide (k ∈ ks)
  | [] => rfl
  | j :: ks => by
    have e := inV_ints k ks
    unfold inV at e ⊢
    rw [List.map_cons, List.any_cons, e]
    show ((j == k) || _) = _
    rw [Bool.eq_iff_iff]
    simp only [Bool.or_eq_true, beq_iff_eq, decide_eq_true_eq, List.mem_cons]
    exact or_congr_left eq_comm
theorem all_flat_ints (ks : List Int) : (ks.map V.int).all flatV = true := by
  rw [List.all_map]
  exact List.all_eq_true.mpr fun _ _ => rfl
def spParted : Sp := fun vs H Q _ => ∃ (a l : Addr) (zs : List Str), vs = [.ref a, .ref l] ∧ Pool H a ∧ l ≠ a ∧ H l = some (.lst (zs.map V.str)) ∧ zs.Nodup ∧ zs.length ≤ 8 ∧
  ∀ H' p us ls, Straight zs ls → Pool H' a → Same (del H a) (del H' a) → H p = none → (del H' a) p = some (.lst (us.map V.ref)) → Rows (del H' a) us ls → Q (.ref p) H'
def spReadersA : Sp := fun vs H Q _ => ∃ (g w r : Addr) (z : Str) (kvs : List (Key × V)) (zs : List Str) (ys : List V) (rs : List Pr), vs = [.ref g, .str z] ∧ H g = some (.dK kvs) ∧ valV kvs (.inr "people") = some (.ref w) ∧ H w = some (.lst (zs.map V.str)) ∧ valV kvs (.inr "reads") = some (.ref r) ∧ H r = some (.lst ys) ∧ Tps H ys rs ∧ zs.length ≤ 8 ∧
  PyData.strOk z = true ∧ (∀ o ∈ zs, PyData.strOk o = true) ∧ (∀ p ∈ rs, PyData.strOk p.1 = true ∧ PyData.strOk p.2 = true) ∧ ∀ H' p, Same H H' → H p = none → H' p = some (.lst ((zs.filter fun o => decide ((o, z) ∈ rs)).map V.str)) → Q (.ref p) H'
def spListA : Sp := fun vs H Q _ => ∃ (g l : Addr) (z : Str) (kvs : List (Key × V)) (us : List Addr) (ls : List (List Str)) (row : List Str), vs = [.ref g, .str z] ∧ H g = some (.dK kvs) ∧ valV kvs (.inr "lists") = some (.ref l) ∧ H l = some (.lst (us.map V.ref)) ∧ Rows H us ls ∧ ls.length ≤ 100 ∧ (ls.filter fun l => decide (z ∈ l)) = [row] ∧ ∀ H' u, Same H H' → H' u = some (.lst (row.map V.str)) → Q (.ref u) H'
theorem dget_of {H : Hp} {g : Addr} {kvs : List (Key × V)} {k : Str} {v : V} (h : H g = some (.dK kvs)) (e : valV kvs (.inr k) = some v) : DGet H g (.str k) (some v) := by
  have := DGet.k (k := .inr k) h
  rw [e] at this
  exact this
end L2

set_option Elab.async false
set_option linter.all false
set_option maxRecDepth 100000
set_option maxHeartbeats 4000000
/-! A plan: a drawn rule as a dict. -/
namespace L2
open PySem PySem.Spec PyProof.Rows
theorem Pool.ne {H : Hp} {a b : Addr} (p : Pool H a) (e : H b = none) : b ≠ a := fun q => by
  obtain ⟨g, r, h1, _⟩ := p
  rw [q, h1] at e
  cases e
theorem Pool.some {H : Hp} {a : Addr} (p : Pool H a) : H a ≠ none := fun q => by
  obtain ⟨g, r, h1, _⟩ := p
  rw [h1] at q
  cases q
theorem Pool.put {H : Hp} {a p : Addr} {o : HO} (P : Pool H a) (np : p ≠ a) : Pool (upd H p o) a := by
  obtain ⟨g, r, h1, h2⟩ := P
  exact ⟨g, r, by rw [upd_ne (Ne.symm np)]; exact h1, h2⟩
theorem names8_okA : ∀ z ∈ names8, isW (.str z) = true ∧ PyData.strOk z = true ∧ z.length ≤ 1000 ∧ z.length ≤ 8 := by decide +kernel
structure WordsA (zs : List Str) : Prop where
  sub : ∀ z ∈ zs, z ∈ names8
  nd : zs.Nodup
  one : 1 ≤ zs.length
  most : zs.length ≤ 8
theorem WordsA.ok {zs : List Str} (w : WordsA zs) : ∀ z ∈ zs, PyData.strOk z = true := fun z hz => (names8_okA z (w.sub z hz)).2.1
theorem WordsA.folk {zs : List Str} (w : WordsA zs) : Folk zs := ⟨w.ok, w.nd, w.one, w.most⟩
theorem WordsA.people {zs : List Str} (w : WordsA zs) : peopleB (zs.map V.str) = true := by
  show ((decide (1 ≤ (zs.map V.str).length) && decide ((zs.map V.str).length ≤ 8)) && ((zs.map V.str).all isW && decide (zs.map V.str).Nodup)) = true
  have h1 : (zs.map V.str).all isW = true := by
    rw [List.all_map]
    exact List.all_eq_true.mpr fun z hz => (names8_okA z (w.sub z hz)).1
  have h2 := w.one
  have h3 := w.most
  rw [h1, List.length_map, decide_eq_true h2, decide_eq_true h3, decide_eq_true ((nodup_map_inj (f := V.str) (fun _ _ e => V.str.inj e)).mpr w.nd)]
  rfl
theorem WordsA.items {K : PySem.W.Frag} {H : Hp} {zs : List Str} (w : WordsA zs) : ∀ x ∈ zs.map V.str, ItemOk K H x := fun x hx => by
  obtain ⟨z, hz, rfl⟩ := List.mem_map.mp hx
  exact item_str (names8_okA z (w.sub z hz)).2.2.1
def plan4 (w : Addr) (m : Int) (t : Str) : List (Key × V) := [(.inr "people", .ref w), (.inr "most", .int m), (.inr "turn", .str t), (.inr "trim", .int 0)]
def plan5 (w : Addr) (m : Int) (t : Str) (l : Addr) : List (Key × V) := plan4 w m t ++ [(.inr "lists", .ref l)]
def plan6 (w : Addr) (m : Int) (t : Str) (l r : Addr) : List (Key × V) := plan5 w m t l ++ [(.inr "reads", .ref r)]
def planT (w : Addr) (m : Int) (t : Str) (tr : Int) (l r : Addr) (ga : Str) (pr : Int) : List (Key × V) := [(.inr "people", .ref w), (.inr "most", .int m), (.inr "turn", .str t), (.inr "trim", .int tr), (.inr "lists", .ref l), (.inr "reads", .ref r), (.inr "gather", .str ga), (.inr "prizes", .int pr)]
def planAK (w l r : Addr) (R : RuleD) : List (Key × V) := planT w R.m R.turn R.trim l r R.gather R.prizes
theorem pmerge4 {w : Addr} {m : Int} {t : Str} : mergeK [] (plan4 w m t) = plan4 w m t := by
  rw [merge_new (κ := []) (by show ([Sum.inr "people", Sum.inr "most", Sum.inr "turn", Sum.inr "trim"] : List Key).Nodup; decide +kernel), List.nil_append]
theorem pput5 {w : Addr} {m : Int} {t : Str} {l : Addr} : putK (plan4 w m t) (.inr "lists") (.ref l) = plan5 w m t l := rfl
theorem pput6 {w : Addr} {m : Int} {t : Str} {l r : Addr} : putK (plan5 w m t l) (.inr "reads") (.ref r) = plan6 w m t l r := rfl
theorem pput6r {w : Addr} {m : Int} {t : Str} {l r r2 : Addr} : putK (plan6 w m t l r) (.inr "reads") (.ref r2) = plan6 w m t l r2 := rfl
theorem pput8 {w : Addr} {m : Int} {t : Str} {l r : Addr} {ga : Str} {pr : Int} : putK (putK (plan6 w m t l r) (.inr "gather") (.str ga)) (.inr "prizes") (.int pr) = planT w m t 0 l r ga pr := rfl
theorem pputT {w : Addr} {m : Int} {t : Str} {tr : Int} {l r : Addr} {ga : Str} {pr x : Int} : putK (planT w m t tr l r ga pr) (.inr "trim") (.int x) = planT w m t x l r ga pr := rfl
theorem pputG {w : Addr} {m : Int} {t : Str} {tr : Int} {l r : Addr} {ga gb : Str} {pr : Int} : putK (planT w m t tr l r ga pr) (.inr "gather") (.str gb) = planT w m t tr l r gb pr := rfl
structure PlanAt (H : Hp) (g w l r : Addr) (us : List Addr) (ys : List V) (R : RuleD) : Prop where
  ob : H g = some (.dK (planAK w l r R))
  words : H w = some (.lst (R.zs.map V.str))
  ls : H l = some (.lst (us.map V.ref))
  rows : Rows H us R.lists
  rd : H r = some (.lst ys)
  tps : Tps H ys R.reads
def PlanOf (H : Hp) (g : Addr) (R : RuleD) : Prop := ∃ w l r us ys, PlanAt H g w l r us ys R
theorem PlanAt.same {H H2 : Hp} {g w l r : Addr} {us : List Addr} {ys : List V} {R : RuleD} (s : Same H H2) (h : PlanAt H g w l r us ys R) : PlanAt H2 g w l r us ys R :=
  ⟨s _ _ h.ob, s _ _ h.words, s _ _ h.ls, h.rows.same s, s _ _ h.rd, h.tps.same s⟩
theorem PlanOf.same {H H2 : Hp} {g : Addr} {R : RuleD} (s : Same H H2) (h : PlanOf H g R) : PlanOf H2 g R := by
  obtain ⟨w, l, r, us, ys, h⟩ := h
  exact ⟨w, l, r, us, ys, h.same s⟩
section
variable {H : Hp} {g w l r : Addr} {us : List Addr} {ys : List V} {R : RuleD}
theorem PlanAt.gWords (h : PlanAt H g w l r us ys R) : DGet H g (.str "people") (some (.ref w)) := DGet.k (k := .inr "people") h.ob
theorem PlanAt.gMost (h : PlanAt H g w l r us ys R) : DGet H g (.str "most") (some (.int R.m)) := DGet.k (k := .inr "most") h.ob
theorem PlanAt.gTurn (h : PlanAt H g w l r us ys R) : DGet H g (.str "turn") (some (.str R.turn)) := DGet.k (k := .inr "turn") h.ob
theorem PlanAt.gTrim (h : PlanAt H g w l r us ys R) : DGet H g (.str "trim") (some (.int R.trim)) := DGet.k (k := .inr "trim") h.ob
theorem PlanAt.gGather (h : PlanAt H g w l r us ys R) : DGet H g (.str "gather") (some (.str R.gather)) := DGet.k (k := .inr "gather") h.ob
theorem PlanAt.gPrizes (h : PlanAt H g w l r us ys R) : DGet H g (.str "prizes") (some (.int R.prizes)) := DGet.k (k := .inr "prizes") h.ob
theorem PlanAt.gLists (h : PlanAt H g w l r us ys R) : DGet H g (.str "lists") (some (.ref l)) := DGet.k (k := .inr "lists") h.ob
theorem PlanAt.gReads (h : PlanAt H g w l r us ys R) : DGet H g (.str "reads") (some (.ref r)) := DGet.k (k := .inr "reads") h.ob
end
theorem PartsAt.plan {G : Hp} {a g w l r : Addr} {us : List Addr} {ys : List V} {R : RuleD} (h : PartsAt (del2 G a g) w l r us ys R.zs R.lists R.reads) (n : g ≠ a) (ob : G g = some (.dK (planAK w l r R))) : PlanAt (del G a) g w l r us ys R :=
  ⟨del_at n ob, (h.same del2_le).words, (h.same del2_le).lsa, (h.same del2_le).rows, (h.same del2_le).rd, (h.same del2_le).tps⟩
def spPlan : Sp := fun vs H Q _ => ∃ (a tl : Addr) (least many top : Nat) (ts : List Str), vs = [.ref a, .int (least : Int), .int (many : Int), .int (top : Int), .ref tl] ∧ Pool H a ∧ H tl = some (.lst (ts.map V.str)) ∧ tl ≠ a ∧ 1 ≤ ts.length ∧ ts.length ≤ 100 ∧ (∀ t ∈ ts, t ∈ turns) ∧ 1 ≤ least ∧ least ≤ many ∧ many ≤ 8 ∧ 1 ≤ top ∧ top ≤ 10 ∧
  ∀ H' g R, R.Ok → WordsA R.zs → least ≤ R.zs.length → R.zs.length ≤ many → R.turn ∈ ts → 1 ≤ R.m → R.m ≤ (top : Int) → Pool H' a → Same (del H a) (del H' a) → H g = none → g ≠ a → PlanOf (del H' a) g R → Q (.ref g) H'
/-- the list of the reads grows where it stands -/
structure RoundA (H G : Hp) (a g wo l r : Addr) (us : List Addr) (ys : List V) (kvs : List (Key × V)) (zs : List Str) (ls : List (List Str)) (rs : List Pr) : Prop where
  pool : Pool G a
  keep : Same (del H a) (del G a)
  ob : G g = some (.dK kvs)
  nga : g ≠ a
  ngr : g ≠ r
  nra : r ≠ a
  fr : H r = none
  wA : del (del2 G a g) r wo = some (.lst (zs.map V.str))
  lA : del (del2 G a g) r l = some (.lst (us.map V.ref))
  rowsA : Rows (del (del2 G a g) r) us ls
  rd : G r = some (.lst ys)
  tps : Tps (del2 G a r) ys rs
theorem del_free_eq {G : Hp} {r : Addr} (h : G r = none) : del G r = G := by
  funext b
  by_cases e : b = r
  · subst e
    rw [del_same, h]
  · rw [del_ne e]
theorem del2_none {G : Hp} {a g r : Addr} (h : G r = none) : del2 G a g r = none := del_none (del_none h)
theorem del3_upd {G : Hp} {a g r : Addr} {o : HO} : del (del2 (upd G r o) a g) r = del (del2 G a g) r := by
  funext b
  unfold del2
  by_cases e : b = r
  · subst e
    rw [del_same, del_same]
  · rw [del_ne e, del_ne e]
    by_cases e2 : b = g
    · subst e2
      rw [del_same, del_same]
    · rw [del_ne e2, del_ne e2]
      by_cases e3 : b = a
      · subst e3
        rw [del_same, del_same]
      · rw [del_ne e3, del_ne e3, upd_ne e]
section
variable {H G G2 : Hp} {a g wo l r : Addr} {us : List Addr} {ys : List V} {kvs : List (Key × V)} {zs : List Str} {ls : List (List Str)} {rs : List Pr}
theorem RoundA.step (h : RoundA H G a g wo l r us ys kvs zs ls rs) (P2 : Pool G2 a) (sd : Same (del G a) (del G2 a)) : RoundA H G2 a g wo l r us ys kvs zs ls rs where
  pool := P2
  keep := h.keep.trans sd
  ob := del_of (sd _ _ (del_at h.nga h.ob))
  nga := h.nga
  ngr := h.ngr
  nra := h.nra
  fr := h.fr
  wA := del_mono (del2_mono sd) _ _ h.wA
  lA := del_mono (del2_mono sd) _ _ h.lA
  rowsA := h.rowsA.same (del_mono (del2_mono sd))
  rd := del_of (sd _ _ (del_at h.nra h.rd))
  tps := h.tps.same (del2_mono sd)
theorem RoundA.same (h : RoundA H G a g wo l r us ys kvs zs ls rs) (s : Same G G2) : RoundA H G2 a g wo l r us ys kvs zs ls rs := h.step (h.pool.same s) (del_mono s)
theorem RoundA.but (h : RoundA H G a g wo l r us ys kvs zs ls rs) (P2 : Pool G2 a) (b : But a G G2) : RoundA H G2 a g wo l r us ys kvs zs ls rs := h.step P2 (del_but b)
theorem tps_one {X : Hp} {t : Addr} {p : Pr} (h : X t = some (.tup [.str p.1, .str p.2])) : Tps X [.ref t] [p] := ⟨rfl, fun j y q h1 h2 => by
  cases j with
  | zero =>
    cases h1
    cases h2
    exact ⟨t, rfl, h⟩
  | succ j => simp at h1⟩
theorem RoundA.push (h : RoundA H G a g wo l r us ys kvs zs ls rs) {t : Addr} {p : Pr} (ht : G t = some (.tup [.str p.1, .str p.2])) : RoundA H (upd G r (.lst (ys ++ [.ref t]))) a g wo l r us (ys ++ [.ref t]) kvs zs ls (rs ++ [p]) where
  pool := h.pool.put h.nra
  keep := del_upd h.keep h.fr
  ob := by rw [upd_ne h.ngr]; exact h.ob
  nga := h.nga
  ngr := h.ngr
  nra := h.nra
  fr := h.fr
  wA := by rw [del3_upd]; exact h.wA
  lA := by rw [del3_upd]; exact h.lA
  rowsA := by rw [del3_upd]; exact h.rowsA
  rd := upd_same
  tps := by
    rw [del2_upd]
    refine h.tps.append (tps_one (del2_at (h.pool.other ht fun xs e => nomatch e) (fun e => ?_) ht))
    rw [e, h.rd] at ht
    cases ht
theorem RoundA.words (h : RoundA H G a g wo l r us ys kvs zs ls rs) : G wo = some (.lst (zs.map V.str)) := del2_of (del_of h.wA)
theorem RoundA.lists (h : RoundA H G a g wo l r us ys kvs zs ls rs) : G l = some (.lst (us.map V.ref)) := del2_of (del_of h.lA)
theorem RoundA.rows (h : RoundA H G a g wo l r us ys kvs zs ls rs) : Rows G us ls := Paired.mono (fun u (k : List Str) e => del2_of (del_of e)) h.rowsA
theorem RoundA.reads (h : RoundA H G a g wo l r us ys kvs zs ls rs) : Tps G ys rs := h.tps.same fun b o e => del2_of e
end
theorem readsA_len {zs : List Str} {rs : List Pr} (nd : rs.Nodup) (h : ∀ p ∈ rs, p ∈ pairsOf zs) (z8 : zs.length ≤ 8) : rs.length ≤ 64 := Nat.le_trans (Km.nodup_le nd h) (pairs_len z8 z8)
theorem pairsOf_in {zs : List Str} {o z : Str} (ho : o ∈ zs) (hz : z ∈ zs) (n : o ≠ z) : (o, z) ∈ pairsOf zs := by
  refine List.mem_flatMap.mpr ⟨o, ho, ?_⟩
  unfold rowOf
  exact List.mem_map.mpr ⟨z, List.mem_filter.mpr ⟨hz, decide_eq_true n⟩, rfl⟩
/-- somebody else, of two or more -/
theorem others_some {zs l : List Str} {z : Str} (nd : zs.Nodup) (sub : l.Sublist zs) (big : 1 < l.length) : 1 ≤ (zs.filter fun o => decide (o ≠ z)).length := by
  obtain ⟨y, hy, ne⟩ : ∃ y ∈ l, y ≠ z := by
    refine Classical.byContradiction fun c => ?_
    have all : ∀ y ∈ l, y = z := fun y hy => Classical.byContradiction fun e => c ⟨y, hy, e⟩
    have ndl := nd.sublist sub
    match l, big, all, ndl with
    | a :: b :: l, _, all, ndl =>
      have e1 := all a List.mem_cons_self
      have e2 := all b (List.mem_cons_of_mem _ List.mem_cons_self)
      rw [e1, e2] at ndl
      exact (List.nodup_cons.mp ndl).1 List.mem_cons_self
  exact List.length_pos_iff_exists_mem.mpr ⟨y, List.mem_filter.mpr ⟨sub.subset hy, decide_eq_true ne⟩⟩
/-- how many mark somebody, by a look at all -/
def cntA (zs : List Str) (rs : List Pr) (z : Str) : Nat := (zs.filter fun o => decide ((o, z) ∈ rs)).length
theorem cntA_le {zs : List Str} {rs : List Pr} {z : Str} (nd : zs.Nodup) : cntA zs rs z ≤ (readersOf rs z).length :=
  Km.nodup_le (nd.sublist List.filter_sublist) fun o ho => List.mem_map.mpr ⟨(o, z), List.mem_filter.mpr ⟨of_decide_eq_true (List.mem_filter.mp ho).2, decide_eq_true rfl⟩, rfl⟩
theorem fullA {R : RuleD} (mem : ∀ l ∈ R.lists, ∀ p ∈ l, p ∈ R.zs) (nd : R.zs.Nodup) (h : ∀ l ∈ R.lists, 1 < l.length → ∀ z ∈ l, 2 * R.trim < (cntA R.zs R.reads z : Int)) : shortB R.reads R.lists R.trim = false := by
  refine nolack_full mem fun z hz => ?_
  unfold RuleD.lacks
  cases e : R.lists.any fun l => decide (z ∈ l) && decide (1 < l.length) with
  | false => rfl
  | true =>
    obtain ⟨l, hl, c⟩ := List.any_eq_true.mp e
    rw [Bool.and_eq_true, decide_eq_true_eq, decide_eq_true_eq] at c
    have h1 := h l hl c.2 z c.1
    have h2 := cntA_le (rs := R.reads) (z := z) nd
    rw [Bool.true_and, decide_eq_false_iff_not]
    omega
theorem pick_mem {zs : List Str} {ps : List Pr} {p : Pr} : p ∈ pick zs ps ↔ p ∈ pairsOf zs ∧ p ∈ ps := by
  unfold pick
  rw [List.mem_filter, decide_eq_true_eq]
theorem shaped_intsA (ns : List Int) : SeqAt.shaped (.list (ns.map PyData.int)) = true := by
  have key : ∀ ns : List Int, PyData.canLayAll0 (ns.map .int) = true ∧ PyData.depthAll (ns.map PyData.int) ≤ 1 := fun ns => by
    induction ns with
    | nil => exact ⟨rfl, by simp [PyData.depthAll]⟩
    | cons n ns ih =>
      constructor
      · rw [List.map_cons, PyData.canLayAll0, PyData.canLay0, ih.1]
        rfl
      · have := ih.2
        simp only [List.map_cons, PyData.depthAll, PyData.depth]
        omega
  obtain ⟨h1, h2⟩ := key ns
  unfold SeqAt.shaped
  rw [PyData.canLay0, h1, Bool.true_and]
  refine decide_eq_true ?_
  rw [PyData.depth]
  omega
theorem dp_intsA {K : PySem.W.Frag} {H : Hp} : ∀ ns : List Int, DpAll K H (ns.map V.int) (ns.map PyData.int)
  | [] => .nil
  | n :: ns => .cons (.int n) (dp_intsA ns)
theorem cnt_pos {zs : List Str} {rs : List Pr} {z : Str} (sub : ∀ p ∈ rs, p ∈ pairsOf zs) (h : ∃ p ∈ rs, p.2 = z) : 0 < cntA zs (pick zs rs) z := by
  obtain ⟨p, hp, rfl⟩ := h
  have m := sub p hp
  exact List.length_pos_iff_exists_mem.mpr ⟨p.1, List.mem_filter.mpr ⟨(pairsOf_mem m).1, decide_eq_true (pick_mem.mpr ⟨m, hp⟩)⟩⟩
end L2

set_option Elab.async false
set_option linter.all false
set_option maxRecDepth 100000
set_option maxHeartbeats 4000000
/-! Rules made of plans; what does not go with the other parts. -/
namespace L2
open PySem PySem.Spec PyProof.Rows
def spMadeA (C CR : Addr) : Sp := fun vs H Q _ => ∃ (g : Addr) (R : RuleD), vs = [.ref g] ∧ PlanOf H g R ∧ R.Ok ∧ WordsA R.zs ∧ 1 ≤ R.m ∧ R.m ≤ 10 ∧ ∀ H' x, Same H H' → H x = none → RuleOf H' CR C x R → Q (.ref x) H'
theorem readers_nd {rs : List Pr} {z : Str} (nd : rs.Nodup) : (readersOf rs z).Nodup := by
  unfold readersOf
  have key : ∀ l : List Pr, l.Nodup → (∀ p ∈ l, p.2 = z) → (l.map (·.1)).Nodup := fun l => by
    induction l with
    | nil => exact fun _ _ => List.nodup_nil
    | cons p l ih =>
      intro nd h
      rw [List.nodup_cons] at nd
      rw [List.map_cons, List.nodup_cons]
      refine ⟨fun c => ?_, ih nd.2 fun q hq => h q (List.mem_cons_of_mem _ hq)⟩
      obtain ⟨q, hq, e⟩ := List.mem_map.mp c
      have e2 : q = p := Prod.ext e (by rw [h q (List.mem_cons_of_mem _ hq), h p List.mem_cons_self])
      exact nd.1 (e2 ▸ hq)
  exact key _ (nd.sublist List.filter_sublist) fun p hp => of_decide_eq_true (List.mem_filter.mp hp).2
theorem cntA_eq {zs : List Str} {rs : List Pr} {z : Str} (nd : zs.Nodup) (sub : rs.Sublist (pairsOf zs)) : cntA zs rs z = (readersOf rs z).length := by
  refine Nat.le_antisymm (cntA_le nd) (Km.nodup_le (readers_nd ((pairs_nodup nd).sublist sub)) fun o ho => ?_)
  unfold readersOf at ho
  obtain ⟨p, hp, rfl⟩ := List.mem_map.mp ho
  obtain ⟨h1, h2⟩ := List.mem_filter.mp hp
  have e : p.2 = z := of_decide_eq_true h2
  refine List.mem_filter.mpr ⟨(pairsOf_mem (sub.subset h1)).1, decide_eq_true ?_⟩
  rw [← e]
  exact h1
/-- the first part that does not go with the others -/
def wrongA (R : RuleD) : Option Str := if R.turn ≠ "plain" ∧ R.gather ∉ gathersT then some "gather" else if decide (R.gather = "trim") ≠ decide (0 < R.trim) then some "trim" else if shortB R.reads R.lists R.trim = true then some "lists" else none
def optV : Option Str → V
  | none => .non
  | some z => .str z
/-- a rule as parts that need not go together -/
structure RuleD.Loose (R : RuleD) : Prop where
  words : WordsA R.zs
  turn : R.turn ∈ turns
  gather : R.gather ∈ gathers
  t0 : 0 ≤ R.trim
  t3 : R.trim ≤ 3
  prizes : markB 0 8 (.int R.prizes) = true
  reads : R.reads.Sublist (pairsOf R.zs)
  lists : Straight R.zs R.lists
theorem RuleD.Ok.loose {R : RuleD} (ok : R.Ok) (w : WordsA R.zs) (t0 : 0 ≤ R.trim) (t3 : R.trim ≤ 3) : R.Loose := by
  refine ⟨w, of_decide_eq_true ok.turn, ?_, t0, t3, ok.prizes, ok.reads, ok.lists⟩
  have h : (decide (R.gather ∈ gathers) && (decide (R.turn = "plain") || decide (R.gather ∈ gathersT))) = true := ok.gather
  rw [Bool.and_eq_true] at h
  exact of_decide_eq_true h.1
theorem loose_gather {R : RuleD} (h : R.Loose) : gatherB R.turn (.str R.gather) = !decide (R.turn ≠ "plain" ∧ R.gather ∉ gathersT) := by
  show (decide (R.gather ∈ gathers) && (decide (R.turn = "plain") || decide (R.gather ∈ gathersT))) = _
  rw [decide_eq_true h.gather, Bool.true_and]
  by_cases c1 : R.turn = "plain"
  · simp [c1]
  · by_cases c2 : R.gather ∈ gathersT
    · simp [c1, c2]
    · simp [c1, c2]
theorem loose_trim {R : RuleD} (h : R.Loose) : trimB R.gather (.int R.trim) = decide (decide (R.gather = "trim") = decide (0 < R.trim)) := by
  have h0 := h.t0
  have h3 := h.t3
  unfold trimB
  by_cases c : R.gather = "trim"
  · rw [if_pos c, decide_eq_true c]
    show (decide (1 ≤ R.trim) && decide (R.trim ≤ 3)) = _
    rw [decide_eq_true h3, Bool.and_true]
    by_cases c2 : 0 < R.trim
    · rw [decide_eq_true c2, decide_eq_true (show 1 ≤ R.trim by omega)]
      rfl
    · rw [decide_eq_false c2, decide_eq_false (show ¬ 1 ≤ R.trim by omega)]
      rfl
  · rw [if_neg c, decide_eq_false c]
    by_cases c2 : 0 < R.trim
    · rw [decide_eq_true c2, decide_eq_false (fun e => by have := V.int.inj e; omega)]
      rfl
    · rw [decide_eq_false c2, decide_eq_true (show V.int R.trim = .int 0 by rw [show R.trim = 0 by omega])]
      rfl
theorem wrongA_first {R : RuleD} (h : R.Loose) : firstWrong (turnB (.str R.turn)) true (gatherB R.turn (.str R.gather)) (trimB R.gather (.int R.trim)) true (shortB R.reads R.lists R.trim) (markB 0 8 (.int R.prizes)) = wrongA R := by
  rw [loose_gather h, loose_trim h, h.prizes, show turnB (.str R.turn) = true from decide_eq_true h.turn]
  unfold firstWrong wrongA
  by_cases c1 : R.turn ≠ "plain" ∧ R.gather ∉ gathersT
  · rw [if_pos c1, decide_eq_true c1]
    rfl
  · rw [if_neg c1, decide_eq_false c1]
    generalize decide (R.gather = "trim") = x
    generalize decide (0 < R.trim) = y
    cases x <;> cases y <;> cases shortB R.reads R.lists R.trim <;> rfl
theorem loose_ok {R : RuleD} (h : R.Loose) (e : wrongA R = none) : R.Ok := by
  have w := wrongA_first h
  rw [e] at w
  have h1 : turnB (.str R.turn) = true := decide_eq_true h.turn
  rw [h1, h.prizes] at w
  unfold firstWrong at w
  have h2 : gatherB R.turn (.str R.gather) = true := by
    cases q : gatherB R.turn (.str R.gather) with
    | true => rfl
    | false => rw [q] at w; cases w
  rw [h2] at w
  have h3 : trimB R.gather (.int R.trim) = true := by
    cases q : trimB R.gather (.int R.trim) with
    | true => rfl
    | false => rw [q] at w; cases w
  rw [h3] at w
  have h4 : shortB R.reads R.lists R.trim = false := by
    cases q : shortB R.reads R.lists R.trim with
    | false => rfl
    | true => rw [q] at w; cases w
  exact ⟨h.words.folk, h1, h2, h3, h.prizes, h.reads, h.lists, h4⟩
def spFirstWrong : Sp := fun vs H Q _ => ∃ (g : Addr) (R : RuleD), vs = [.ref g] ∧ PlanOf H g R ∧ R.Loose ∧ ∀ H2, Same H H2 → Q (optV (wrongA R)) H2
/-- which parts are given -/
structure Gv where
  t : Bool
  r : Bool
  l : Bool
  g : Bool
  m : Bool
  p : Bool
def RuleD.mix (R S : RuleD) (b : Gv) : RuleD := ⟨R.zs, R.m, if b.t then S.turn else R.turn, if b.g then S.gather else R.gather, if b.m then S.trim else R.trim, if b.p then S.prizes else R.prizes, if b.r then S.reads else R.reads, if b.l then S.lists else R.lists⟩
theorem mix_loose {R S : RuleD} {b : Gv} (hR : R.Loose) (hS : S.Loose) (e : S.zs = R.zs) : (R.mix S b).Loose := by
  obtain ⟨bt, br, bl, bg, bm, bp⟩ := b
  refine ⟨hR.words, ?_, ?_, ?_, ?_, ?_, ?_, ?_⟩
  · show (if bt then S.turn else R.turn) ∈ turns
    cases bt
    · exact hR.turn
    · exact hS.turn
  · show (if bg then S.gather else R.gather) ∈ gathers
    cases bg
    · exact hR.gather
    · exact hS.gather
  · show 0 ≤ (if bm then S.trim else R.trim)
    cases bm
    · exact hR.t0
    · exact hS.t0
  · show (if bm then S.trim else R.trim) ≤ 3
    cases bm
    · exact hR.t3
    · exact hS.t3
  · show markB 0 8 (.int (if bp then S.prizes else R.prizes)) = true
    cases bp
    · exact hR.prizes
    · exact hS.prizes
  · show (if br then S.reads else R.reads).Sublist (pairsOf R.zs)
    cases br
    · exact hR.reads
    · exact e ▸ hS.reads
  · show Straight R.zs (if bl then S.lists else R.lists)
    cases bl
    · exact hR.lists
    · exact e ▸ hS.lists
structure PartsD (H : Hp) (d l r : Addr) (us : List Addr) (ys : List V) (S : RuleD) (b : Gv) : Prop where
  ob : ∃ kvs, H d = some (.dK kvs) ∧ valV kvs (.inr "turn") = (if b.t then some (.str S.turn) else none) ∧ valV kvs (.inr "reads") = (if b.r then some (.ref r) else none) ∧ valV kvs (.inr "lists") = (if b.l then some (.ref l) else none) ∧ valV kvs (.inr "gather") = (if b.g then some (.str S.gather) else none) ∧ valV kvs (.inr "trim") = (if b.m then some (.int S.trim) else none) ∧ valV kvs (.inr "prizes") = (if b.p then some (.int S.prizes) else none)
  ls : H l = some (.lst (us.map V.ref))
  rows : Rows H us S.lists
  rd : H r = some (.lst ys)
  tps : Tps H ys S.reads
theorem PartsD.same {H H2 : Hp} {d l r : Addr} {us : List Addr} {ys : List V} {S : RuleD} {b : Gv} (s : Same H H2) (h : PartsD H d l r us ys S b) : PartsD H2 d l r us ys S b := by
  obtain ⟨kvs, h1, h2⟩ := h.ob
  exact ⟨⟨kvs, s _ _ h1, h2⟩, s _ _ h.ls, h.rows.same s, s _ _ h.rd, h.tps.same s⟩
def spChangedA (C CR : Addr) : Sp := fun vs H Q _ => ∃ (x d l r : Addr) (us : List Addr) (ys : List V) (R S : RuleD) (b : Gv), vs = [.ref x, .ref d] ∧ RuleOf H CR C x R ∧ R.Ok ∧ R.Loose ∧ PartsD H d l r us ys S b ∧ S.Loose ∧ S.zs = R.zs ∧
  (∀ z, wrongA (R.mix S b) = some z → ∀ H2, Same H H2 → Q (.str z) H2) ∧ (wrongA (R.mix S b) = none → ∀ H2 y, Same H H2 → H y = none → RuleOf H2 CR C y (R.mix S b) → Q (.ref y) H2)
/-- renamed, one for one -/
theorem straight_map {zs : List Str} {ls : List (List Str)} (s : Straight zs ls) {f : Str → Str} (inj : ∀ a ∈ zs, ∀ b ∈ zs, f a = f b → a = b) : Straight (zs.map f) (ls.map fun l => l.map f) where
  parts := by
    have fl : (ls.map fun l => l.map f).flatten = ls.flatten.map f := by rw [List.map_flatten]
    refine ⟨fun l hl => ?_, fun l hl p hp => ?_, ?_, ?_⟩
    · obtain ⟨k, hk, rfl⟩ := List.mem_map.mp hl
      intro e
      exact s.parts.ne k hk (List.map_eq_nil_iff.mp e)
    · obtain ⟨k, hk, rfl⟩ := List.mem_map.mp hl
      obtain ⟨q, hq, rfl⟩ := List.mem_map.mp hp
      exact List.mem_map.mpr ⟨q, s.parts.mem k hk q hq, rfl⟩
    · rw [fl]
      have mem : ∀ z ∈ ls.flatten, z ∈ zs := fun z hz => by
        obtain ⟨l, hl, hz⟩ := List.mem_flatten.mp hz
        exact s.parts.mem l hl z hz
      have key : ∀ l : List Str, (∀ z ∈ l, z ∈ zs) → l.Nodup → (l.map f).Nodup := fun l => by
        induction l with
        | nil => exact fun _ _ => List.nodup_nil
        | cons a l ih =>
          intro hm nd
          rw [List.nodup_cons] at nd
          rw [List.map_cons, List.nodup_cons]
          refine ⟨fun c => ?_, ih (fun z hz => hm z (List.mem_cons_of_mem _ hz)) nd.2⟩
          obtain ⟨b, hb, e⟩ := List.mem_map.mp c
          exact nd.1 (inj b (hm b (List.mem_cons_of_mem _ hb)) a (hm a List.mem_cons_self) e ▸ hb)
      exact key _ mem s.parts.nd
    · rw [fl, List.length_map, List.length_map, s.parts.len]
  sub := fun l hl => by
    obtain ⟨k, hk, rfl⟩ := List.mem_map.mp hl
    exact (s.sub k hk).map f
  heads := by
    have e : ((ls.map fun l => l.map f).map fun l => l.headD Str.empty) = (ls.map fun l => l.headD Str.empty).map f := by
      rw [List.map_map, List.map_map]
      refine List.map_congr_left fun l hl => ?_
      cases l with
      | nil => exact absurd rfl (s.parts.ne _ hl)
      | cons a b => rfl
    rw [e]
    exact s.heads.map f
/-- renamed by place -/
def ren : List Str → List Str → Str → Str
  | a :: s, b :: t, z => if z = a then b else ren s t z
  | _, _, z => z
theorem ren_val : ∀ {s t : List Str} {z : Str}, s.length = t.length → z ∈ s → valV ((s.map (Sum.inr : Str → Key)).zip (t.map V.str)) (.inr z) = some (.str (ren s t z))
  | [], _, _, _, h => by cases h
  | _ :: _, [], _, h, _ => by cases h
  | a :: s, b :: t, z, h, hz => by
    by_cases e : z = a
    · subst e
      rw [List.map_cons, List.map_cons, List.zip_cons_cons, valV_pos rfl]
      show _ = some (V.str (if z = z then b else ren s t z))
      rw [if_pos rfl]
    · rw [List.map_cons, List.map_cons, List.zip_cons_cons, valV_neg (fun q => e (Sum.inr.inj q).symm)]
      show _ = some (V.str (if z = a then b else ren s t z))
      rw [if_neg e]
      exact ren_val (Nat.succ.inj h) ((List.mem_cons.mp hz).resolve_left e)
theorem ren_map : ∀ {s t : List Str}, s.length = t.length → s.Nodup → s.map (ren s t) = t
  | [], [], _, _ => rfl
  | [], _ :: _, h, _ => by cases h
  | _ :: _, [], h, _ => by cases h
  | a :: s, b :: t, h, nd => by
    rw [List.nodup_cons] at nd
    rw [List.map_cons]
    show (if a = a then b else ren s t a) :: _ = _
    rw [if_pos rfl]
    congr 1
    have : s.map (ren (a :: s) (b :: t)) = s.map (ren s t) := List.map_congr_left fun z hz => by
      show (if z = a then b else ren s t z) = _
      rw [if_neg (fun e : z = a => nd.1 (e ▸ hz))]
    rw [this]
    exact ren_map (Nat.succ.inj h) nd.2
theorem inj_of_map {f : Str → Str} : ∀ {l : List Str}, (l.map f).Nodup → ∀ a ∈ l, ∀ b ∈ l, f a = f b → a = b
  | [], _, a, h, _, _, _ => by cases h
  | x :: l, nd, a, ha, b, hb, e => by
    rw [List.map_cons, List.nodup_cons] at nd
    rcases List.mem_cons.mp ha with h1 | h1
    · rcases List.mem_cons.mp hb with h2 | h2
      · rw [h1, h2]
      · exact absurd (List.mem_map.mpr ⟨b, h2, by rw [← e, h1]⟩) nd.1
    · rcases List.mem_cons.mp hb with h2 | h2
      · exact absurd (List.mem_map.mpr ⟨a, h1, by rw [e, h2]⟩) nd.1
      · exact inj_of_map nd.2 a h1 b h2 e
end L2

set_option Elab.async false
set_option linter.all false
set_option maxRecDepth 100000
set_option maxHeartbeats 4000000
/-! C.m(..), m a staticmethod of the class at C. -/
namespace L2
open PySem PySem.Spec PyProof.Rows
/-- C.m is a staticmethod: its record at p, its def at g -/
structure SMet (K : PySem.W.Frag) (C : Addr) (mc : Value) (m : Str) (p g : Addr) : Prop where
  look : PySem.W.findCls K (.ref C) mc m = some (.get (.builtin "staticmethod.__get__") (.ref p) .none (.ref C))
  rcd : ∃ rest, PySem.W.recIn K p "staticmethod" = some (.ref g :: rest)
  keep : PySem.W.keepIn K (.ref g) = true
def tStatic (C : Addr) (sp : Sp) (E : XK) (ta : TE) (t : TA) : TE := fun σ H Q => ta σ H fun x H1 => x = .ref C ∧ t σ H1 fun vs H2 => sp vs H2 Q E
section
variable {X : Cx} {CX : CXT} {k : Nat} {C p g : Addr} {mc : Value} {m : Str} {fd : FuncData} {ps : List Str} {sp : Sp} {E : XK} {apos pos : Pos} {o e : Expr} {es : List Expr} {ta : TE} {t : TA}
theorem pe_static {pl : Sem Bool} (he : PE X o ta) (r : ClX.CRead X.K C mc) (c : SMet X.K C mc m p g) (F : FnOk X.prog X.w X.K X.mg X.base CX k g fd ps sp) (hr : Room k X.A) (hb : Binds X.K fd ps []) (hx : Passes CX X E) (ha : PA X (e :: es) t)
    (hst : starEach (e :: es) X.env = (false, eval e X.env) :: starEach es X.env := by rfl) (hpl : (backTo pos (starEach es X.env)).any (·.1) = false := by rfl)
    (ht : eval (.Call (.Attribute o m apos) (e :: es) [] pos) X.env = (do
      let ov ← eval o X.env
      standAt apos.atName
      let (f, first) ← holding [ov] (getMethod ov m pl)
      callWith pos f first (backTo pos (starEach (e :: es) X.env)) (backToKw pos (keywordEach [] X.env))) := by rfl) :
    PE X (.Call (.Attribute o m apos) (e :: es) [] pos) (tStatic C sp E ta t) := by
  refine ⟨fun pins s σ H Q I h => ?_⟩
  refine PySem.W.methodCall_KW (pl := pl) (thn (he.run pins s σ H _ I h) fun u s1 z => ?_) ht
  obtain ⟨x, H1, I1, rx, rfl, q⟩ := z
  obtain rfl : u = Value.ref C := rx
  obtain ⟨rest, hp⟩ := c.rcd
  refine PySem.W.method_cls I1.kIn r.ga (PySem.W.cls_bind I1.kIn r.rd c.look (wpAny_call (PySem.W.sm_get (s := { s1 with toks := s1.toks + 1 }) I1.kIn hp (PySem.W.handed_on rfl ?_))))
  have I2 : Inv X pins σ H1 { s1 with toks := s1.toks + 1 } := I1.tok _
  refine PySem.W.callWith_K (first := []) (h₀ := X.base) I2.ok.mod.kin c.keep (thn (ha.run pos pins _ σ H1 _ I2 q) fun us s2 z => ?_) hst hpl
  obtain ⟨vs, H2, I3, rv, q2⟩ := z
  exact ⟨I3.kIn, run_fn (ds := []) (dvs := []) (us := us) (vs := vs) F hr hb .nil hx I3 rv (by rw [List.append_nil]; exact q2)⟩
end
end L2

set_option Elab.async false
set_option linter.all false
set_option maxRecDepth 100000
set_option maxHeartbeats 4000000
/-! o[i], o an instance with an own __getitem__. -/
namespace L2
open PySem PySem.Spec PyProof.Rows
def tIxOwn (C : Addr) (sp : Sp) (E : XK) (to ti : TE) : TE := fun σ H Q => to σ H fun x H1 => ti σ H1 fun y H2 => ∃ (a dx : Addr) (fs : List (Str × V)), x = .ref a ∧ H2 a = some (.ins C dx fs) ∧ sp [.ref a, y] H2 Q E
section
variable {X : Cx} {CX : CXT} {k : Nat} {f C : Addr} {fd : FuncData} {ps : List Str} {sp : Sp} {E : XK} {o i : Expr} {pos : Pos} {to ti : TE}
theorem pe_ixOwn (ho : PE X o to) (hi : PE X i ti) (hs : PySem.W.findIn X.K (.ref C) "__getitem__" = some (some (.ref f))) (hfn : PySem.W.fnIn X.K f = true) (hf : PySem.W.isFn X.K (.ref f) = true) (F : FnOk X.prog X.w X.K X.mg X.base CX k f fd ps sp) (hr : Room (k + 1) X.A) (hb : Binds X.K fd ps []) (hx : Passes CX X E)
    (hsl : ∀ x j, subscripted i true (.ref x) j = runValue (.builtin "lifetime.subscript" ⟨[.ref x, j], []⟩) := by intro _ _; with_unfolding_all rfl) : PE X (.Subscript o i pos) (tIxOwn C sp E to ti) := by
  refine ⟨fun pins s σ H Q I h => ?_⟩
  refine Subscript_ (thn (ho.run pins s σ H _ I h) fun u s1 z1 => ?_)
  obtain ⟨x, H1, I1, rx, q1⟩ := z1
  refine thn (hi.run pins s1 σ H1 _ I1 q1) fun v s2 z2 => ?_
  obtain ⟨y, H2, I2, ry, a, dx, fs, rfl, ea, q⟩ := z2
  obtain rfl : u = Value.ref a := rx
  obtain ⟨mA, O, _, _, _, _⟩ := ins_get I2.hok ea
  obtain ⟨od, J, _⟩ := O.look
  obtain ⟨m, hF⟩ := I2.fr
  exact PySem.W.sub_K hF I2.ok.mod.kin J hs hfn hf (run_in1 (vs := [.ref a, y]) (us := [.ref a, v]) F hr hb hx I2 (.cons rfl (.cons ry .nil)) q) (hsl a v)
end
end L2

set_option Elab.async false
set_option linter.all false
set_option maxRecDepth 100000
set_option maxHeartbeats 4000000
/-! max(list of ints, default=d). -/
namespace L2
open PySem PySem.Spec PyProof.Rows PySem.W
theorem holdAll_ints {h : Heap} : ∀ {vs : List Value} {ns : List Int}, IntsAre vs ns → HoldAll h vs ns
  | _, _, .nil => ⟨_, .nil⟩
  | _, _, .cons n t r => by
    obtain ⟨as, q⟩ := holdAll_ints (h := h) r
    exact ⟨_, .cons (.int n t) q⟩
theorem maxOf_int (x : Int) : ∀ (xs : List Int), (maxOf x xs ∈ x :: xs) ∧ ∀ y ∈ x :: xs, y ≤ maxOf x xs := by
  intro xs
  induction xs generalizing x with
  | nil => exact ⟨List.mem_cons_self .., fun y hy => by rw [List.mem_singleton.mp hy]; exact Int.le_refl _⟩
  | cons z xs ih =>
    show (maxOf (if DatumOrd.lt x z = true then z else x) xs ∈ x :: z :: xs) ∧ ∀ y ∈ x :: z :: xs, y ≤ maxOf (if DatumOrd.lt x z = true then z else x) xs
    have e : DatumOrd.lt x z = decide (x < z) := rfl
    rw [e]
    by_cases c : x < z
    · rw [decide_eq_true c, if_pos rfl]
      obtain ⟨h1, h2⟩ := ih z
      refine ⟨List.mem_cons_of_mem _ h1, fun y hy => ?_⟩
      rcases List.mem_cons.mp hy with rfl | hy
      · exact Int.le_trans (Int.le_of_lt c) (h2 z (List.mem_cons_self ..))
      · exact h2 y hy
    · rw [decide_eq_false c, if_neg (by decide)]
      obtain ⟨h1, h2⟩ := ih x
      refine ⟨?_, fun y hy => ?_⟩
      · rcases List.mem_cons.mp h1 with h | h
        · rw [h]
          exact List.mem_cons_self ..
        · exact List.mem_cons_of_mem _ (List.mem_cons_of_mem _ h)
      · rcases List.mem_cons.mp hy with rfl | hy
        · exact h2 y (List.mem_cons_self ..)
        rcases List.mem_cons.mp hy with rfl | hy
        · exact Int.le_trans (by omega) (h2 x (List.mem_cons_self ..))
        · exact h2 y (List.mem_cons_of_mem _ hy)
def rMaxDef (K : PySem.W.Frag) : List V → List V → Hp → VK → Prop := fun xs zs H Q => ∃ (a : Addr) (ns : List Int) (d : Int), xs = [.ref a] ∧ zs = [.int d] ∧ SqL K H a (ns.map V.int) ∧ (ns = [] → Q (.int d) H) ∧ ∀ m, m ∈ ns → (∀ y ∈ ns, y ≤ m) → Q (.int m) H
theorem cr_maxDef {X : Cx} (hc : X.calm = true) (hu : X.A.units + 1 < cLine) : CallRK X (.builtin "max") ["default"] (rMaxDef X.K) := by
  intro pins s σ H xs zs us ws Q I r rz h
  obtain ⟨a, ns, d, rfl, rfl, hs, q0, q⟩ := h
  obtain ⟨its, rv, hl, _⟩ := I.list hs
  rw [Vals.ref1 r]
  obtain ⟨u, rfl, ru⟩ := rz.one
  obtain ⟨t, rfl⟩ := ru
  have hh : HoldAll s.heap its.toArray.toList ns := holdAll_ints (by simpa using rv.ints)
  refine max_list_datum_default (I.ok.hd hc) hl.isList hh hu (fun e h' tk k => ⟨.int d, H, I.kept k, ⟨_, rfl⟩, q0 e⟩) fun y ys i v h' tk e hi hv k => ?_
  obtain ⟨as, rd⟩ := hv
  obtain ⟨h1, h2⟩ := maxOf_int y ys
  rw [← e] at h1 h2
  generalize maxOf y ys = m at rd h1 h2
  cases (show Reads h' v (.int m) as from rd)
  exact ⟨.int m, H, I.kept k, ⟨_, rfl⟩, q m h1 h2⟩
end L2

set_option Elab.async false
set_option linter.all false
set_option maxRecDepth 100000
set_option maxHeartbeats 4000000
/-! list(d.values()), d with ints or texts as keys. -/
namespace L2
open PySem PySem.Spec PyProof.Rows
section
variable {X : Cx}
def rValuesK : V → List V → Hp → VK → Prop := fun x xs H Q => ∃ (a : Addr) (kvs : List (Key × V)), x = .ref a ∧ xs = [] ∧ H a = some (.dK kvs) ∧ ∀ p, H p = none → Q (.ref p) (upd H p (valsO p a))
theorem mt_valuesK : MtR X "dict.values" rValuesK := by
  intro pins s σ H x xs v us Q I rx rxs h
  obtain ⟨a, kvs, rfl, rfl, ha, q⟩ := h
  cases rx
  cases rxs
  obtain ⟨low, es, ep, hr, hsz, z, _⟩ := I.rawK ha
  refine call_meetsIn PySem.F.slot_dict_values hr.typeIs PySem.F.entry_dict_values (PySem.F.args_dict_values_1 _) (meets_dict_values_raw a low) ⟨⟨es, ep, hr⟩, ?_⟩
  have e : (s.heap.push { cls := .type "dict_values", data := .fields #[.ref a] }).get? s.heap.objs.size = some { cls := .type "dict_values", data := .fields #[.ref a] } := Heap.get?_push_size _ rfl
  refine ⟨.ref s.heap.objs.size, upd H s.heap.objs.size (valsO s.heap.objs.size a), I.laid (t' := s.toks) (fun b u e => Heap.get?_push_of_some _ e) (Nat.le_refl _) ?_, rfl, q _ (I.hok.fresh (Nat.le_refl _))⟩
  exact ⟨⟨_, e, rfl, rfl⟩, ⟨_, e⟩, fun h1 h2 x k => let ⟨o, ho, r⟩ := x; ⟨o, k o ho, r⟩⟩
theorem call_list_valsK (hc : X.calm = true) : CallR X (.type "list") (fun xs H Q => ∃ p d kvs, xs = [V.ref p] ∧ H p = some (valsO p d) ∧ H d = some (.dK kvs) ∧ ∀ l, H l = none → Q (.ref l) (upd H l (.lst (kvs.map (·.2))))) := by
  intro pins s σ H xs us Q I r h
  obtain ⟨p, d, kvs, rfl, hp, hd, q⟩ := h
  obtain ⟨u, rfl, rx⟩ := r.one
  cases rx
  obtain ⟨low, es, ep, hr, hsz, z, ent⟩ := I.rawK hd
  have hv : s.heap.IsValuesView p d := (show ObjOk X.prog X.w H s.heap p (valsO p d) from I.hok p _ hp).1
  refine PySem.W.kdl_call (KdlSrc.rawValues (r := p) (d := d) (es := es) (ep := ep)) (I.ok.hd hc) ⟨hv, hr⟩ (by omega) fun h' tk acc' c' kp e it => ?_
  have len : acc'.toList.length = kvs.length := by rw [Array.length_toList, it.1, hsz]
  have rv : Vals (kvs.map (·.2)) acc'.toList := vals_at (by rw [List.length_map, len]) fun j x u hx hu => by
    rw [List.getElem?_map] at hx
    cases hj : kvs[j]? with
    | none =>
      rw [hj] at hx
      cases hx
    | some kv =>
      rw [hj] at hx
      obtain rfl := Option.some.inj hx
      obtain ⟨hi, _, r2⟩ := ent j kv.1 kv.2 hj
      obtain ⟨hi2, e2⟩ := it.2 j u (by rw [← Array.getElem?_toList]; exact hu)
      rw [e2]
      exact r2
  refine ⟨.ref s.heap.objs.size, _, I.laid (t' := tk) (o := .lst (kvs.map (·.2))) kp (Nat.le_refl _) ?_, rfl, q _ (I.hok.fresh (Nat.le_refl _))⟩
  exact ⟨by rw [List.length_map]; exact z, acc'.toList, c', rv, by rw [Array.toArray_toList]; exact e⟩
end
end L2

set_option Elab.async false
set_option linter.all false
set_option maxRecDepth 100000
set_option maxHeartbeats 4000000
/-! [x for x in xs if ..] of a list of words. -/
namespace L2
open PySem PySem.Spec PyProof.Rows
theorem nest_filter {J : It} {n : Nat} {Gd : Hp → Prop} {Y : Nat → Hp → V → Hp → Prop} (w : Walk J n Gd Y) {ms : List Str} (hn : n = ms.length) (h : ms.length ≤ 64) {HL : Hp} {D : Addr} (nD : HL D = none)
    (hY : ∀ i x G G', Y i G x G' → G' = G ∧ (ms.map V.str)[i]? = some x) (hG : ∀ G, Same HL G → Gd G) {B : V → Hp → (Hp → Prop) → Prop} (good : Str → Bool)
    (hB : ∀ b G Nx, b ∈ ms → Same HL G → (good b = true → ∀ G', Same G G' → ∃ acc, G' D = some (.lst acc) ∧ acc.length < sizeLine ∧ Nx (upd G' D (.lst (acc ++ [.str b])))) → (good b = false → ∀ G', Same G G' → Nx G') → B (.str b) G Nx)
    {Qd : Hp → Prop} (hd : ∀ G, Same HL G → G D = some (.lst ((ms.filter good).map V.str)) → Qd G) :
    ∃ W : Nat → Nat → Hp → Prop, (∃ m, W 0 m (upd HL D (.lst []))) ∧ ∀ i m H, W i m H → (J.stop i H ∧ Qd H) ∨ (J.go i H ∧ ∃ Nx : Hp → Prop, (∀ H', Nx H' → ∃ m', m' < m ∧ W (i + 1) m' H') ∧ ∀ x H', J.yld i H x H' → B x H' Nx) := by
  refine nest_it w (fun i G => Same HL G ∧ G D = some (.lst (((ms.take i).filter good).map V.str))) ⟨same_new nD, upd_same⟩ (fun i G _ h => hG _ h.1) ?_ ?_
  · rintro i x G G' hi ⟨sG, hD⟩ y
    obtain ⟨rfl, hx⟩ := hY i x G G' y
    rw [List.getElem?_map] at hx
    obtain ⟨b, hb, rfl⟩ := Option.map_eq_some_iff.mp hx
    have tk : (ms.take (i + 1)).filter good = ((ms.take i).filter good) ++ ([b].filter good) := by
      rw [List.take_add_one, hb, List.filter_append]
      rfl
    refine hB b _ _ (List.mem_of_getElem? hb) sG (fun gb G2 s2 => ⟨_, s2 _ _ hD, ?_, fun c o e => ?_, ?_⟩) fun gb G2 s2 => ⟨sG.trans s2, ?_⟩
    · rw [List.length_map]
      refine Nat.lt_of_le_of_lt (List.length_filter_le _ _) (small1000 ?_)
      rw [List.length_take]
      omega
    · rw [upd_ne (ne_of_none e nD)]
      exact s2 _ _ (sG _ _ e)
    · rw [upd_same, tk, List.filter_cons_of_pos gb, List.filter_nil, List.map_append]
      rfl
    · rw [tk, List.filter_cons_of_neg (by rw [gb]; decide), List.filter_nil, List.append_nil]
      exact s2 _ _ hD
  · rintro G ⟨sG, hD⟩
    rw [hn, List.take_length] at hD
    exact hd G sG hD
end L2

set_option Elab.async false
set_option linter.all false
set_option maxRecDepth 100000
set_option maxHeartbeats 4000000
/-! Marks drawn pair by pair; rotated people; sublists. -/
namespace L2
open PySem PySem.Spec PyProof.Rows
theorem isPairT_but {G G' : Hp} {a u : Addr} {kv : List Key × V} (P : Pool G a) (b : But a G G') (h : IsPairT G u kv) : IsPairT G' u kv := by
  obtain ⟨q, h1, h2⟩ := h
  exact ⟨q, b _ _ (P.other h1 fun _ z => nomatch z) h1, b _ _ (P.other h2 fun _ z => nomatch z) h2⟩
theorem nest_draws {J : It} {n : Nat} {Gd : Hp → Prop} {Y : Nat → Hp → V → Hp → Prop} (w : Walk J n Gd Y) {ps : List (Str × Str)} (hn : n = ps.length) (h64 : ps.length ≤ 64) (ndp : ps.Nodup) {HL : Hp} {D a : Addr} {m : Int} (nD : HL D = none) (P : Pool HL a)
    (hY : ∀ i x G G', But a HL G → Y i G x G' → G' = G ∧ ∃ p t, ps[i]? = some p ∧ x = .ref t ∧ G t = some (.tup [.str p.1, .str p.2])) (hG : ∀ G, But a HL G → Gd G) {B : V → Hp → (Hp → Prop) → Prop}
    (hB : ∀ p t G Nx, p ∈ ps → Pool G a → But a HL G → G t = some (.tup [.str p.1, .str p.2]) → (∀ (r : Int) u G', 0 ≤ r → r ≤ m → Pool G' a → But a G G' → G' u = some (.tup [.ref t, .int r]) → ∃ acc, G' D = some (.lst acc) ∧ acc.length < sizeLine ∧ Nx (upd G' D (.lst (acc ++ [.ref u])))) → B (.ref t) G Nx)
    {Qd : Hp → Prop} (hd : ∀ (G : Hp) (us : List Addr) (g : Str × Str → V), But a HL G → Pool G a → G D = some (.lst (us.map V.ref)) → (∀ p ∈ ps, ∃ i : Int, g p = .int i ∧ 0 ≤ i ∧ i ≤ m) → Paired (IsPairT G) us (ps.map fun p => (key2 p, g p)) → Qd G) :
    ∃ W : Nat → Nat → Hp → Prop, (∃ m, W 0 m (upd HL D (.lst []))) ∧ ∀ i m H, W i m H → (J.stop i H ∧ Qd H) ∨ (J.go i H ∧ ∃ Nx : Hp → Prop, (∀ H', Nx H' → ∃ m', m' < m ∧ W (i + 1) m' H') ∧ ∀ x H', J.yld i H x H' → B x H' Nx) := by
  have nDa : D ≠ a := fun e => by
    obtain ⟨g, q, ha, _⟩ := P
    rw [e, ha] at nD
    cases nD
  refine nest_it w (fun i G => But a HL G ∧ Pool G a ∧ ∃ (us : List Addr) (g : Str × Str → V), G D = some (.lst (us.map V.ref)) ∧ Paired (IsPairT G) us ((ps.take i).map fun p => (key2 p, g p)) ∧ ∀ p ∈ ps.take i, ∃ i : Int, g p = .int i ∧ 0 ≤ i ∧ i ≤ m) ⟨But.of_same (same_new nD), P.same (same_new nD), [], fun _ => .non, upd_same, .nil, fun p hp => by simp at hp⟩ (fun i G _ h => hG _ h.1) ?_ ?_
  · rintro i x G G' hi ⟨bG, PG, us, g, hD, hus, hg⟩ y
    obtain ⟨rfl, p, t, hp, rfl, ht⟩ := hY i x G G' bG y
    have np : p ∉ ps.take i := fun z => by
      obtain ⟨hi2, e⟩ := List.getElem?_eq_some_iff.mp hp
      have e2 : ps = ps.take i ++ p :: ps.drop (i + 1) := by
        rw [← e, ← List.drop_eq_getElem_cons hi2, List.take_append_drop]
      rw [e2] at ndp
      exact (List.nodup_append.mp ndp).2.2 p z p (List.mem_cons_self ..) rfl
    refine hB p t _ _ (List.mem_of_getElem? hp) PG bG ht fun r u G2 h0 h1 P2 b2 hu => ⟨_, b2 _ _ nDa hD, ?_, fun c o nc e => ?_, ?_, us ++ [u], withF g p (.int r), ?_, ?_, fun q hq => ?_⟩
    · rw [List.length_map, hus.length, List.length_map, List.length_take]
      exact Nat.lt_of_le_of_lt (Nat.min_le_left _ _) (small1000 (by omega))
    · rw [upd_ne (ne_of_none e nD)]
      exact b2 _ _ nc (bG _ _ nc e)
    · obtain ⟨g2, q2, ha, hq⟩ := P2
      exact ⟨g2, q2, by rw [upd_ne nDa.symm]; exact ha, hq⟩
    · rw [upd_same, List.map_append]
      rfl
    · have ht2 := b2 _ _ (PG.other ht fun _ z => nomatch z) ht
      rw [List.take_add_one, hp, List.map_append]
      refine Paired.snoc ?_ ?_
      · have e : ((ps.take i).map fun p' => (key2 p', withF g p (.int r) p')) = (ps.take i).map fun p => (key2 p, g p) := List.map_congr_left fun q hq => by
          show (key2 q, withF g p (.int r) q) = (key2 q, g q)
          unfold withF
          rw [if_neg (fun (z : q = p) => np (z ▸ hq))]
        rw [e]
        exact Paired.mono (fun _ _ z => isPairT_upd (b2 _ _ nDa hD) (isPairT_but PG b2 z)) hus
      · refine isPairT_upd (b2 _ _ nDa hD) ⟨t, ?_, ht2⟩
        show G2 u = some (.tup [.ref t, withF g p (.int r) p])
        unfold withF
        rw [if_pos rfl]
        exact hu
    · unfold withF
      rw [List.take_add_one, hp] at hq
      rcases List.mem_append.mp hq with hq | hq
      · rw [if_neg (fun (z : q = p) => np (z ▸ hq))]
        exact hg q hq
      · have e : q = p := List.mem_singleton.mp hq
        rw [if_pos e]
        exact ⟨r, rfl, h0, h1⟩
  · rintro G ⟨bG, PG, us, g, hD, hus, hg⟩
    rw [hn, List.take_length] at hus hg
    exact hd G us g bG PG hD hg hus
def names6 : List Str := ["ann", "bo", "cy", "di", "ed", "flo"]
theorem names6_ok : ∀ z ∈ names6, isW (.str z) = true ∧ PyData.strOk z = true ∧ z.length ≤ 1000 := by decide +kernel
theorem names6_nd : names6.Nodup := by decide +kernel
/-- people drawn from names6 -/
structure Rot (zs : List Str) : Prop where
  mem : ∀ z ∈ zs, z ∈ names6
  nd : zs.Nodup
  one : 1 ≤ zs.length
  most : zs.length ≤ 6
theorem Rot.people {zs : List Str} (r : Rot zs) : peopleB (zs.map V.str) = true := by
  show ((decide (1 ≤ (zs.map V.str).length) && decide ((zs.map V.str).length ≤ 8)) && ((zs.map V.str).all isW && decide (zs.map V.str).Nodup)) = true
  have h1 : (zs.map V.str).all isW = true := by
    rw [List.all_map]
    exact List.all_eq_true.mpr fun z hz => (names6_ok z (r.mem z hz)).1
  have h2 := r.one
  have h3 := r.most
  rw [h1, List.length_map, decide_eq_true h2, decide_eq_true (show zs.length ≤ 8 by omega), decide_eq_true ((nodup_map_inj (f := V.str) (fun _ _ e => V.str.inj e)).mpr r.nd)]
  rfl
theorem Rot.items {K : PySem.W.Frag} {H : Hp} {zs : List Str} (r : Rot zs) : ∀ x ∈ zs.map V.str, ItemOk K H x := fun x hx => by
  obtain ⟨z, hz, rfl⟩ := List.mem_map.mp hx
  exact ⟨⟨"str", .base (.str _), by decide⟩, fun z' e => by cases e; exact (names6_ok z (r.mem z hz)).2.2⟩
theorem Rot.strOk {zs : List Str} (r : Rot zs) : ∀ z ∈ zs, PyData.strOk z = true := fun z hz => (names6_ok z (r.mem z hz)).2.1
theorem rot_of {k at_ : Nat} (h1 : 1 ≤ k) (h2 : k ≤ 6) : Rot ((names6.take k).drop at_ ++ (names6.take k).take at_) := by
  have p : ((names6.take k).drop at_ ++ (names6.take k).take at_).Perm (names6.take k) := by
    refine List.perm_append_comm.trans ?_
    rw [List.take_append_drop]
  have l : (names6.take k).length = k := by
    rw [List.length_take]
    show min k 6 = k
    omega
  refine ⟨fun z hz => List.mem_of_mem_take (p.mem_iff.mp hz), p.nodup_iff.mpr (names6_nd.sublist (List.take_sublist _ _)), by rw [p.length_eq, l]; exact h1, by rw [p.length_eq, l]; exact h2⟩
theorem sub_filter : ∀ {r zs : List Str}, r.Sublist zs → zs.Nodup → (zs.filter fun b => decide (b ∈ r)) = r := fun {r zs} h => by
  induction h with
  | slnil => intro _; rfl
  | cons a h ih =>
    rename_i l1 l2
    intro nd
    rw [List.nodup_cons] at nd
    rw [List.filter_cons_of_neg (by simpa using fun z => nd.1 (h.subset z))]
    exact ih nd.2
  | cons_cons a h ih =>
    rename_i l1 l2
    intro nd
    rw [List.nodup_cons] at nd
    rw [List.filter_cons_of_pos (by simp)]
    congr 1
    rw [← ih nd.2] 
    refine List.filter_congr fun b hb => ?_
    rw [ih nd.2]
    have : b ≠ a := fun e => nd.1 (e ▸ hb)
    simp [this]
end L2

set_option Elab.async false
set_option linter.all false
set_option maxRecDepth 100000
set_option maxHeartbeats 4000000
/-! x == d, x an instance with an own __eq__, d a dict whose keys are tuples. -/
namespace L2
open PySem PySem.Spec PyProof.Rows
theorem looks_dT {X : Cx} {pins : List (Addr × Obj)} {σ : St} {H : Hp} {s : Shared} {b : Addr} {kvs : List (List Key × V)} (I : Inv X pins σ H s) (h : H b = some (.dT kvs)) : PySem.W.Looks (model X.prog X.w) s.heap (typeOf (.ref b)) (.type "dict") := by
  obtain ⟨_, es, ep, ⟨o, ho, hx, _⟩, _⟩ := I.rawT h
  intro A Q E s2 k q
  refine wpAny_typeOf_ref (k _ _ ho) ?_
  rw [hx.1]
  exact q
def rEqOwnD (C : Addr) (sp : Sp) (E : XK) : R2 := fun x y H Q => ∃ (a dx b : Addr) (fs : List (Str × V)) (kvs : List (List Key × V)), x = .ref a ∧ y = .ref b ∧ H a = some (.ins C dx fs) ∧ H b = some (.dT kvs) ∧ sp [.ref a, .ref b] H (fun v H2 => ∃ c, v = .bl c ∧ Q (.bl c) H2) E
section
variable {X : Cx} {CX : CXT} {k : Nat} {C f : Addr} {fd : FuncData} {ps : List Str} {sp : Sp} {E : XK}
theorem op_eqOwnD (hs : PySem.W.findIn X.K (.ref C) "__eq__" = some (some (.ref f))) (hf : PySem.W.isFn X.K (.ref f) = true) (nf : PySem.W.notFirst X.K C (.type "dict") = true) (F : FnOk X.prog X.w X.K X.mg X.base CX k f fd ps sp) (hr : Room k X.A) (hb : Binds X.K fd ps []) (hx : Passes CX X E) :
    OpR X (compareOp .Eq) (rEqOwnD C sp E) := by
  intro pins s σ H x y v u Q I rx ry h
  obtain ⟨a, dx, b, fs, kvs, rfl, rfl, ea, eb, q⟩ := h
  cases rx
  cases ry
  obtain ⟨mA, O, _, _, _, _⟩ := ins_get I.hok ea
  obtain ⟨od, J, _⟩ := O.look
  obtain ⟨m, hF⟩ := I.fr
  refine PySem.W.cmp_K (op := .Eq) (tb := .type "dict") hr.units0 hF I.ok.mod.kin J (looks_dT I eb) nf hs hf ?_
  refine wpAny_mono (run_fn (ds := []) (dvs := []) (vs := [.ref a, .ref b]) (us := [.ref a, .ref b]) F hr hb .nil hx I (.cons rfl (.cons rfl .nil)) q) (fun w' s2 z => ?_) fun _ _ z => z
  obtain ⟨w2, H2, I2, rw', c, rfl, q2⟩ := z
  cases rw'
  exact ⟨.bl c, H2, I2, rfl, q2⟩
end
/-! the keys of a sheet, the other way round -/
theorem paired_rev {α β : Type} {R : α → β → Prop} : ∀ {xs : List α} {ys : List β}, Paired R xs ys → Paired R xs.reverse ys.reverse
  | _, _, .nil => .nil
  | _, _, .cons a r => by
    rw [List.reverse_cons, List.reverse_cons]
    exact Paired.snoc (paired_rev r) a
theorem paired_at {α β : Type} {R : α → β → Prop} : ∀ {xs : List α} {ys : List β} {i : Nat} {y : β}, Paired R xs ys → ys[i]? = some y → ∃ x, xs[i]? = some x ∧ R x y
  | _, _, i, y, .nil, h => by simp at h
  | _, _, 0, y, .cons a r, h => by
    cases h
    exact ⟨_, rfl, a⟩
  | _, _, i + 1, y, .cons a r, h => paired_at (i := i) r h
end L2

set_option Elab.async false
set_option linter.all false
set_option maxRecDepth 100000
set_option maxHeartbeats 4000000
namespace L2
open PySem PySem.Spec PyProof.Rows
theorem keys_rev {H G : Hp} {zs : List Str} {f : Str × Str → V} {bs : List Addr} (hbs : IsKeys H (sheetOf zs f) bs) (s : Same H G) {i : Nat} {x : V} (h : (bs.map V.ref).reverse[i]? = some x) : ∃ p t, (pairsOf zs).reverse[i]? = some p ∧ x = .ref t ∧ G t = some (.tup [.str p.1, .str p.2]) := by
  rw [← List.map_reverse, List.getElem?_map] at h
  obtain ⟨b, hb, rfl⟩ := Option.map_eq_some_iff.mp h
  obtain ⟨kv, hkv, hh⟩ := paired_at (paired_rev hbs) hb
  unfold sheetOf at hkv
  rw [← List.map_reverse, List.getElem?_map] at hkv
  obtain ⟨p, hp, rfl⟩ := Option.map_eq_some_iff.mp hkv
  exact ⟨p, b, hp, rfl, s _ _ hh⟩
theorem notOwn_new {H G : Hp} {C CP x sd : Addr} {zs : List Str} {m : Int} {f : Str × Str → V} (h : PageOf H C CP x zs m f) (n : H sd = none) (s : Same H G) : NotOwn G CP x sd := fun dx2 c2 d2 e => by
  obtain ⟨dx, c, d, hx, _, hd⟩ := h
  rw [s _ _ hx] at e
  cases e
  exact ne_of_none hd n
theorem notOwn_keep {H G : Hp} {C CP x sd : Addr} {zs : List Str} {m : Int} {f : Str × Str → V} (h : PageOf H C CP x zs m f) (k : ∀ o, H x = some o → G x = some o) (n : NotOwn H CP x sd) : NotOwn G CP x sd := fun dx2 c2 d2 e => by
  obtain ⟨dx, c, d, hx, _, _⟩ := h
  rw [k _ hx] at e
  cases e
  exact n _ _ _ hx
theorem same_fresh {H G : Hp} {p : Addr} {o : HO} (s : Same H G) (n : H p = none) : Same H (upd G p o) := fun c u e => by
  rw [upd_ne (ne_of_none e n)]
  exact s c u e
theorem mkOk_more {m : Int} {v : V} (h : mkOk m v = true) : mkOk (m + 1) v = true := by
  cases v with
  | non => rfl
  | int i =>
    have e : (decide (0 ≤ i) && decide (i ≤ m)) = true := by
      have : (decide (V.int i = V.non) || (decide (0 ≤ i) && decide (i ≤ m))) = true := h
      simpa using this
    rw [Bool.and_eq_true] at e
    have e1 := of_decide_eq_true e.1
    have e2 := of_decide_eq_true e.2
    show (decide (V.int i = V.non) || (decide (0 ≤ i) && decide (i ≤ m + 1))) = true
    rw [decide_eq_true e1, decide_eq_true (show i ≤ m + 1 by omega)]
    simp
  | _ => cases h
theorem plan_merge {l : Addr} {m : Int} : mergeK [] (planK l m) = planK l m := by
  rw [merge_new (κ := []) (by show ([Sum.inr "people", Sum.inr "most"] : List Key).Nodup; decide +kernel), List.nil_append]
theorem nobody_word : ("nobody" : Str) ∉ names8 ∧ PyData.strOk "nobody" = true ∧ peopleB [V.str "nobody"] = true ∧ ("nobody" : Str).length ≤ 1000 := by decide +kernel
end L2

set_option Elab.async false
set_option linter.all false
set_option maxRecDepth 100000
set_option maxHeartbeats 4000000
/-! == and != of two dicts with ints or texts as keys and the same data as values. -/
namespace L2
open PySem PySem.Spec PyProof.Rows
/-- the same flat value, or objects of the same data -/
def EqDt (K : PySem.W.Frag) (H : Hp) (x y : V) : Prop := (x = y ∧ flatB x = true) ∨ ∃ a b d e, x = .ref a ∧ y = .ref b ∧ Dp K H x d ∧ Dp K H y e ∧ SeqAt.shaped d = true ∧ SeqAt.shaped e = true ∧ PyData.eqv d e = true
def rSameK (K : PySem.W.Frag) (neg : Bool) : R2 := fun x y H Q => ∃ a b ks ls, x = .ref a ∧ y = .ref b ∧ H a = some (.dK ks) ∧ H b = some (.dK ls) ∧ ks.length = ls.length ∧ (∀ p ∈ ks, ∃ u, valV ls p.1 = some u ∧ EqDt K H p.2 u) ∧ Q (.bl (!neg)) H
section
variable {X : Cx}
theorem eqDt_run {pins : List (Addr × Obj)} {σ : St} {H : Hp} {s : Shared} (I : Inv X pins σ H s) {A : Around} (hu : A.units + 64 < cLine) (x y : V) (v u : Value) (h : EqDt X.K H x y) (rx : RelV x v) (ry : RelV y u) : SeqAt.EqP X.prog X.w A s v u true := by
  rcases h with ⟨rfl, f⟩ | ⟨a, b, d, e, rfl, rfl, hd, he, sd, se, q⟩
  · exact (eqAt_same rx ry f).eqP
  · obtain ⟨as, r1⟩ := Dp.reads I d _ v hd rx
    obtain ⟨bs, r2⟩ := Dp.reads I e _ u he ry
    cases (show v = Value.ref a from rx)
    cases (show u = Value.ref b from ry)
    by_cases e : a = b
    · subst e
      exact (SeqAt.EqAt.same _).eqP
    · refine SeqAt.eqP_refs e fun E Q z => ?_
      exact SeqAt.compareEq_shaped r1 r2 sd se hu (by rw [q]; exact z)
theorem op_sameK (hu : X.A.units + 66 < cLine) : OpR X (compareOp .Eq) (rSameK X.K false) := by
  intro pins s σ H x y v u Q I rx ry h
  obtain ⟨a, b, ks, ls, rfl, rfl, ha, hb, hl, hp, q⟩ := h
  cases (show v = Value.ref a from rx)
  cases (show u = Value.ref b from ry)
  obtain ⟨_, ya, va, ra, da⟩ := (show ObjOk X.prog X.w H s.heap a (.dK ks) from I.hok a _ ha)
  obtain ⟨_, yb, vb, rb, db⟩ := (show ObjOk X.prog X.w H s.heap b (.dK ls) from I.hok b _ hb)
  refine PySem.W.rcP_dicts (knd := mixKind X.prog X.w) (r := true) ya yb da db (by omega) (fun _ => hits_run (fun x y v u h r1 r2 => eqDt_run I (by show X.A.units + 1 + 64 < cLine; omega) x y v u h r1 r2) rb ra hp) _ _ ?_
  have e : va.length = vb.length := by rw [← ra.length, ← rb.length]; exact hl
  rw [show (va.length == vb.length && true) = true from by rw [e]; simp]
  exact ⟨.bl true, H, I, rfl, q⟩
theorem op_notSameK (hu : X.A.units + 66 < cLine) : OpR X (compareOp .NotEq) (rSameK X.K true) := by
  intro pins s σ H x y v u Q I rx ry h
  obtain ⟨a, b, ks, ls, rfl, rfl, ha, hb, hl, hp, q⟩ := h
  cases (show v = Value.ref a from rx)
  cases (show u = Value.ref b from ry)
  obtain ⟨_, ya, va, ra, da⟩ := (show ObjOk X.prog X.w H s.heap a (.dK ks) from I.hok a _ ha)
  obtain ⟨_, yb, vb, rb, db⟩ := (show ObjOk X.prog X.w H s.heap b (.dK ls) from I.hok b _ hb)
  have e : va.length = vb.length := by rw [← ra.length, ← rb.length]; exact hl
  refine wpAny_richCompare_same_room (op := .NotEq) da.typeIs db.typeIs PySem.F.slot_dict_ne (wpAny_call_entry PySem.F.slot_dict_ne da.typeIs PySem.F.entry_dict_ne ?_ (PySem.F.args_dict_ne_2 _ _)) (by omega)
  refine wpAny_bind ?_
  unfold Builtin.Dict.dictSlotArgs
  refine wpAny_bind (wpAny_notOrdered_dict da.typeIs ?_)
  show wpAny _ _ (pure (Value.ref a, Value.ref b)) _ _ s
  refine wpAny_pure (wpAny_bind (wpAny_isInstance (T := "dict") db.typeIs PySem.F.sub_dict_dict ?_))
  simp only [Bool.not_true, Bool.false_eq_true, if_false]
  refine wpAny_bind (wpAny_pure (wpAny_bind (wpAny_pure (wpAny_bind (PySem.W.samePairsP (r := true) ya yb da db (fun _ => hits_run (fun x y v u h r1 r2 => eqDt_run I (by show X.A.units + 1 + 64 < cLine; omega) x y v u h r1 r2) rb ra hp) ?_)))))
  rw [show (va.length == vb.length && true) = true from by rw [e]; simp]
  exact wpAny_pure ⟨_, rfl, by simp, .bl false, H, I, rfl, q⟩
end
end L2

set_option Elab.async false
set_option linter.all false
set_option maxRecDepth 100000
set_option maxHeartbeats 4000000
/-! zip of a list with a tuple. -/
namespace L2
open PySem PySem.Spec PyProof.Rows
/-- the list at a and the tuple at b, item by item, in new pairs -/
def ItzM (K : PySem.W.Frag) (a b : Addr) : It where
  go := fun i H => ∃ (xs ys : List V) (x y : V), SqL K H a xs ∧ SqT K H b ys ∧ xs[i]? = some x ∧ ys[i]? = some y
  yld := fun i H v H' => ∃ T x y, v = .ref T ∧ H T = none ∧ H' = upd H T (.tup [x, y]) ∧ (∀ l, SqL K H a l → l[i]? = some x) ∧ ∀ l, SqT K H b l → l[i]? = some y
  stop := fun i H => ∃ xs ys : List V, SqL K H a xs ∧ SqT K H b ys ∧ i ≤ xs.length ∧ i ≤ ys.length ∧ (i = xs.length ∨ i = ys.length)
def zipFp (z TI TO i1 i2 : Addr) : List Addr := [z, TI, TO, i1, i2]
theorem zipFp_mem {z TI TO i1 i2 c : Addr} : c ∈ zipFp z TI TO i1 i2 ↔ (c = z ∨ c = TI ∨ c = TO ∨ c = i1 ∨ c = i2) := by
  unfold zipFp
  simp
/-- how the cells of such a zip stand at turn i -/
structure ZipAt (z TI TO i1 i2 a b : Addr) (i : Nat) (h : Heap) : Prop where
  zip : IsZip h z TI TO .none
  ti : IsTupOf2 h TI (.ref i1) (.ref i2)
  tob : ∃ x y, IsTupOf2 h TO x y
  one : h.IsListIter i1 a i
  two : h.IsTupleIter i2 b i
theorem zip_parts {z TI TO i1 i2 a b : Addr} (S : ZipSep2 z TI TO i1 i2 [i1, a] [i2, b]) : a ≠ z ∧ a ≠ TO ∧ b ≠ z ∧ b ≠ TO ∧ i1 ≠ i2 ∧ a ≠ i2 ∧ b ≠ i1 ∧ i1 ≠ z ∧ i2 ≠ z ∧ i1 ≠ TO ∧ i2 ≠ TO := by
  have h1 := S.zf1
  have h2 := S.zf2
  have h3 := S.Tf1
  have h4 := S.Tf2
  have h5 := S.sep1_2
  have h6 := S.sep2_1
  simp only [List.mem_cons, List.not_mem_nil, or_false, not_or] at h1 h2 h3 h4 h5 h6
  exact ⟨fun e => h1.2 e.symm, fun e => h3.2 e.symm, fun e => h2.2 e.symm, fun e => h4.2 e.symm, h5.1, fun e => h6.2 e.symm, fun e => h5.2 e.symm, fun e => h1.1 e.symm, fun e => h2.1 e.symm, fun e => h3.1 e.symm, fun e => h4.1 e.symm⟩
theorem turn_zipM {P : Program} {w : World} {K : PySem.W.Frag} {elts : List Expr} {kk : Nat} {tpos : Pos} {a b z TI TO i1 i2 : Addr} (ha : a ≠ i1) (hb : b ≠ i2) (S : ZipSep2 z TI TO i1 i2 [i1, a] [i2, b]) :
    Turn P w K (.Tuple elts kk tpos) (ItzM K a b) (zipFp z TI TO i1 i2) z (ZipAt z TI TO i1 i2 a b) where
  mem := by simp [zipFp]
  obj := fun i h st c hc => by
    obtain ⟨hz, hTI, ⟨x, y, hTO⟩, ⟨o1, e1, _, d1⟩, ⟨o2, e2, _, d2⟩⟩ := st
    rcases zipFp_mem.mp hc with rfl | rfl | rfl | rfl | rfl
    · exact ⟨_, hz, fun v q => (nomatch q)⟩
    · exact ⟨_, hTI, fun v q => (nomatch q)⟩
    · exact ⟨_, hTO, fun v q => (nomatch q)⟩
    · exact ⟨o1, e1, fun v q => by rw [d1] at q; cases q⟩
    · exact ⟨o2, e2, fun v q => by rw [d2] at q; cases q⟩
  keep := fun i h h' st k => by
    have kk : ∀ c, (c = z ∨ c = TI ∨ c = TO ∨ c = i1 ∨ c = i2) → ∀ o, h.get? c = some o → h'.get? c = some o := fun c e => k c (zipFp_mem.mpr e)
    obtain ⟨x, y, hTO⟩ := st.tob
    exact ⟨kk z (.inl rfl) _ st.zip, kk TI (.inr (.inl rfl)) _ st.ti, ⟨x, y, kk TO (.inr (.inr (.inl rfl))) _ hTO⟩, st.one.at fun o q => kk i1 (.inr (.inr (.inr (.inl rfl)))) o q, st.two.at fun o q => kk i2 (.inr (.inr (.inr (.inr rfl)))) o q⟩
  item := by
    intro X hP hw hK hc i pins s σ H E I hf st hg
    subst hP hw hK
    obtain ⟨xs, ys, x, y, hqx, hqy, hx, hy⟩ := hg
    obtain ⟨x0, y0, hTO⟩ := st.tob
    obtain ⟨its, rv, p, _⟩ := I.list hqx
    obtain ⟨its2, rv2, p2, _⟩ := I.tuple hqy
    obtain ⟨u, hu, ru⟩ := rv.get hx
    obtain ⟨u2, hu2, ru2⟩ := rv2.get hy
    have lt1 := (List.getElem?_eq_some_iff.mp hu).1
    have lt2 := (List.getElem?_eq_some_iff.mp hu2).1
    have live : ∀ {c : Addr} {o : Obj}, s.heap.get? c = some o → c < s.heap.objs.size := fun e => Heap.lt_size e
    obtain ⟨naz, naT, nbz, nbT, n12, na2, nb1, n1z, n2z, n1T, n2T⟩ := zip_parts S
    refine wpAny_pyNext_zipD2_item (i := i) S (Draws.list (prog := X.prog) (w := X.w) (A := X.A.in1) (I.ok.hd hc) i1 a ha its.toArray) (Draws.tuple (prog := X.prog) (w := X.w) (A := X.A.in1) (I.ok.hd hc) i2 b hb its2.toArray) st.zip st.ti hTO ⟨st.one, p.isList⟩ ⟨st.two, p2⟩ (by simpa using lt1) (by simpa using lt2) fun v1 v2 h' tk q1 q2 z' TO' s1 s2 hT hsz hk => ?_
    have ev1 : v1 = u := by
      have : its[i]? = some v1 := by simpa using q1
      rw [hu] at this
      exact (Option.some.inj this).symm
    have ev2 : v2 = u2 := by
      have : its2[i]? = some v2 := by simpa using q2
      rw [hu2] at this
      exact (Option.some.inj this).symm
    subst ev1 ev2
    refine ⟨_, rfl, wpAny_letOwnedTupleGo_zip (s := { s with heap := h', toks := tk }) z' fun h2 z2 sb => ?_⟩
    have zl : z < s.heap.objs.size := live st.zip
    have top := (sb.2 _ (Nat.ne_of_gt zl)).trans hT
    have new : ObjOk X.prog X.w (upd H s.heap.objs.size (.tup [x, y])) h2 s.heap.objs.size (.tup [x, y]) :=
      ⟨by show 2 ≤ sizeLine; decide, [v1, v2], .cons ru (.cons ru2 .nil), ⟨_, top, rfl, _, rfl⟩⟩
    have notin : ∀ {c : Addr}, c ∉ zipFp z TI TO i1 i2 → c ≠ z ∧ c ≠ TO ∧ c ≠ i1 ∧ c ≠ i2 := fun n => ⟨fun e => n (zipFp_mem.mpr (.inl e)), fun e => n (zipFp_mem.mpr (.inr (.inr (.inl e)))), fun e => n (zipFp_mem.mpr (.inr (.inr (.inr (.inl e))))), fun e => n (zipFp_mem.mpr (.inr (.inr (.inr (.inr e)))))⟩
    have I1 : Inv X pins σ (upd H s.heap.objs.size (.tup [x, y])) { s with heap := h2, toks := tk } :=
      I.turnedNew (t' := tk) (ch := zipFp z TI TO i1 i2) (fun c o n q => (sb.2 c (notin n).1).trans (hk c o (notin n).1 (notin n).2.1 (notin n).2.2.1 (notin n).2.2.2 q)) hf (Nat.le_refl _) new
    have free : H s.heap.objs.size = none := I.hok.fresh (Nat.le_refl _)
    refine ⟨.ref s.heap.objs.size, _, I1, rfl, ⟨_, x, y, rfl, free, rfl, fun l hl => by rw [I.list_inj hl hqx]; exact hx, fun l hl => by rw [I.tuple_inj hl hqy]; exact hy⟩, ⟨z2, (sb.2 _ S.TIz).trans (hk _ _ S.TIz S.TITO S.TIi1 S.TIi2 st.ti), ⟨v1, v2, (sb.2 _ S.TOz).trans TO'⟩, s1.1.at fun o q => (sb.2 _ n1z).trans q, s2.1.at fun o q => (sb.2 _ n2z).trans q⟩, fun c hcm => ?_⟩
    have below : c < s.heap.objs.size := by
      rcases zipFp_mem.mp hcm with e | e | e | e | e
      · rw [e]; exact zl
      · rw [e]; exact live st.ti
      · rw [e]; exact live hTO
      · rw [e]; obtain ⟨_, q, _⟩ := st.one; exact live q
      · rw [e]; obtain ⟨_, q, _⟩ := st.two; exact live q
    rw [upd_ne (Nat.ne_of_lt below)]
    exact (hf c hcm).1
  done := by
    intro X hP hw hK hc i pins s σ H E I hf st hg
    subst hP hw hK
    obtain ⟨xs, ys, hqx, hqy, le1, le2, hend⟩ := hg
    obtain ⟨x0, y0, hTO⟩ := st.tob
    obtain ⟨its, rv, p, _⟩ := I.list hqx
    obtain ⟨its2, rv2, p2, _⟩ := I.tuple hqy
    have l1 : xs.length = its.toArray.size := by rw [rv.length, List.size_toArray]
    have l2 : ys.length = its2.toArray.size := by rw [rv2.length, List.size_toArray]
    have notin : ∀ {c : Addr}, c ∉ zipFp z TI TO i1 i2 → c ≠ z ∧ c ≠ TO ∧ c ≠ i1 ∧ c ≠ i2 := fun n => ⟨fun e => n (zipFp_mem.mpr (.inl e)), fun e => n (zipFp_mem.mpr (.inr (.inr (.inl e)))), fun e => n (zipFp_mem.mpr (.inr (.inr (.inr (.inl e))))), fun e => n (zipFp_mem.mpr (.inr (.inr (.inr (.inr e)))))⟩
    rw [l1, l2] at hend
    refine wpAny_pyNext_zipD2_end (i := i) S (Draws.list (prog := X.prog) (w := X.w) (A := X.A.in1) (I.ok.hd hc) i1 a ha its.toArray) (Draws.tuple (prog := X.prog) (w := X.w) (A := X.A.in1) (I.ok.hd hc) i2 b hb its2.toArray) st.zip st.ti hTO ⟨st.one, p.isList⟩ ⟨st.two, p2⟩ (by omega) (by omega) hend fun h' tk hk => ⟨rfl, ?_⟩
    exact I.turnedL (t' := tk) (ch := zipFp z TI TO i1 i2) (fun c o n q => hk c o (notin n).1 (notin n).2.1 (notin n).2.2.1 (notin n).2.2.2 q) hf
  self := fun A i s Q E st h => wpAny_pyIter_zip st.zip h
def iZipM (K : PySem.W.Frag) (ta : TA) : TI := fun σ H R => ta σ H fun vs H1 => ∃ a b xs ys, vs = [.ref a, .ref b] ∧ SqL K H1 a xs ∧ SqT K H1 b ys ∧ R (ItzM K a b) H1
theorem pi_zipM {X : Cx} {e e2 : Expr} {ta : TA} {p pos tpos : Pos} {elts : List Expr} {kk : Nat} (hg : Gl X "zip") (hm : X.mg "zip" = none) (ha : PA X [e, e2] ta)
    (hs : starEach [e, e2] X.env = (false, eval e X.env) :: starEach [e2] X.env := by rfl) (hpl : (backTo pos (starEach [e2] X.env)).any (·.1) = false := by rfl) : PI X (.Tuple elts kk tpos) (.Call (.Name "zip" p) [e, e2] [] pos) (iZipM X.K ta) := by
  refine ⟨fun pins s σ H R I h => Call_ (ld_blt I hg hm PyProof.Rows.boot_zip (PyProof.Rows.callWith_type1 (thn (ha.run pos pins s σ H _ I h) fun us s1 ⟨vs, H1, I1, r1, q1⟩ => ?_) hs hpl))⟩
  obtain ⟨a, b, xs, ys, rfl, hqx, hqy, q⟩ := q1
  cases r1 with
  | cons ra rr =>
    cases rr with
    | cons rb rr =>
      cases rr
      cases ra
      cases rb
      obtain ⟨its, rv, p1, _⟩ := I1.list hqx
      obtain ⟨its2, rv2, p2, _⟩ := I1.tuple hqy
      obtain ⟨o2, ho2, _⟩ := id p2
      have la : a < s1.heap.objs.size := p1.lt
      have lb : b < s1.heap.objs.size := Heap.lt_size ho2
      refine zip_begins2 (begins_list a its.toArray) (begins_tuple b its2.toArray) p1.isList p2 fun h' hz hTI hTO h1 h2 hsz hk => wpAny_pyIter_zip hz ?_
      have I2 : Inv X pins σ H1 { s1 with heap := h' } := I1.kept (t' := s1.toks) hk
      refine ⟨s1.heap.objs.size + 4, zipFp (s1.heap.objs.size + 4) (s1.heap.objs.size + 2) (s1.heap.objs.size + 3) s1.heap.objs.size (s1.heap.objs.size + 1), _, _, H1, rfl, I2, turn_zipM (Nat.ne_of_lt la) (Nat.ne_of_lt (Nat.lt_succ_of_lt lb)) (zip_sep2 (fp1 := [a]) (fp2 := [b]) (fun c e => by rw [List.mem_singleton.mp e]; exact la) (fun c e => by rw [List.mem_singleton.mp e]; exact lb)), ⟨hz, hTI, ⟨_, _, hTO⟩, ⟨_, h1, rfl, rfl⟩, ⟨_, h2, rfl, rfl⟩⟩, fun c hc => ?_, q⟩
      have up : s1.heap.objs.size ≤ c := by
        rcases zipFp_mem.mp hc with e | e | e | e | e <;> rw [e]
        · exact Nat.le_add_right _ _
        · exact Nat.le_add_right _ _
        · exact Nat.le_add_right _ _
        · exact Nat.le_refl _
        · exact Nat.le_add_right _ _
      exact I1.fpOk up (I1.hok.fresh up)
theorem walk_zipM {K : PySem.W.Frag} {a b : Addr} {xs ys : List V} {n : Nat} (hn : n = min xs.length ys.length) : Walk (ItzM K a b) n (fun H => SqL K H a xs ∧ SqT K H b ys) (YPair (fun i => xs[i]?) (fun i => ys[i]?)) := by
  subst hn
  refine ⟨fun i _ hi q => ?_, fun _ q => ⟨xs, ys, q.1, q.2, Nat.min_le_left _ _, Nat.min_le_right _ _, by omega⟩, fun i H v H' _ q y => ?_⟩
  · exact ⟨xs, ys, xs[i]'(by omega), ys[i]'(by omega), q.1, q.2, by rw [List.getElem?_eq_getElem], by rw [List.getElem?_eq_getElem]⟩
  · obtain ⟨T, x, z, h1, h2, h3, h4, h5⟩ := y
    exact ⟨T, x, z, h1, h2, h3, h4 _ q.1, h5 _ q.2⟩
end L2

set_option Elab.async false
set_option linter.all false
set_option maxRecDepth 100000
set_option maxHeartbeats 4000000
namespace K09
open PySem PySem.Spec PyProof.Rows L2
theorem dec_str {a b : Str} : decide (V.str a = V.str b) = decide (a = b) := decide_eq_decide.mpr ⟨V.str.inj, congrArg V.str⟩
section
variable {P : Program} {w : World} {K : PySem.W.Frag} {mg : Str → Option Value} {base : Heap} {C : Addr}
theorem ok_isTurn {f : Addr} {fd : FuncData} (F : Fun K "is_turn" "is_turn" sIsTurn f fd) (T : Tx mg) (R : Ru K mg) : FnOk P w K mg base CX0 1 f fd ["value"] (spIsTurn K) := by
  obtain ⟨aT, gT, kT⟩ := R.turns
  refine F.ok scIsTurn (fun vs H Q E h => ?_) (fun cdv A outer s H vs Q E hr h => ?_)
  · obtain ⟨v, T, rfl, _⟩ := h
    rfl
  · obtain ⟨v, N, rfl, ⟨ty, hk⟩, q⟩ := h
    refine ⟨_, pss_one (ps_ret (pe_and (pe_callB call_isi (by rfl) T.isi (by decide +kernel) (pa_cons (pv 0) (pa_cons (pe_bltn (v := .ty "str") (by rfl) T.str (by decide +kernel) rfl) pa_nil)))
      (pe_one (pe_cmpR op_in_seq (pv 0) (pe_glob (v := .ref aT) (by rfl) gT rfl) (by rfl))))), ?_⟩
    refine ⟨_, rfl, v, .ty "str", _, _, _, rfl, .ty "str", ty, kit_ty (kit_str hk), _, rfl, ite2 (fun c => ?_) (fun c => ?_)⟩
    · obtain ⟨z, rfl⟩ := ty_str' ty (by rw [of_decide_eq_true c])
      refine ⟨_, rfl, aT, _, rfl, .inr (kT.sq H), rfl, all_flat_strs turns, ?_⟩
      show Q (.bl (inV _ _)) H
      rw [inV_strs]
      exact q
    · have e : turnB v = false := by
        cases v with
        | str z => exact absurd (decide_eq_true (str_ty ty)) c
        | _ => rfl
      rw [e] at q
      exact q
theorem ok_isGather {f : Addr} {fd : FuncData} (F : Fun K "is_gather" "is_gather" sIsGather f fd) (T : Tx mg) (R : Ru K mg) : FnOk P w K mg base CX0 1 f fd ["turn", "value"] (spIsGather K) := by
  obtain ⟨aG, gG, kG⟩ := R.gathers
  obtain ⟨aT, gT, kT⟩ := R.gathersT
  refine F.ok scIsGather (fun vs H Q E h => ?_) (fun cdv A outer s H vs Q E hr h => ?_)
  · obtain ⟨t, v, T, rfl, _⟩ := h
    rfl
  · obtain ⟨t, v, N, rfl, ⟨ty, hk⟩, q⟩ := h
    refine ⟨_, pss_cons (ps_if (PW.pt (pw_or (pt_not (pt_val (pe_callB call_isi (by rfl) T.isi (by decide +kernel) (pa_cons (pv 1) (pa_cons (pe_bltn (v := .ty "str") (by rfl) T.str (by decide +kernel) rfl) pa_nil)))))
        (pw_or1 (pt_cmpR op_notIn_seq (pv 1) (pe_glob (v := .ref aG) (by rfl) gG rfl) (by rfl))))) (pss_one (ps_ret pe_bl)) pss_nil)
      (pss_one (ps_ret (pe_or (pe_cmpR op_eq (pv 0) pe_str (nomark _)) (pe_one (pe_cmpR op_in_seq (pv 1) (pe_glob (v := .ref aT) (by rfl) gT rfl) (by rfl)))))), ?_⟩
    refine ⟨_, rfl, v, .ty "str", _, _, _, rfl, .ty "str", ty, kit_ty (kit_str hk), _, rfl, ?_⟩
    by_cases hs : N = "str"
    · subst hs
      obtain ⟨z, rfl⟩ := ty_str ty
      refine iteF ⟨_, rfl, aG, _, rfl, .inr (kG.sq H), rfl, all_flat_strs gathers, _, rfl, ?_⟩
      rw [if_pos rfl, inV_strs]
      have e : gatherB t (.str z) = (decide (z ∈ gathers) && (decide (t = "plain") || decide (z ∈ gathersT))) := rfl
      rw [e] at q
      cases h1 : decide (z ∈ gathers) with
      | false =>
        rw [h1] at q
        exact iteT q
      | true =>
        rw [h1, Bool.true_and] at q
        refine iteF ⟨_, rfl, rfl, _, rfl, ?_⟩
        rw [dec_str]
        cases h2 : decide (t = "plain") with
        | true =>
          rw [h2] at q
          exact iteT q
        | false =>
          rw [h2] at q
          refine iteF ⟨_, rfl, aT, _, rfl, .inr (kT.sq H), rfl, all_flat_strs gathersT, ?_⟩
          rw [if_neg (by decide), inV_strs]
          exact q
    · rw [decide_eq_false hs]
      have e : gatherB t v = false := by
        cases v with
        | str z => exact absurd (str_ty ty) hs
        | _ => rfl
      rw [e] at q
      exact iteT (iteT q)
theorem ok_isTrim {f fN fI : Addr} {fd fdN fdI : FuncData} (F : Fun K "is_trim" "is_trim" sIsTrim f fd) (GN : FnOk P w K mg base CX0 2 fN fdN ["value", "least", "most"] (spWithin K)) (kN : PySem.W.keepIn K (.ref fN) = true) (bN : Binds K fdN ["value", "least", "most"] [])
    (gN : mg "is_integer_within" = some (.ref fN)) (GI : FnOk P w K mg base CX0 1 fI fdI ["value"] (spIsInteger K)) (kI : PySem.W.keepIn K (.ref fI) = true) (bI : Binds K fdI ["value"] []) (gI : mg "is_integer" = some (.ref fI)) (R : Ru K mg) :
    FnOk P w K mg base CX0 3 f fd ["gather", "value"] (spIsTrim K) := by
  obtain ⟨t3, g3⟩ := R.trim
  refine F.ok scIsTrim (fun vs H Q E h => ?_) (fun cdv A outer s H vs Q E hr h => ?_)
  · obtain ⟨g, v, T, rfl, _⟩ := h
    rfl
  · obtain ⟨g, v, N, rfl, ty, q⟩ := h
    refine ⟨_, pss_cons (ps_if (pt_cmpR op_eq (pv 0) pe_str (nomark _)) (pss_one (ps_ret (pe_call GN hr (by rfl) gN kN bN .nil pass0 (pa_cons (pv 1) (pa_cons pe_int (pa_cons (pe_glob (v := .int 3) (by rfl) g3 ⟨_, rfl⟩) pa_nil)))))) pss_nil)
      (pss_one (ps_ret (pe_and (pe_call GI (hr.mono (by decide)) (by rfl) gI kI bI .nil pass0 (pa_cons (pv 1) pa_nil)) (pe_one (pe_cmpR op_eq (pv 1) pe_int (nomark _)))))), ?_⟩
    refine ⟨_, rfl, rfl, _, rfl, ?_⟩
    rw [dec_str]
    unfold trimB at q
    by_cases h : g = "trim"
    · rw [if_pos h] at q
      rw [decide_eq_true h]
      exact iteT ⟨_, rfl, v, 1, 3, rfl, ⟨N, ty⟩, q⟩
    · rw [if_neg h] at q
      rw [decide_eq_false h]
      refine iteF ⟨_, rfl, v, N, rfl, ty, _, rfl, ite2 (fun c => ?_) (fun c => ?_)⟩
      · obtain rfl := of_decide_eq_true c
        obtain ⟨i, rfl⟩ := ty_int ty.1
        exact ⟨_, rfl, rfl, q⟩
      · have e : decide (v = .int 0) = false := decide_eq_false fun e => by
          subst e
          exact c (decide_eq_true (int_ty ty.1))
        rw [e] at q
        exact q
theorem ok_areReads {f fIs : Addr} {fd dIs : FuncData} (F : Fun K "are_reads" "are_reads" sAreReads f fd) (cl : Cls K C) (mIs : Meth K C "is_pair" fIs) (GIs : FnOk P w K mg base CX0 2 fIs dIs ["self", "value"] (spIsPair K C)) (bIs : Binds K dIs ["self", "value"] [])
    (B : Bt mg) (T : Tx mg) : FnOk P w K mg base CX0 3 f fd ["crowd", "value"] (spAreReads K C) := by
  refine F.ok scAreReads (fun vs H Q E h => ?_) (fun cdv A outer s H vs Q E hr h => ?_)
  · obtain ⟨c, v, zs, m, b, ps, rfl, _⟩ := h
    rfl
  · obtain ⟨c, v, zs, m, b, ps, rfl, hc, z8, ha, q⟩ := h
    obtain ⟨dx, lp, hx, hlp⟩ := id hc
    have hu : (A.deeper (envOfC "are_reads" (defScope sAreReads) s.heap.objs.size f cdv)).units + 64 < cLine := by
      have := hr.units
      omega
    refine ⟨_, pss_cons (ps_if (pt_not (pt_val (pe_callB call_isiT (by rfl) T.isi (by decide +kernel) (pa_cons (pv 1) (pa_cons (pe_tup (pa_cons (pe_bltn (v := .ty "list") (by rfl) T.list (by decide +kernel) rfl) (pa_cons (pe_bltn (v := .ty "tuple") (by rfl) T.tuple (by decide +kernel) rfl) pa_nil))) pa_nil))))) (pss_one (ps_ret pe_bl)) pss_nil)
      (pss_one (ps_ret (pe_and (pe_callB (cr_all rfl) (by rfl) T.all (by decide +kernel) (pa_cons (pe_lc (own := [("pair", 2)]) (g := gName 2) (by rfl) scAreReads.nd (pi_seq (pv 1)) (blkOk_by (own := [("pair", 2)]) (N := ["crowd", "value", "pair"]) (sc := defScope sAreReads) (by decide +kernel))
            (fun _ _ _ _ _ => pg_name (i := 2) scAreReads.nd rfl (Or.inl rfl)) (fun _ _ _ _ _ => pts_nil) (fun _ _ _ _ _ => pe_meth (pv 0) cl mIs GIs (by exact hr) bIs .nil pass0 (pa_cons (pv 2) pa_nil))) pa_nil))
          (pe_one (pe_cmpR op_eq (pe_callB cr_lenTup (by rfl) B.len PySem.boot_len (pa_cons (pe_callTy (cr_setTup rfl hu) (by rfl) T.set (by decide +kernel) (pa_cons (pv 1) pa_nil)) pa_nil)) (pe_callB call_len_seq (by rfl) B.len PySem.boot_len (pa_cons (pv 1) pa_nil)) (nomark _)))))), ?_⟩
    refine ⟨_, rfl, (by show 2 ≤ sizeLine; decide), fun p np => ?_⟩
    have s1 : Same H (upd H p (.tup [.ty "list", .ty "tuple"])) := same_new np
    have hp : upd H p (.tup [.ty "list", .ty "tuple"]) p = some (.tup [.ty "list", .ty "tuple"]) := upd_same
    generalize upd H p (.tup [.ty "list", .ty "tuple"]) = H1 at s1 hp
    cases ha with
    | @no _ N ty h1 h2 =>
      refine ⟨v, p, _, _, _, _, rfl, hp, .cons (.ty "list") (.cons (.ty "tuple") .nil), TyX.same s1 ty.1, kit_listTuple ty.2, _, rfl, ?_⟩
      rw [decide_eq_false h1, decide_eq_false h2]
      exact iteT (q _ s1)
    | @odd a xs bs e hl h hb =>
      obtain ⟨N, ty, hN⟩ := ty_seq (K := K) e
      refine ⟨_, p, _, _, _, _, rfl, hp, .cons (.ty "list") (.cons (.ty "tuple") .nil), TyX.same s1 ty.1, kit_listTuple ty.2, _, rfl, ?_⟩
      rw [show (decide (N = "list") || decide (N = "tuple")) = true by rcases hN with rfl | rfl <;> rfl]
      refine iteF ⟨_, rfl, a, xs, rfl, (e.same s1).sq, fun J ji D nD => ?_⟩
      refine lc_fm ji (os := bs.map fun b => some (V.bl b)) (by rw [List.length_map, h.length]) hl nD (fun _ => rfl) (fun i x o H2 N2 M hx2 ho s2 kN kM => ?_) (fun H2 s2 hD => ?_)
      · rw [List.getElem?_map] at ho
        cases hbi : bs[i]? with
        | none =>
          rw [hbi] at ho
          cases ho
        | some b =>
          rw [hbi] at ho
          obtain rfl := Option.some.inj ho
          have s3 := s1.trans s2
          exact rd_yes ⟨_, rfl, c, dx, _, rfl, s3 _ _ hx, rfl, _, rfl, c, x, zs, m, b, rfl, hc.same s3, (pr_get h hx2 hbi).same s3, kN _ _ rfl (Same.refl _)⟩
      · rw [fm_some] at hD
        refine ⟨D, bs, rfl, SqL.of hD, _, rfl, ?_⟩
        rw [hb]
        exact iteF (q _ (s1.trans s2))
    | @seq a xs ps e hl h hp2 =>
      obtain ⟨N, ty, hN⟩ := ty_seq (K := K) e
      refine ⟨_, p, _, _, _, _, rfl, hp, .cons (.ty "list") (.cons (.ty "tuple") .nil), TyX.same s1 ty.1, kit_listTuple ty.2, _, rfl, ?_⟩
      rw [show (decide (N = "list") || decide (N = "tuple")) = true by rcases hN with rfl | rfl <;> rfl]
      refine iteF ⟨_, rfl, a, xs, rfl, (e.same s1).sq, fun J ji D nD => ?_⟩
      refine lc_fm ji (os := xs.map fun _ => some (V.bl true)) (by rw [List.length_map]) hl nD (fun _ => rfl) (fun i x o H2 N2 M hx2 ho s2 kN kM => ?_) (fun H2 s2 hD => ?_)
      · rw [List.getElem?_map, hx2] at ho
        obtain rfl := Option.some.inj ho
        have s3 := s1.trans s2
        have li : i < ps.length := by
          rw [← h.1]
          exact (List.getElem?_eq_some_iff.mp hx2).1
        obtain ⟨u, rfl, hu⟩ := h.2 i x _ hx2 (List.getElem?_eq_getElem li)
        have pr := PairArg.two (K := K) (zs := zs) (a := .str ps[i].1) (b := .str ps[i].2) (s3 _ _ hu) (S := "str") (T := "str") ⟨.base (.str _), by decide⟩ ⟨.base (.str _), by decide⟩
        rw [isPair_true (hp2 _ (List.getElem_mem li))] at pr
        exact rd_yes ⟨_, rfl, c, dx, _, rfl, s3 _ _ hx, rfl, _, rfl, c, _, zs, m, true, rfl, hc.same s3, pr, kN _ _ rfl (Same.refl _)⟩
      · rw [fm_some, show (xs.map fun _ => V.bl true) = (xs.map fun _ => true).map V.bl by rw [List.map_map]; rfl] at hD
        refine ⟨D, xs.map fun _ => true, rfl, SqL.of hD, _, rfl, ?_⟩
        rw [show (xs.map fun _ => true).all id = true by rw [List.all_map]; simp]
        have s3 := s1.trans s2
        obtain ⟨ks, rfl, e2, h3⟩ := tps_ents h
        refine iteT ⟨_, rfl, a, ks, rfl, ((e.same s3).sq (K := K)).or, fun p hp => SqT.of (s3 _ _ (h3 p hp)), by rw [e2]; exact uniq_few hp2 z8, fun r L nr _ _ _ len => ?_⟩
        refine ⟨r, L, rfl, upd_same, _, rfl, a, _, rfl, ((e.same (s3.trans (same_new nr))).sq (K := K)).or, rfl, ?_⟩
        rw [len, e2, h.1, uniq_pairs]
        exact q _ (s3.trans (same_new nr))
end
end K09

set_option Elab.async false
set_option linter.all false
set_option maxRecDepth 100000
set_option maxHeartbeats 4000000
namespace K09
open PySem PySem.Spec PyProof.Rows L2
theorem flat_le {α β : Type} {f : α → List β} {k : Nat} : ∀ {l : List α}, (∀ x ∈ l, (f x).length ≤ k) → (l.flatMap f).length ≤ l.length * k
  | [], _ => Nat.zero_le _
  | x :: l, h => by
    rw [List.flatMap_cons, List.length_append, List.length_cons, Nat.add_mul, Nat.one_mul]
    have h1 := h x List.mem_cons_self
    have h2 := flat_le (l := l) (f := f) fun y hy => h y (List.mem_cons_of_mem _ hy)
    omega
theorem strs_of_has {zs : List Str} : ∀ {xs : List V}, xs.all (fun v => hasB v zs) = true → ∃ ys : List Str, xs = ys.map V.str
  | [], _ => ⟨[], rfl⟩
  | x :: xs, h => by
    rw [List.all_cons, Bool.and_eq_true] at h
    obtain ⟨ys, rfl⟩ := strs_of_has h.2
    cases x with
    | str z => exact ⟨z :: ys, rfl⟩
    | _ => cases h.1
/-- what of each member is walked and kept, all of it -/
def allOf (o : Option (List V)) : Option (List V × List (Option V)) := some (o.getD [], (o.getD []).map some)
theorem flat_all (os : List (Option (List V))) : ((os.map allOf).flatMap fun o => ((o.map (·.2)).getD []).filterMap id) = flatO os := by
  unfold flatO
  rw [List.flatMap_map]
  congr 1
  funext o
  show ((o.getD []).map some).filterMap id = o.getD []
  have := fm_some (fun v : V => v) (o.getD [])
  rw [List.map_id'] at this
  exact this
section
variable {P : Program} {w : World} {K : PySem.W.Frag} {mg : Str → Option Value} {base : Heap} {C : Addr}
theorem ok_areLists {f fHas fLen : Addr} {fd dHas dLen : FuncData} (F : Fun K "are_lists" "are_lists" sAreLists f fd) (GHas : FnOk P w K mg base CX0 1 fHas dHas ["self", "x"] (spCrowdHas K C)) (sHas : PySem.W.findIn K (.ref C) "__contains__" = some (some (.ref fHas)))
    (iHas : PySem.W.isFn K (.ref fHas) = true) (bHas : Binds K dHas ["self", "x"] []) (GLen : FnOk P w K mg base CX0 1 fLen dLen ["self"] (spCrowdLen C)) (sLen : PySem.W.findIn K (.ref C) "__len__" = some (some (.ref fLen))) (iLen : PySem.W.isFn K (.ref fLen) = true) (bLen : Binds K dLen ["self"] [])
    (B : Bt mg) (T : Tx mg) : FnOk P w K mg base CX0 3 f fd ["crowd", "value"] (spAreLists K C) := by
  refine F.ok scAreLists (fun vs H Q E h => ?_) (fun cdv A outer s H vs Q E hr h => ?_)
  · obtain ⟨c, v, zs, m, o, rfl, _⟩ := h
    rfl
  · obtain ⟨c, v, zs, m, o, rfl, hc, z8, ha, q⟩ := h
    obtain ⟨dx, lp, hx, hlp⟩ := id hc
    refine ⟨_, pss_cons (ps_if (pt_not (pt_val (pe_callB call_isiT (by rfl) T.isi (by decide +kernel) (pa_cons (pv 1) (pa_cons (pe_tup (pa_cons (pe_bltn (v := .ty "list") (by rfl) T.list (by decide +kernel) rfl) (pa_cons (pe_bltn (v := .ty "tuple") (by rfl) T.tuple (by decide +kernel) rfl) pa_nil))) pa_nil))))) (pss_one (ps_ret pe_bl)) pss_nil)
      (pss_cons (ps_if (pt_not (pt_val (pe_callB (cr_all rfl) (by rfl) T.all (by decide +kernel) (pa_cons (pe_lc (own := [("members", 2)]) (g := gName 2) (by rfl) scAreLists.nd (pi_seq (pv 1)) (blkOk_by (own := [("members", 2)]) (N := ["crowd", "value", "members", "parted", "person"]) (sc := defScope sAreLists) (by decide +kernel))
            (fun _ _ _ _ _ => pg_name (i := 2) scAreLists.nd rfl (Or.inl rfl)) (fun _ _ _ _ _ => pts_nil) (fun _ _ _ _ _ => by
              refine pe_and (pe_callB (id := "isinstance") (r := rIsiT K) call_isiT (by rfl) T.isi (by decide +kernel) (pa_cons (pv 2) (pa_cons (pe_tup (pa_cons (pe_bltn (v := .ty "list") (by rfl) T.list (by decide +kernel) rfl) (pa_cons (pe_bltn (v := .ty "tuple") (by rfl) T.tuple (by decide +kernel) rfl) pa_nil))) pa_nil))) (pe_one (t := tOp (rI0 fun i j => .bl (decide (j < i))) (tCB (rLenS K) (tCons (tVar 2) tNil)) (tC (.int 0))) ?_)
              refine pe_cmpR op_gt ?_ pe_int (nomark _)
              exact pe_callB (id := "len") (r := rLenS K) call_lenS (by rfl) B.len PySem.boot_len (pa_cons (pv 2) pa_nil))) pa_nil)))) (pss_one (ps_ret pe_bl)) pss_nil)
      (pss_cons (by
        refine' ps_setLc2 (i := 3) (own := [("members", 2), ("person", 4)]) (vs1 := [4]) (wi1 := iSeq K (tVar 2)) (g := gName 2) (g1 := gName 4) (by rfl) scAreLists.nd rfl rfl (sw_true rfl rfl rfl (by decide +kernel)) ?h1 (blkOk_by (own := [("members", 2), ("person", 4)]) (N := ["crowd", "value", "members", "parted", "person"]) (sc := defScope sAreLists) (by decide +kernel)) (by decide)
          (fun _ _ _ _ _ => pg_name (i := 2) scAreLists.nd rfl (Or.inl rfl)) (fun _ _ _ _ _ => pts_nil) ?h2 (fun _ _ _ _ _ => pg_name (i := 4) scAreLists.nd rfl (Or.inl rfl)) (fun _ _ _ _ _ => pts_nil) ?h4
        (case h1 => exact pi_seq (pv 1))
        (case h2 => intro _ _ _ _ _; exact pi_seq (pv 2))
        (case h4 => intro _ _ _ _ _; exact pv 4))
      (pss_one (ps_ret (pe_and (pe_cmpR op_eq (pe_callB call_len_seq (by rfl) B.len PySem.boot_len (pa_cons (pv 3) pa_nil)) (pe_callB (call_lenOwn (E := fun _ _ _ => False) sLen iLen GLen hr bLen pass0) (by rfl) B.len PySem.boot_len (pa_cons (pv 0) pa_nil)) (nomark _))
        (pe_and (pe_callB (cr_all rfl) (by rfl) T.all (by decide +kernel) (pa_cons (pe_lc (own := [("person", 4)]) (g := gName 4) (by rfl) scAreLists.nd (pi_list (pv 3)) (blkOk_by (own := [("person", 4)]) (N := ["crowd", "value", "members", "parted", "person"]) (sc := defScope sAreLists) (by decide +kernel))
            (fun _ _ _ _ _ => pg_name (i := 4) scAreLists.nd rfl (Or.inl rfl)) (fun _ _ _ _ _ => pts_nil) (fun _ _ _ _ _ => pe_cmpR (op_inOwn (E := fun _ _ _ => False) sHas iHas GHas (Room.mono (by exact hr) (by decide)) bHas pass0) (pv 4) (pv 0) (by rfl))) pa_nil))
          (pe_one (pe_cmpR op_eq (pe_callB cr_lenK (by rfl) B.len PySem.boot_len (pa_cons (pe_callTy (cr_setK rfl) (by rfl) T.set (by decide +kernel) (pa_cons (pv 3) pa_nil)) pa_nil)) (pe_callB call_len_seq (by rfl) B.len PySem.boot_len (pa_cons (pv 3) pa_nil)) (nomark _))))))))), ?_⟩
    refine ⟨_, rfl, (by show 2 ≤ sizeLine; decide), fun p np => ?_⟩
    have s1 : Same H (upd H p (.tup [.ty "list", .ty "tuple"])) := same_new np
    have hp : upd H p (.tup [.ty "list", .ty "tuple"]) p = some (.tup [.ty "list", .ty "tuple"]) := upd_same
    generalize upd H p (.tup [.ty "list", .ty "tuple"]) = H1 at s1 hp
    cases ha with
    | @no _ N ty h1 h2 =>
      refine ⟨v, p, _, _, _, _, rfl, hp, .cons (.ty "list") (.cons (.ty "tuple") .nil), TyX.same s1 ty.1, kit_listTuple ty.2, _, rfl, ?_⟩
      rw [decide_eq_false h1, decide_eq_false h2]
      exact iteT (q _ s1)
    | @seq a xs os e hl h =>
      obtain ⟨N, ty, hN⟩ := ty_seq (K := K) e
      refine ⟨_, p, _, _, _, _, rfl, hp, .cons (.ty "list") (.cons (.ty "tuple") .nil), TyX.same s1 ty.1, kit_listTuple ty.2, _, rfl, ?_⟩
      rw [show (decide (N = "list") || decide (N = "tuple")) = true by rcases hN with rfl | rfl <;> rfl]
      refine iteF ⟨_, rfl, a, xs, rfl, (e.same s1).sq, fun J ji D nD => ?_⟩
      refine lc_fm ji (os := os.map fun o => some (V.bl (memOk o))) (by rw [List.length_map, h.length]) (by omega) nD (fun _ => rfl) (fun i x o H2 N2 M hx2 ho s2 kN kM => ?_) (fun H2 s2 hD => ?_)
      · rw [List.getElem?_map] at ho
        cases hoi : os[i]? with
        | none =>
          rw [hoi] at ho
          cases ho
        | some o =>
          rw [hoi] at ho
          obtain rfl := Option.some.inj ho
          have s3 := s1.trans s2
          have mem := (pr_get h hx2 hoi).same s3
          refine rd_yes ⟨_, rfl, (by show 2 ≤ sizeLine; decide), fun r nr => ?_⟩
          have s4 : Same H2 (upd H2 r (.tup [.ty "list", .ty "tuple"])) := same_new nr
          cases mem with
          | @no _ N ty h1 h2 =>
            refine ⟨x, r, _, _, _, _, rfl, upd_same, .cons (.ty "list") (.cons (.ty "tuple") .nil), TyX.same s4 ty.1, kit_listTuple ty.2, _, rfl, ?_⟩
            rw [decide_eq_false h1, decide_eq_false h2]
            exact iteF (kN _ _ rfl s4)
          | @seq a2 ys e2 ht2 hl2 =>
            obtain ⟨N, ty, hN⟩ := ty_seq (K := K) e2
            refine ⟨_, r, _, _, _, _, rfl, upd_same, .cons (.ty "list") (.cons (.ty "tuple") .nil), TyX.same s4 ty.1, kit_listTuple ty.2, _, rfl, ?_⟩
            rw [show (decide (N = "list") || decide (N = "tuple")) = true by rcases hN with rfl | rfl <;> rfl]
            refine iteT ⟨_, rfl, a2, ys, rfl, ((e2.same s4).sq (K := K)).or, _, _, rfl, rfl, kN _ _ ?_ s4⟩
            cases ys with
            | nil => rfl
            | cons y ys =>
              show some (V.bl true) = some (V.bl (decide ((0 : Int) < ((ys.length + 1 : Nat) : Int))))
              rw [decide_eq_true (by omega)]
      · rw [fm_some, show (os.map fun o => V.bl (memOk o)) = (os.map memOk).map V.bl by rw [List.map_map]; rfl] at hD
        refine ⟨D, os.map memOk, rfl, SqL.of hD, _, rfl, ?_⟩
        have s3 := s1.trans s2
        have eA : (os.map memOk).all id = os.all memOk := by
          rw [List.all_map]
          rfl
        rw [eA]
        have eB : argB zs (some os) = (os.all memOk && (decide ((flatO os).length = zs.length) && ((flatO os).all (fun v => hasB v zs) && decide (flatO os).Nodup))) := rfl
        rw [eB] at q
        cases hA : os.all memOk with
        | false =>
          rw [hA] at q
          exact iteT (q _ s3)
        | true =>
          rw [hA, Bool.true_and] at q
          refine iteF ?_
          have short : ∀ o ∈ os, (o.getD []).length ≤ 100 := fun o ho => by
            obtain ⟨i, hi, e⟩ := List.getElem_of_mem ho
            have ho2 : os[i]? = some o := by rw [List.getElem?_eq_getElem hi, e]
            obtain ⟨x, hx2⟩ : ∃ x, xs[i]? = some x := ⟨_, List.getElem?_eq_getElem (show i < xs.length by rw [h.length]; exact hi)⟩
            have mem := pr_get h hx2 ho2
            cases mem with
            | no t h1 h2 => exact Nat.zero_le _
            | seq e2 ht2 hl2 => exact hl2
          have big : (flatO os).length ≤ 1000 := by
            have h1 := flat_le (l := os) (f := fun o => o.getD []) (k := 100) short
            have h2 := h.length
            show (os.flatMap _).length ≤ 1000
            omega
          refine ⟨_, rfl, a, xs, rfl, (e.same s3).sq, fun J2 ji2 D2 nD2 => ?_⟩
          refine lc2_fm ji2 (os := os.map allOf) (by rw [List.length_map, h.length]) (fun p hp => ?_) ?_ nD2 (fun _ => rfl) (fun _ _ => rfl) (fun i x o H4 R M hx4 ho s4 kR kM => ?_) (fun i j x y p o H4 N2 M hx4 ho hy ho2 s4 kN kM => ?_) (fun H4 s4 hD4 => ?_)
          · obtain ⟨o, _, e⟩ := List.mem_map.mp hp
            rw [← Option.some.inj e]
            exact List.length_map ..
          · rw [List.flatMap_map]
            have : (os.flatMap fun o => (((allOf o).map (·.2)).getD [])) = os.flatMap fun o => (o.getD []).map some := rfl
            rw [this]
            have h1 := flat_le (l := os) (f := fun o => (o.getD []).map some) (k := 100) fun o ho => by
              rw [List.length_map]
              exact short o ho
            have h2 := h.length
            omega
          · rw [List.getElem?_map] at ho
            cases hoi : os[i]? with
            | none =>
              rw [hoi] at ho
              cases ho
            | some o' =>
              rw [hoi] at ho
              obtain rfl := Option.some.inj ho
              have mem := pr_get h hx4 hoi
              have ok : memOk o' = true := by
                rw [List.all_eq_true] at hA
                exact hA _ (List.mem_of_getElem? hoi)
              cases mem with
              | no t h1 h2 => cases ok
              | @seq a2 ys e2 ht2 hl2 =>
                refine rd_yesI ⟨_, rfl, a2, ys, rfl, (e2.same (s3.trans s4)).sq, fun J3 ji3 => kR _ a2 J3 _ rfl (Same.refl _) ?_ ji3⟩
                rcases e2.same s3 with e3 | e3 <;> exact ne_of_none e3 nD2
          · obtain ⟨o', ho', e'⟩ : ∃ o', os[i]? = some o' ∧ p = (o'.getD [], (o'.getD []).map some) := by
              rw [List.getElem?_map] at ho
              cases hoi : os[i]? with
              | none =>
                rw [hoi] at ho
                cases ho
              | some o' =>
                rw [hoi] at ho
                exact ⟨o', rfl, (Option.some.inj (Option.some.inj ho)).symm⟩
            subst e'
            rw [List.getElem?_map, hy] at ho2
            obtain rfl := Option.some.inj ho2
            exact rd_yes ⟨_, rfl, kN _ _ rfl (Same.refl _)⟩
          · rw [flat_all] at hD4
            have s5 := s3.trans s4
            have typed : ∀ v ∈ flatO os, ∃ T, TyN K H v T := fun v hv => by
              obtain ⟨o, ho, hvo⟩ := List.mem_flatMap.mp hv
              obtain ⟨i, hi, ei⟩ := List.getElem_of_mem ho
              have ho2 : os[i]? = some o := by rw [List.getElem?_eq_getElem hi, ei]
              obtain ⟨x, hx2⟩ : ∃ x, xs[i]? = some x := ⟨_, List.getElem?_eq_getElem (show i < xs.length by rw [h.length]; exact hi)⟩
              have mem := pr_get h hx2 ho2
              cases mem with
              | no t h1 h2 => cases hvo
              | seq e2 ht2 hl2 => exact ht2 v hvo
            refine ⟨_, rfl, D2, flatO os, rfl, .inl (SqL.of hD4), _, rfl, c, dx, _, rfl, s5 _ _ hx, c, zs, m, rfl, hc.same s5, zs.length, rfl, by omega, rfl, _, rfl, ?_⟩
            rw [show decide (V.int ((flatO os).length : Nat) = V.int (zs.length : Nat)) = decide ((flatO os).length = zs.length) from decide_eq_decide.mpr ⟨fun e => by have := V.int.inj e; omega, fun e => by rw [e]⟩]
            cases h1 : decide ((flatO os).length = zs.length) with
            | false =>
              rw [h1] at q
              exact iteF (q _ s5)
            | true =>
              rw [h1, Bool.true_and] at q
              refine iteT ⟨_, rfl, D2, rfl, ⟨_, SqL.of hD4⟩, fun D6 nD6 => ?_⟩
              refine lc_fm (K := K) (a := D2) (xs := flatO os) (.inl ⟨rfl, SqL.of hD4⟩) (os := (flatO os).map fun v => some (V.bl (hasB v zs))) (by rw [List.length_map]) big nD6 (fun _ => rfl) (fun i x o H7 N2 M hx7 ho s7 kN kM => ?_) (fun H7 s7 hD7 => ?_)
              · rw [List.getElem?_map, hx7] at ho
                obtain rfl := Option.some.inj ho
                obtain ⟨Tx, tx⟩ := typed x (List.mem_of_getElem? hx7)
                have s8 := s5.trans s7
                exact rd_yes ⟨_, rfl, _, rfl, c, dx, _, rfl, s8 _ _ hx, c, x, zs, m, Tx, rfl, hc.same s8, tx.same s8, _, rfl, by rw [Bool.bne_false]; exact kN _ _ rfl (Same.refl _)⟩
              · rw [fm_some, show ((flatO os).map fun v => V.bl (hasB v zs)) = ((flatO os).map fun v => hasB v zs).map V.bl by rw [List.map_map]; rfl] at hD7
                refine ⟨D6, _, rfl, SqL.of hD7, _, rfl, ?_⟩
                rw [show ((flatO os).map fun v => hasB v zs).all id = (flatO os).all fun v => hasB v zs by rw [List.all_map]; rfl]
                have s8 := s5.trans s7
                cases h2 : (flatO os).all fun v => hasB v zs with
                | false =>
                  rw [h2] at q
                  exact iteF (q _ s8)
                | true =>
                  rw [h2, Bool.true_and] at q
                  obtain ⟨ys, ey⟩ := strs_of_has h2
                  rw [ey] at q big hD4
                  have hD8 := s7 _ _ hD4
                  refine iteT ⟨_, rfl, D2, ys.map Sum.inr, rfl, .inl (by rw [← keys_of_strs]; exact SqL.of hD8), (by rw [List.length_map] at big ⊢; exact big), fun r nr => ?_⟩
                  refine ⟨r, _, _, rfl, upd_same, ?_, _, rfl, D2, _, rfl, .inl (SqL.of (same_new nr _ _ hD8)), rfl, ?_⟩
                  · have := Km.uniq_le (ys.map (Sum.inr : Str → Key))
                    rw [List.length_map] at this big
                    omega
                  · rw [uniq_strs]
                    exact q _ (s8.trans (same_new nr))
end
end K09

set_option Elab.async false
set_option linter.all false
set_option maxRecDepth 100000
set_option maxHeartbeats 4000000
namespace K09
open PySem PySem.Spec PyProof.Rows L2
theorem parts_few {zs : List Str} {ls : List (List Str)} (p : Parts zs ls) : ls.length ≤ zs.length := by
  have key : ∀ l : List (List Str), (∀ x ∈ l, x ≠ []) → l.length ≤ l.flatten.length := fun l => by
    induction l with
    | nil => intro _; exact Nat.le_refl _
    | cons x l ih =>
      intro h
      rw [List.flatten_cons, List.length_append, List.length_cons]
      have h1 := ih fun y hy => h y (List.mem_cons_of_mem _ hy)
      have h2 : 0 < x.length := List.length_pos_iff.mpr (h x List.mem_cons_self)
      omega
  have := key ls p.ne
  rw [p.len] at this
  exact this
theorem ordered_ne {zs : List Str} {ls : List (List Str)} (p : Parts zs ls) : ∀ l ∈ ordered zs ls, l ≠ [] := fun l hl => by
  obtain ⟨r, hr, rfl⟩ := List.mem_map.mp hl
  intro e
  cases r with
  | nil => exact p.ne _ hr rfl
  | cons a r =>
    have : a ∈ zs.filter fun q => decide (q ∈ a :: r) := List.mem_filter.mpr ⟨p.mem _ hr a List.mem_cons_self, by simp⟩
    rw [e] at this
    cases this
theorem zip_filter {α β : Type} {F : α → β → Prop} (p : β → Bool) {us : List α} {ol : List β} (h : Paired F us ol) : Paired F (((us.zip ol).filter fun q => p q.2).map (·.1)) (ol.filter p) := by
  induction h with
  | nil => exact .nil
  | @cons a b l1 l2 h0 t ih =>
    rw [List.zip_cons_cons]
    cases e : p b with
    | true =>
      rw [List.filter_cons_of_pos (by exact e), List.filter_cons_of_pos e]
      exact .cons h0 ih
    | false =>
      rw [List.filter_cons_of_neg (by show ¬ p b = true; rw [e]; decide), List.filter_cons_of_neg (by rw [e]; decide)]
      exact ih
theorem paired_append {α β : Type} {F : α → β → Prop} {a1 a2 : List α} {b1 b2 : List β} (h1 : Paired F a1 b1) (h2 : Paired F a2 b2) : Paired F (a1 ++ a2) (b1 ++ b2) := by
  induction h1 with
  | nil => exact h2
  | cons h0 t ih => exact .cons h0 ih
theorem paired_flat {α β γ : Type} {F : α → β → Prop} {f : γ → List α} {g : γ → List β} : ∀ {zs : List γ}, (∀ z ∈ zs, Paired F (f z) (g z)) → Paired F (zs.flatMap f) (zs.flatMap g)
  | [], _ => .nil
  | z :: zs, h => by
    rw [List.flatMap_cons, List.flatMap_cons]
    exact paired_append (h z List.mem_cons_self) (paired_flat fun y hy => h y (List.mem_cons_of_mem _ hy))
abbrev lioN : List Str := ["crowd", "lists", "ordered", "person", "members", "first"]
abbrev isrN : List Str := ["readers", "lists", "trim", "ranked", "members", "person"]
/-- the lists that begin with f -/
def keptOf (us : List Addr) (ol : List (List Str)) (f : Str) : List (Option V) := (us.zip ol).map fun p => if decide (p.2.head? = some f) = true then some (V.ref p.1) else none
def begins (us : List Addr) (ol : List (List Str)) (f : Str) : List Addr := ((us.zip ol).filter fun p => decide (p.2.head? = some f)).map (·.1)
theorem kept_flat (us : List Addr) (ol : List (List Str)) (zs : List Str) : ((zs.map fun f => some (us.map V.ref, keptOf us ol f)).flatMap fun o => ((o.map (·.2)).getD []).filterMap id) = (zs.flatMap (begins us ol)).map V.ref := by
  induction zs with
  | nil => rfl
  | cons z zs ih =>
    rw [List.map_cons, List.flatMap_cons, List.flatMap_cons, List.map_append, ih]
    congr 1
    show (keptOf us ol z).filterMap id = _
    unfold keptOf begins
    rw [fm_if (fun p : Addr × List Str => decide (p.2.head? = some z)) (fun p => V.ref p.1), List.map_map]
    rfl
theorem readers_get {H : Hp} {d : Addr} {zs : List Str} {rs : List Pr} (h : ReadersAt H d zs rs) (nd : zs.Nodup) {z : Str} (hz : z ∈ zs) : ∃ u, DGet H d (.str z) (some (.ref u)) ∧ H u = some (.lst ((readersOf rs z).map V.str)) := by
  obtain ⟨us, h1, h2⟩ := h
  have key : ∀ {us : List Addr} {ys : List Str}, Paired (fun u z => H u = some (.lst ((readersOf rs z).map V.str))) us ys → ys.Nodup → z ∈ ys →
      ∃ u, valV ((ys.zip us).map fun p => ((Sum.inr p.1 : Key), V.ref p.2)) (Sum.inr z) = some (.ref u) ∧ H u = some (.lst ((readersOf rs z).map V.str)) := fun {us ys} hp => by
    induction hp with
    | nil => intro _ hz; cases hz
    | @cons u y l1 l2 h0 t ih =>
      intro nd hz
      rw [List.nodup_cons] at nd
      rw [List.zip_cons_cons, List.map_cons]
      unfold valV
      by_cases e : y = z
      · subst e
        rw [List.find?_cons_of_pos (by simp)]
        exact ⟨u, rfl, h0⟩
      · rw [List.find?_cons_of_neg (by simpa using e)]
        rcases List.mem_cons.mp hz with q | hz
        · exact absurd q.symm e
        · exact ih nd.2 hz
  obtain ⟨u, e, hu⟩ := key h2 nd hz
  refine ⟨u, ?_, hu⟩
  have := DGet.k (k := Sum.inr z) h1
  rw [e] at this
  exact this
section
variable {P : Program} {w : World} {K : PySem.W.Frag} {mg : Str → Option Value} {base : Heap} {C : Addr}
theorem ok_inOrder {f pPe fPe : Addr} {fd dPe : FuncData} (F : Fun K "lists_in_order" "lists_in_order" sListsInOrder f fd) (cl : Cls K C) (pp : PropOf K C "people" pPe fPe) (GPe : FnOk P w K mg base CX0 1 fPe dPe ["self"] (spCrowdPeople C)) (bPe : Binds K dPe ["self"] []) :
    FnOk P w K mg base CX0 3 f fd ["crowd", "lists"] (spInOrder C) := by
  refine F.ok scListsInOrder (fun vs H Q E h => ?_) (fun cdv A outer s H vs Q E hr h => ?_)
  · obtain ⟨c, l, zs, m, ls, rfl, _⟩ := h
    rfl
  · obtain ⟨c, l, zs, m, ls, rfl, hc, z8, ⟨us0, hl, hus0⟩, hp, q⟩ := h
    obtain ⟨dx, lp, hx, hlp⟩ := id hc
    have few := parts_few hp
    refine ⟨_, pss_cons (ps_set (i := 2) scListsInOrder.nd rfl (.inr rfl) (by
        refine' pe_lc (own := [("members", 4)]) (g := gName 4) (by rfl) scListsInOrder.nd ?h1 (blkOk_by (own := [("members", 4)]) (N := lioN) (sc := defScope sListsInOrder) (by decide +kernel)) (fun _ _ _ _ _ => pg_name (i := 4) scListsInOrder.nd rfl (Or.inr rfl)) (fun _ _ _ _ _ => pts_nil) ?h2
        (case h1 => exact pi_seq (pv 1))
        (case h2 =>
          intro _ _ _ _ _
          refine' pe_lc (own := [("person", 3)]) (wi := iList K (tProp C (spCrowdPeople C) [] (fun _ _ _ => False) (tVar 0))) (g := gName 3) (by rfl) scListsInOrder.nd ?k1 (blkOk_by (own := [("person", 3)]) (N := lioN) (by kernel_rfl)) ?k2 ?k3 ?k4
          (case k1 => exact pi_list (pe_prop (pv 0) cl pp GPe (Room.mono (by exact hr) (by decide)) bPe .nil pass0 rfl))
          (case k2 => intro _ _ _ _ _; exact pg_name (i := 3) scListsInOrder.nd rfl (Or.inl rfl))
          (case k3 => intro _ _ _ _ _; exact pts_one (pt_cmpR (r := rIn K false) op_in_seq (pv 3) (pv 4) (by rfl)))
          (case k4 => intro _ _ _ _ _; exact pv 3))))
      (pss_one (ps_ret (by
        refine' pe_lc2 (own := [("first", 5), ("members", 4)]) (vs1 := [4]) (wi1 := iSeq K (tVar 2)) (g := gName 5) (g1 := gName 4) (by rfl) scListsInOrder.nd ?p1 (blkOk_by (own := [("first", 5), ("members", 4)]) (N := lioN) (sc := defScope sListsInOrder) (by decide +kernel)) (by decide)
          (fun _ _ _ _ _ => pg_name (i := 5) scListsInOrder.nd rfl (Or.inl rfl)) (fun _ _ _ _ _ => pts_nil) ?p2 (fun _ _ _ _ _ => pg_name (i := 4) scListsInOrder.nd rfl (Or.inl rfl)) ?p3 ?p4
        (case p1 => exact pi_list (pe_prop (pv 0) cl pp GPe (hr.mono (by decide)) bPe .nil pass0 rfl))
        (case p2 => intro _ _ _ _ _; exact pi_seq (pv 2))
        (case p3 => intro _ _ _ _ _; exact pts_one (pt_cmpR op_eq (pe_ix (r := rIxL K) ix_list (pv 4) pe_int (fun _ _ => rfl)) (pv 5) (nomark _)))
        (case p4 => intro _ _ _ _ _; exact pv 4)))), ?_⟩
    refine ⟨_, rfl, l, us0.map V.ref, rfl, hl.sq, fun J ji D nD => ?_⟩
    refine lc_new ji (F := fun H y l => ∃ u, y = V.ref u ∧ H u = some (.lst (l.map V.str))) (ds := ls.map fun l => some (zs.filter fun p => decide (p ∈ l))) (by rw [List.length_map, List.length_map, hus0.length]) (by rw [List.length_map, hus0.length]; omega) nD
      (fun acc G G2 y l hD ny b fy => ?_) (fun _ => rfl) (fun i x o G N M hx2 ho s2 nDG kN kM => ?_) (fun G ys s2 hD hys => ?_)
    · obtain ⟨u, rfl, hu⟩ := fy
      exact ⟨u, rfl, b _ _ (fun e => ny (by rw [e])) hu⟩
    · rw [List.getElem?_map] at hx2 ho
      obtain ⟨u0, hu0, rfl⟩ := Option.map_eq_some_iff.mp hx2
      obtain ⟨l0, hl0, rfl⟩ := Option.map_eq_some_iff.mp ho
      have hm := pr_get hus0 hu0 hl0
      refine rd_yes ⟨_, rfl, c, dx, _, rfl, s2 _ _ hx, c, zs, m, rfl, hc.same s2, by omega, fun G2 pp2 s3 np2 hp2 => ⟨pp2, rfl, ⟨_, SqL.of hp2⟩, fun D2 nD2 => ?_⟩⟩
      refine lc_fm (K := K) (a := pp2) (xs := zs.map V.str) (.inl ⟨rfl, SqL.of hp2⟩) (os := zs.map fun z => if decide (z ∈ l0) = true then some (V.str z) else none) (by rw [List.length_map, List.length_map]) (by rw [List.length_map]; omega) nD2 (fun _ => rfl) (fun j y o2 G3 N3 M3 hy ho2 s4 kN3 kM3 => ?_) (fun G3 s4 hD3 => ?_)
      · rw [List.getElem?_map] at hy ho2
        obtain ⟨z, hz, rfl⟩ := Option.map_eq_some_iff.mp hy
        rw [hz] at ho2
        have e2 : (if decide (z ∈ l0) = true then some (V.str z) else none) = o2 := Option.some.inj ho2
        have s5 := (s2.trans s3).trans s4
        refine ⟨_, rfl, _, rfl, u0, _, rfl, ((hm.same s5).sq (K := K)).or, rfl, all_flat_strs l0, _, rfl, ?_⟩
        rw [if_neg (by decide), inV_strs]
        cases hd : decide (z ∈ l0) with
        | true =>
          rw [hd, if_pos rfl] at e2
          exact iteT ⟨_, rfl, kN3 _ _ e2.symm (Same.refl _)⟩
        | false =>
          rw [hd, if_neg (by decide)] at e2
          exact iteF (kM3 _ e2.symm (Same.refl _))
      · rw [fm_if (fun z : Str => decide (z ∈ l0)) V.str] at hD3
        refine kN _ _ _ rfl (s3.trans s4) (fun e => ?_) ⟨D2, rfl, hD3⟩
        have e2 : D2 = D := V.ref.inj e
        cases hGD : G D with
        | none => exact nDG hGD
        | some o =>
          have := s3 _ _ hGD
          rw [← e2, nD2] at this
          cases this
    · rw [fm_some] at hys
      have sG := s2
      -- the new lists, by their addresses
      obtain ⟨us, rfl, hus⟩ : ∃ us : List Addr, ys = us.map V.ref ∧ Rows G us (ordered zs ls) := by
        have : ∀ {ys : List V} {ol : List (List Str)}, Paired (fun y a => y ≠ V.ref D ∧ ∃ u, y = V.ref u ∧ G u = some (.lst (a.map V.str))) ys ol → ∃ us : List Addr, ys = us.map V.ref ∧ Rows G us ol := fun h => by
          induction h with
          | nil => exact ⟨[], rfl, .nil⟩
          | cons h0 t ih =>
            obtain ⟨us, rfl, r⟩ := ih
            obtain ⟨_, u, rfl, hu⟩ := h0
            exact ⟨u :: us, rfl, .cons hu r⟩
        exact this hys
      have lus : us.length = ls.length := by
        rw [hus.length]
        exact List.length_map ..
      refine ⟨_, rfl, c, dx, _, rfl, sG _ _ hx, c, zs, m, rfl, hc.same sG, by omega, fun G2 pp2 s3 np2 hp2 => ⟨pp2, rfl, ⟨_, SqL.of hp2⟩, fun D2 nD2 => ?_⟩⟩
      refine lc2_fm (K := K) (a := pp2) (xs := zs.map V.str) (.inl ⟨rfl, SqL.of hp2⟩) (os := zs.map fun f => some (us.map V.ref, keptOf us (ordered zs ls) f)) (by rw [List.length_map, List.length_map]) (fun p hp2 => ?_) ?_ nD2 (fun _ => rfl) (fun _ _ => rfl) (fun i x o G4 R M hx4 ho s4 kR kM => ?_) (fun i j x y p o G4 N2 M hx4 ho hy ho2 s4 kN kM => ?_) (fun G4 s4 hD4 => ?_)
      · obtain ⟨f, _, e⟩ := List.mem_map.mp hp2
        rw [← Option.some.inj e]
        show (keptOf us (ordered zs ls) f).length = (us.map V.ref).length
        unfold keptOf
        rw [List.length_map, List.length_zip, List.length_map, hus.length, Nat.min_self]
      · rw [List.flatMap_map]
        have h1 := flat_le (l := zs) (f := fun f => (((some (us.map V.ref, keptOf us (ordered zs ls) f)).map (·.2)).getD [])) (k := 8) fun f _ => by
          show (keptOf us (ordered zs ls) f).length ≤ 8
          unfold keptOf
          rw [List.length_map, List.length_zip]
          omega
        omega
      · rw [List.getElem?_map] at ho
        obtain ⟨f, hf, rfl⟩ := Option.map_eq_some_iff.mp ho
        have hD5 := s4 _ _ (s3 _ _ hD)
        refine rd_yesI ⟨_, rfl, D, us.map V.ref, rfl, .inl (SqL.of hD5), fun J3 ji3 => kR _ D J3 _ rfl (Same.refl _) ?_ ji3⟩
        exact ne_of_none (s3 _ _ hD) nD2
      · rw [List.getElem?_map] at ho hx4
        obtain ⟨f, hf, e⟩ := Option.map_eq_some_iff.mp ho
        rw [hf] at hx4
        obtain rfl := Option.some.inj hx4
        have e' := Option.some.inj e
        subst e'
        rw [List.getElem?_map] at hy
        obtain ⟨u, hu, rfl⟩ := Option.map_eq_some_iff.mp hy
        have jl : j < (ordered zs ls).length := by
          rw [← hus.length]
          exact (List.getElem?_eq_some_iff.mp hu).1
        obtain ⟨l1, hl1⟩ : ∃ l1, (ordered zs ls)[j]? = some l1 := ⟨_, List.getElem?_eq_getElem jl⟩
        have hul := pr_get hus hu hl1
        have nl1 := ordered_ne hp l1 (List.mem_of_getElem? hl1)
        have e2 : (if decide (l1.head? = some f) = true then some (V.ref u) else none) = o := by
          have : (us.zip (ordered zs ls))[j]? = some (u, l1) := by
            rw [List.getElem?_zip_eq_some]
            exact ⟨hu, hl1⟩
          unfold keptOf at ho2
          rw [List.getElem?_map, this] at ho2
          exact Option.some.inj ho2
        cases l1 with
        | nil => exact absurd rfl nl1
        | cons a r =>
          refine ⟨_, rfl, u, _, 0, .str a, rfl, rfl, SqL.of (s4 _ _ (s3 _ _ hul)), atI_nat (xs := (a :: r).map V.str) (j := 0) rfl, _, rfl, rfl, _, rfl, ?_⟩
          rw [dec_str]
          have e3 : decide ((a :: r).head? = some f) = decide (a = f) := decide_eq_decide.mpr ⟨fun z => Option.some.inj z, fun z => by rw [z]; rfl⟩
          rw [e3] at e2
          cases hd : decide (a = f) with
          | true =>
            rw [hd, if_pos rfl] at e2
            exact iteT ⟨_, rfl, kN _ _ e2.symm (Same.refl _)⟩
          | false =>
            rw [hd, if_neg (by decide)] at e2
            exact iteF (kM _ e2.symm (Same.refl _))
      · rw [kept_flat] at hD4
        have s5 := (s2.trans s3).trans s4
        refine q G4 D2 _ s5 ((s2.trans s3).free nD2) hD4 ?_
        refine Paired.mono (fun _ _ z => s4 _ _ (s3 _ _ z)) ?_
        exact paired_flat fun f _ => zip_filter (fun l : List Str => decide (l.head? = some f)) hus
theorem ok_short {f : Addr} {fd : FuncData} (F : Fun K "is_short_of_readers" "is_short_of_readers" sIsShortOfReaders f fd) (B : Bt mg) (za : mg "any" = none) : FnOk P w K mg base CX0 1 f fd ["readers", "lists", "trim"] spShort := by
  refine F.ok scIsShortOfReaders (fun vs H Q E h => ?_) (fun cdv A outer s H vs Q E hr h => ?_)
  · obtain ⟨d, l, zs, rs, ls, us, t, rfl, _⟩ := h
    rfl
  · obtain ⟨d, l, zs, rs, ls, us, t, rfl, hR, nd, hl, hus, mem, big, t0, t3, q⟩ := h
    have hu1 : (A.deeper (envOfC "is_short_of_readers" (defScope sIsShortOfReaders) s.heap.objs.size f cdv)).units + 1 < cLine := by
      have := hr.units
      omega
    refine ⟨_, pss_cons (by
        refine' ps_setLc2 (i := 3) (own := [("members", 4), ("person", 5)]) (vs1 := [5]) (wi1 := iSeq K (tVar 4)) (g := gName 4) (g1 := gName 5) (by rfl) scIsShortOfReaders.nd rfl rfl (sw_true rfl rfl rfl (by decide +kernel)) ?h1 (blkOk_by (own := [("members", 4), ("person", 5)]) (N := isrN) (sc := defScope sIsShortOfReaders) (by decide +kernel)) (by decide)
          (fun _ _ _ _ _ => pg_name (i := 4) scIsShortOfReaders.nd rfl (Or.inl rfl)) ?h3 ?h2 (fun _ _ _ _ _ => pg_name (i := 5) scIsShortOfReaders.nd rfl (Or.inl rfl)) (fun _ _ _ _ _ => pts_nil) ?h4
        (case h1 => exact pi_seq (pv 1))
        (case h3 => intro _ _ _ _ _; exact pts_one (pt_cmpR op_gt (pe_callB (id := "len") (r := rLenS K) call_lenS (by rfl) B.len PySem.boot_len (pa_cons (pv 4) pa_nil)) pe_int (nomark _)))
        (case h2 => intro _ _ _ _ _; exact pi_seq (pv 4))
        (case h4 => intro _ _ _ _ _; exact pv 5))
      (pss_one (ps_ret (pe_callB (cr_any rfl) (by rfl) za (by decide +kernel) (pa_cons (pe_lc (own := [("person", 5)]) (g := gName 5) (by rfl) scIsShortOfReaders.nd (pi_seq (pv 3)) (blkOk_by (own := [("person", 5)]) (N := isrN) (sc := defScope sIsShortOfReaders) (by decide +kernel))
          (fun _ _ _ _ _ => pg_name (i := 5) scIsShortOfReaders.nd rfl (Or.inl rfl)) (fun _ _ _ _ _ => pts_nil)
          (fun _ _ _ _ _ => by exact pe_cmpR op_le (pe_callB (id := "len") (r := rLenS K) call_lenS (by rfl) B.len PySem.boot_len (pa_cons (pe_dget (td := tVar 0) (ty := tVar 5) (by exact hu1) (pv 0) (pv 5) (fun _ _ => rfl)) pa_nil)) (pe_op op_mul pe_int (pv 2)) (nomark _))) pa_nil)))), ?_⟩
    refine ⟨_, rfl, l, us.map V.ref, rfl, .inl (SqL.of hl), fun J ji D nD => ?_⟩
    refine lc2_fm ji (os := ls.map fun l => if decide (1 < l.length) = true then some (l.map V.str, (l.map V.str).map some) else none) (by rw [List.length_map, List.length_map, hus.length]) (fun p hp2 => ?_) ?_ nD (fun _ => rfl) (fun _ _ => rfl) (fun i x o G4 R M hx4 ho s4 kR kM => ?_) (fun i j x y p o G4 N2 M hx4 ho hy ho2 s4 kN kM => ?_) (fun G4 s4 hD4 => ?_)
    · obtain ⟨l1, _, e⟩ := List.mem_map.mp hp2
      cases hd : decide (1 < l1.length) with
      | true =>
        rw [hd, if_pos rfl] at e
        rw [← Option.some.inj e]
        exact List.length_map ..
      | false =>
        rw [hd, if_neg (by decide)] at e
        cases e
    · have key : ∀ ls : List (List Str), ((ls.map fun l => if decide (1 < l.length) = true then some (l.map V.str, (l.map V.str).map some) else none).flatMap fun o => (o.map (·.2)).getD []).length ≤ ls.flatten.length := fun ls => by
        induction ls with
        | nil => exact Nat.le_refl _
        | cons l1 ls ih =>
          rw [List.map_cons, List.flatMap_cons, List.flatten_cons, List.length_append, List.length_append]
          cases hd : decide (1 < l1.length) with
          | true =>
            rw [if_pos rfl]
            have : (((some (l1.map V.str, (l1.map V.str).map some)).map (·.2)).getD [] : List (Option V)).length = l1.length := by
              show ((l1.map V.str).map some).length = _
              rw [List.length_map, List.length_map]
            omega
          | false =>
            rw [if_neg (by decide)]
            have : (((none : Option (List V × List (Option V))).map (·.2)).getD [] : List (Option V)).length = 0 := rfl
            omega
      have := key ls
      omega
    · rw [List.getElem?_map] at ho hx4
      obtain ⟨l1, hl1, e⟩ := Option.map_eq_some_iff.mp ho
      obtain ⟨u, hu, rfl⟩ := Option.map_eq_some_iff.mp hx4
      have hul := s4 _ _ (pr_get hus hu hl1)
      refine ⟨_, rfl, u, _, rfl, .inl (SqL.of hul), _, _, rfl, rfl, _, rfl, ?_⟩
      rw [show decide ((1 : Int) < ((l1.map V.str).length : Nat)) = decide (1 < l1.length) from decide_eq_decide.mpr (by rw [List.length_map]; omega)]
      cases hd : decide (1 < l1.length) with
      | true =>
        rw [hd, if_pos rfl] at e
        refine iteT ⟨_, rfl, u, _, rfl, .inl (SqL.of hul), fun J3 ji3 => kR _ u J3 _ e.symm (Same.refl _) ?_ ji3⟩
        exact ne_of_none (pr_get hus hu hl1) nD
      | false =>
        rw [hd, if_neg (by decide)] at e
        exact iteF (kM _ e.symm (Same.refl _))
    · rw [List.getElem?_map] at ho
      obtain ⟨l1, hl1, e⟩ := Option.map_eq_some_iff.mp ho
      cases hd : decide (1 < l1.length) with
      | true =>
        rw [hd, if_pos rfl] at e
        have e' := Option.some.inj e
        subst e'
        rw [List.getElem?_map, hy] at ho2
        exact rd_yes ⟨_, rfl, kN _ _ (Option.some.inj ho2).symm (Same.refl _)⟩
      | false =>
        rw [hd, if_neg (by decide)] at e
        cases e
    · have fl : ∀ ls : List (List Str), ((ls.map fun l => if decide (1 < l.length) = true then some (l.map V.str, (l.map V.str).map some) else none).flatMap fun o => ((o.map (·.2)).getD []).filterMap id) = ((ls.filter fun l => decide (1 < l.length)).flatten).map V.str := fun ls => by
        induction ls with
        | nil => rfl
        | cons l1 ls ih =>
          rw [List.map_cons, List.flatMap_cons, ih]
          cases hd : decide (1 < l1.length) with
          | true =>
            rw [if_pos rfl, List.filter_cons_of_pos (by exact hd), List.flatten_cons, List.map_append]
            congr 1
            show ((l1.map V.str).map some).filterMap id = _
            have := fm_some (fun v : V => v) (l1.map V.str)
            rw [List.map_id'] at this
            exact this
          | false =>
            rw [if_neg (by decide), List.filter_cons_of_neg (by rw [hd]; decide)]
            rfl
      rw [fl] at hD4
      have rk : ∀ z ∈ (ls.filter fun l => decide (1 < l.length)).flatten, z ∈ zs := fun z hz => by
        obtain ⟨l1, hl1, hz1⟩ := List.mem_flatten.mp hz
        exact mem l1 (List.mem_filter.mp hl1).1 z hz1
      have rl : ((ls.filter fun l => decide (1 < l.length)).flatten).length ≤ 1000 := by
        have key : ∀ ls : List (List Str), ((ls.filter fun l => decide (1 < l.length)).flatten).length ≤ ls.flatten.length := fun ls => by
          induction ls with
          | nil => exact Nat.le_refl _
          | cons l1 ls ih =>
            rw [List.flatten_cons, List.length_append, List.filter_cons]
            split
            · rw [List.flatten_cons, List.length_append]
              omega
            · omega
        have := key ls
        omega
      have eq : shortB rs ls t = ((ls.filter fun l => decide (1 < l.length)).flatten.map fun p => decide (((readersOf rs p).length : Int) ≤ 2 * t)).any id := by
        rw [List.any_map]
        rfl
      rw [eq] at q
      generalize (ls.filter fun l => decide (1 < l.length)).flatten = rank at hD4 rk rl q
      refine ⟨_, rfl, D, rank.map V.str, rfl, .inl (SqL.of hD4), fun J2 ji2 D2 nD2 => ?_⟩
      refine lc_fm ji2 (os := rank.map fun p => some (V.bl (decide (((readersOf rs p).length : Int) ≤ 2 * t)))) (by rw [List.length_map, List.length_map]) (by rw [List.length_map]; omega) nD2 (fun _ => rfl) (fun i x o G5 N2 M hx5 ho s5 kN kM => ?_) (fun G5 s5 hD5 => ?_)
      · rw [List.getElem?_map] at hx5 ho
        obtain ⟨z, hz, rfl⟩ := Option.map_eq_some_iff.mp hx5
        rw [hz] at ho
        have e2 : some (V.bl (decide (((readersOf rs z).length : Int) ≤ 2 * t))) = o := Option.some.inj ho
        have s6 := s4.trans s5
        obtain ⟨u, hg, hu⟩ := readers_get (hR.same s6) nd (rk z (List.mem_of_getElem? hz))
        refine rd_yes ⟨_, rfl, _, rfl, d, _, rfl, hg, u, _, rfl, .inl (SqL.of hu), _, rfl, _, _, rfl, rfl, .inl ⟨by decide, by decide⟩, _, _, rfl, rfl, kN _ _ ?_ (Same.refl _)⟩
        rw [← e2, List.length_map]
      · rw [fm_some, show (rank.map fun p => V.bl (decide (((readersOf rs p).length : Int) ≤ 2 * t))) = (rank.map fun p => decide (((readersOf rs p).length : Int) ≤ 2 * t)).map V.bl by rw [List.map_map]; rfl] at hD5
        exact ⟨D2, _, rfl, SqL.of hD5, q _ (s4.trans s5)⟩
end
end K09

set_option Elab.async false
set_option linter.all false
set_option maxRecDepth 100000
set_option maxHeartbeats 4000000
namespace K09
open PySem PySem.Spec PyProof.Rows L2
abbrev riN : List Str := ["self", "crowd", "turn", "reads", "gather", "trim", "lists", "prizes", "pair", "person"]
abbrev ruKws : List (Str × V) := [("turn", .str "plain"), ("reads", .non), ("gather", .str "sum"), ("trim", .int 0), ("lists", .non), ("prizes", .int 0)]
/-- a tuple of two words -/
def IsPr (H : Hp) (y : V) (p : Pr) : Prop := ∃ t, y = .ref t ∧ H t = some (.tup [.str p.1, .str p.2])
theorem tps_paired {H : Hp} : ∀ {ys : List V} {ps : List Pr}, Tps H ys ps → Paired (IsPr H) ys ps
  | [], [], _ => .nil
  | [], _ :: _, t => by
    have := t.1
    cases this
  | _ :: _, [], t => by
    have := t.1
    cases this
  | y :: ys, p :: ps, t => .cons (t.2 0 y p rfl rfl) (tps_paired ⟨by have := t.1; simpa using this, fun j y q h1 h2 => t.2 (j + 1) y q h1 h2⟩)
theorem paired_tps {H : Hp} {ys : List V} {ps : List Pr} (h : Paired (IsPr H) ys ps) : Tps H ys ps := ⟨h.length, fun j y q h1 h2 => pr_get h h1 h2⟩
theorem But.free {x d : Addr} {H H1 : Hp} (b : But x H H1) (hx : H1 x ≠ none) (nd : H1 d = none) : H d = none := by
  cases e : H d with
  | none => rfl
  | some o =>
    have ne : d ≠ x := fun z => hx (z ▸ nd)
    rw [b _ _ ne e] at nd
    cases nd
section
variable {P : Program} {w : World} {K : PySem.W.Frag} {mg : Str → Option Value} {base : Heap} {C CR : Addr}
theorem ok_badRuleInit {f D : Addr} {fd : FuncData} (F : Fun K "__init__" "BadRule.__init__" sBadRuleInit f fd) : FnOk P w K mg base CX0 1 f fd ["self", "part"] (spErrInit K D "part") := by
  refine F.ok scBadRuleInit (fun vs H Q E h => ?_) (fun cdv A outer s H vs Q E hr h => ?_)
  · obtain ⟨a, v, rfl, _⟩ := h
    rfl
  · obtain ⟨a, v, rfl, ox, nf, ha, q⟩ := h
    refine ⟨_, pss_one (ps_ost (f := "part") (pv 0) (pv 1)), ?_⟩
    exact ⟨_, rfl, _, rfl, a, D, rfl, ox, nf, .inl ⟨ha, fun d nd ne => q d nd ne⟩⟩
theorem ok_ruleInit {f fNC fT fAR fG fM fAL fIO fS fN fB fPa fPe pPe CB : Addr} {fd dNC dT dAR dG dM dAL dIO dS dN dB dPa dPe : FuncData} (F : FunD K "__init__" "Rule.__init__" (defArgs sRuleInit) (defBody sRuleInit) (defScope sRuleInit) [] ruKws f fd)
    (GNC : FnOk P w K mg base CX0 1 fNC dNC ["crowd"] (spNeedCrowd C)) (kNC : PySem.W.keepIn K (.ref fNC) = true) (bNC : Binds K dNC ["crowd"] []) (gNC : mg "need_crowd" = some (.ref fNC))
    (GT : FnOk P w K mg base CX0 1 fT dT ["value"] (spIsTurn K)) (kT : PySem.W.keepIn K (.ref fT) = true) (bT : Binds K dT ["value"] []) (gT : mg "is_turn" = some (.ref fT))
    (GAR : FnOk P w K mg base CX0 3 fAR dAR ["crowd", "value"] (spAreReads K C)) (kAR : PySem.W.keepIn K (.ref fAR) = true) (bAR : Binds K dAR ["crowd", "value"] []) (gAR : mg "are_reads" = some (.ref fAR))
    (GG : FnOk P w K mg base CX0 1 fG dG ["turn", "value"] (spIsGather K)) (kG : PySem.W.keepIn K (.ref fG) = true) (bG : Binds K dG ["turn", "value"] []) (gG : mg "is_gather" = some (.ref fG))
    (GM : FnOk P w K mg base CX0 3 fM dM ["gather", "value"] (spIsTrim K)) (kM : PySem.W.keepIn K (.ref fM) = true) (bM : Binds K dM ["gather", "value"] []) (gM : mg "is_trim" = some (.ref fM))
    (GAL : FnOk P w K mg base CX0 3 fAL dAL ["crowd", "value"] (spAreLists K C)) (kAL : PySem.W.keepIn K (.ref fAL) = true) (bAL : Binds K dAL ["crowd", "value"] []) (gAL : mg "are_lists" = some (.ref fAL))
    (GIO : FnOk P w K mg base CX0 3 fIO dIO ["crowd", "lists"] (spInOrder C)) (kIO : PySem.W.keepIn K (.ref fIO) = true) (bIO : Binds K dIO ["crowd", "lists"] []) (gIO : mg "lists_in_order" = some (.ref fIO))
    (GS : FnOk P w K mg base CX0 1 fS dS ["readers", "lists", "trim"] spShort) (kS : PySem.W.keepIn K (.ref fS) = true) (bS : Binds K dS ["readers", "lists", "trim"] []) (gS : mg "is_short_of_readers" = some (.ref fS))
    (GN : FnOk P w K mg base CX0 2 fN dN ["value", "least", "most"] (spWithin K)) (kN : PySem.W.keepIn K (.ref fN) = true) (bN : Binds K dN ["value", "least", "most"] []) (gN : mg "is_integer_within" = some (.ref fN))
    (GB : FnOk P w K mg base CX0 1 fB dB ["self", "part"] (spErrInit K CB "part")) (bB : Binds K dB ["self", "part"] []) (iB : PySem.W.findIn K (.ref CB) "__init__" = some (some (.ref fB))) (tB : PySem.W.typeIn K (.ref fB) = some (.type "function"))
    (EB : Er K mg "BadRule" CB) (nf : PySem.W.findIn K (.ref CB) "part" = some none)
    (cl : Cls K C) (mPa : Meth K C "pairs" fPa) (GPa : FnOk P w K mg base CX0 1 fPa dPa ["self"] (spCrowdPairs C)) (bPa : Binds K dPa ["self"] []) (pp : PropOf K C "people" pPe fPe) (GPe : FnOk P w K mg base CX0 1 fPe dPe ["self"] (spCrowdPeople C)) (bPe : Binds K dPe ["self"] [])
    (clR : Cls K CR) (nA : ∀ n ∈ (["crowd", "turn", "gather", "trim", "prizes", "_reads", "_lists", "_readers"] : List Str), NoAttr K CR n) (R : Ru K mg) :
    FnOk P w K mg base (L2.CX P w) 4 f fd ["self", "crowd", "turn", "reads", "gather", "trim", "lists", "prizes"] (spRuleInit K C CR CB) := by
  obtain ⟨t8, g8⟩ := R.prizes
  have n1 := nA "crowd" (by decide)
  have n2 := nA "turn" (by decide)
  have n3 := nA "gather" (by decide)
  have n4 := nA "trim" (by decide)
  have n5 := nA "prizes" (by decide)
  have n6 := nA "_reads" (by decide)
  have n7 := nA "_lists" (by decide)
  have n8 := nA "_readers" (by decide)
  refine F.ok scRuleInit (fun vs H Q E h => ?_) (fun cdv A outer s H vs Q E hr h => ?_)
  · obtain ⟨H0, x, dx, c, zs, m, tv, rv, gv, mv, lv, pz, rB, lB, rs, ls, T1, T2, T3, T4, rfl, _⟩ := h
    rfl
  · obtain ⟨H0, x, dx, c, zs, m, tv, rv, gv, mv, lv, pz, rB, lB, rs, ls, T1, T2, T3, T4, rfl, s0, nx0, hx, hc, fo, ht, hR, hg, hm, hL, hp, bad, good⟩ := h
    have z8 := fo.most
    obtain ⟨dc, lc, hcx, hcl⟩ := id hc
    have hu1 : (A.deeper (envOfC "Rule.__init__" (defScope sRuleInit) s.heap.objs.size f cdv)).units + 1 < cLine := by
      have := hr.units
      omega
    have hu65 : (A.deeper (envOfC "Rule.__init__" (defScope sRuleInit) s.heap.objs.size f cdv)).units + 65 < cLine := by
      have := hr.un
      omega
    refine ⟨_, pss_cons (ps_expr (pe_call GNC (hr.mono (by decide)) (by rfl) gNC kNC bNC .nil pass0 (pa_cons (pv 1) pa_nil)))
      (pss_cons (ps_if (pt_not (pt_val (pe_call GT (hr.mono (by decide)) (by rfl) gT kT bT .nil pass0 (pa_cons (pv 2) pa_nil)))) (pss_one (ps_raise rfl (takes_of rfl rfl rfl rfl) (pmk_oex EB.ox iB tB GB (hr.mono (by decide)) bB .nil pass0 (by rfl) EB.g (pa_cons pe_str pa_nil)))) pss_nil)
      (pss_cons (ps_if (pt_cut (fun _ H c H' => c = !rB ∧ Same H H') (PW.pt (pw_and (pt_cmpR op_notN (pv 3) pe_non (nomark _)) (pw_and1 (pt_not (pt_val (pe_call GAR hr (by rfl) gAR kAR bAR .nil pass0 (pa_cons (pv 1) (pa_cons (pv 3) pa_nil))))))))) (pss_one (ps_raise rfl (takes_of rfl rfl rfl rfl) (pmk_oex EB.ox iB tB GB (hr.mono (by decide)) bB .nil pass0 (by rfl) EB.g (pa_cons pe_str pa_nil)))) pss_nil)
      (pss_cons (ps_if (pt_not (pt_val (pe_call GG (hr.mono (by decide)) (by rfl) gG kG bG .nil pass0 (pa_cons (pv 2) (pa_cons (pv 4) pa_nil))))) (pss_one (ps_raise rfl (takes_of rfl rfl rfl rfl) (pmk_oex EB.ox iB tB GB (hr.mono (by decide)) bB .nil pass0 (by rfl) EB.g (pa_cons pe_str pa_nil)))) pss_nil)
      (pss_cons (ps_if (pt_not (pt_val (pe_call GM hr (by rfl) gM kM bM .nil pass0 (pa_cons (pv 4) (pa_cons (pv 5) pa_nil))))) (pss_one (ps_raise rfl (takes_of rfl rfl rfl rfl) (pmk_oex EB.ox iB tB GB (hr.mono (by decide)) bB .nil pass0 (by rfl) EB.g (pa_cons pe_str pa_nil)))) pss_nil)
      (pss_cons (ps_if (pt_cut (fun _ H c H' => c = !lB ∧ Same H H') (PW.pt (pw_and (pt_cmpR op_notN (pv 6) pe_non (nomark _)) (pw_and1 (pt_not (pt_val (pe_call GAL hr (by rfl) gAL kAL bAL .nil pass0 (pa_cons (pv 1) (pa_cons (pv 6) pa_nil))))))))) (pss_one (ps_raise rfl (takes_of rfl rfl rfl rfl) (pmk_oex EB.ox iB tB GB (hr.mono (by decide)) bB .nil pass0 (by rfl) EB.g (pa_cons pe_str pa_nil)))) pss_nil)
      (pss_cons (ps_fld (pv 0) (pv 1) rfl)
      (pss_cons (ps_fld (pv 0) (pv 2) rfl)
      (pss_cons (ps_fld (pv 0) (pv 4) rfl)
      (pss_cons (ps_fld (pv 0) (pv 5) rfl)
      (pss_cons (ps_fld (pv 0) (pv 7) rfl)
      (pss_cons (ps_fld (pv 0) (by
          refine' pe_lc (own := [("pair", 8)]) (g := gName 8) (by rfl) scRuleInit.nd ?r1 (blkOk_by (own := [("pair", 8)]) (N := riN) (sc := defScope sRuleInit) (by decide +kernel)) (fun _ _ _ _ _ => pg_name (i := 8) scRuleInit.nd rfl (Or.inl rfl)) ?r2 (fun _ _ _ _ _ => by exact pv 8)
          (case r1 => exact pi_list (pe_meth0 (pv 1) cl mPa GPa (hr.mono (by decide)) bPa .nil pass0))
          (case r2 => intro _ _ _ _ _; exact pts_one (PW.pt (pw_or (pt_cmpR op_isN (pv 3) pe_non (nomark _)) (pw_or1 (pt_cmpR (r := rInD K) (op_inD (by exact hu65)) (pv 8) (pv 3) (by rfl))))))) rfl)
      (pss_cons (ps_fld (pv 0) (pe_cut (fun _ H v H' => ∃ l us, v = .ref l ∧ Same H H' ∧ H l = none ∧ H' l = some (.lst (us.map V.ref)) ∧ Rows H' us ls) (pe_ifExp (pt_cmpR op_isN (pv 6) pe_non (nomark _)) (pe_lst (pa_cons (pe_prop (pv 1) cl pp GPe (hr.mono (by decide)) bPe .nil pass0 rfl) pa_nil)) (pe_call GIO hr (by rfl) gIO kIO bIO .nil pass0 (pa_cons (pv 1) (pa_cons (pv 6) pa_nil))))) rfl)
      (pss_cons (ps_fld (pv 0) (by
          refine' pe_dc (own := [("person", 9)]) (g := gName 9) (by rfl) scRuleInit.nd ?d1 (blkOk_by (own := [("person", 9)]) (N := riN) (sc := defScope sRuleInit) (by decide +kernel)) (fun _ _ _ _ _ => pg_name (i := 9) scRuleInit.nd rfl (Or.inr rfl)) (fun _ _ _ _ _ => pts_nil) (fun _ _ _ _ _ => by exact pv 9) ?d2
          (case d1 => exact pi_list (pe_prop (pv 1) cl pp GPe (hr.mono (by decide)) bPe .nil pass0 rfl))
          (case d2 =>
            intro _ _ _ _ _
            refine' pe_lc (own := [("pair", 8)]) (wi := iList K (tFld K (tVar 0) "_reads")) (g := gName 8) (by rfl) scRuleInit.nd ?k1 (blkOk_by (own := [("pair", 8)]) (N := riN) (by kernel_rfl)) ?k2 ?k3 ?k4
            (case k1 => exact pi_list (pe_fld (pv 0) rfl))
            (case k2 => intro _ _ _ _ _; exact pg_name (i := 8) scRuleInit.nd rfl (Or.inl rfl))
            (case k3 => intro _ _ _ _ _; exact pts_one (pt_cmpR op_eq (pe_ix (r := rIxT K) ix_tup (pv 8) pe_int (fun _ _ => rfl)) (pv 9) (nomark _)))
            (case k4 => intro _ _ _ _ _; exact pe_ix (r := rIxT K) ix_tup (pv 8) pe_int (fun _ _ => rfl)))) rfl)
      (pss_cons (ps_if (pt_val (pe_call GS (hr.mono (by decide)) (by rfl) gS kS bS .nil pass0 (pa_cons (pe_fld (pv 0) rfl) (pa_cons (pe_fld (pv 0) rfl) (pa_cons (pv 5) pa_nil))))) (pss_one (ps_raise rfl (takes_of rfl rfl rfl rfl) (pmk_oex EB.ox iB tB GB (hr.mono (by decide)) bB .nil pass0 (by rfl) EB.g (pa_cons pe_str pa_nil)))) pss_nil)
      (pss_one (ps_if (pt_not (pt_val (pe_call GN (hr.mono (by decide)) (by rfl) gN kN bN .nil pass0 (pa_cons (pv 7) (pa_cons pe_int (pa_cons (pe_glob (v := .int 8) (by rfl) g8 ⟨_, rfl⟩) pa_nil)))))) (pss_one (ps_raise rfl (takes_of rfl rfl rfl rfl) (pmk_oex EB.ox iB tB GB (hr.mono (by decide)) bB .nil pass0 (by rfl) EB.g (pa_cons pe_str pa_nil)))) pss_nil)))))))))))))))), ?_⟩
    have fin : ∀ (z : Str) (H1 : Hp) (a d : Addr), (∀ t g mi, tv = .str t → gv = .str g → mv = .int mi → firstWrong (turnB tv) rB (gatherB t gv) (trimB g mv) lB (shortB rs ls mi) (markB 0 8 pz) = some z) → Same H0 H1 → H1 a = none → H1 d = none → d ≠ a →
        E (.ref CB) (some d) (upd (del (upd (upd (upd H1 a (exo a CB none)) d (exd d [("part", .str z)])) a (exo a CB (some d))) a) d (.xd [("part", .str z)])) := fun z H1 a d w s na nd nda => by
      obtain ⟨r1, r2, r3⟩ := raised_mk (C := CB) (f := "part") (v := V.str z) na nd nda
      exact bad z w _ d ⟨s.trans r1, s.free r2, r3⟩
    refine ⟨_, rfl, c, zs, m, rfl, hc.same s0, ?_⟩
    -- the turn
    refine ⟨_, rfl, tv, T1, rfl, ht.same s0, _, rfl, ?_⟩
    cases b1 : turnB tv with
    | false =>
      refine iteT ⟨(by show 1 ≤ 1000; decide), fun a na => ⟨a, _, rfl, EB.ox, nf, upd_same, fun d nd nda => ?_⟩⟩
      have nd1 : H d = none := by
        rw [upd_ne nda] at nd
        exact nd
      exact ⟨rfl, d, _, upd_same, by rw [upd_ne nda, upd_same], nd1, fin "turn" _ a d (fun t g mi _ _ _ => by unfold firstWrong; rw [if_pos b1]) s0 na nd1 nda⟩
    | true =>
    obtain ⟨t, rfl⟩ : ∃ t, tv = .str t := by
      cases tv with
      | str t => exact ⟨t, rfl⟩
      | _ => cases b1
    refine iteF ?_
    -- the reads
    refine ⟨?_, ?_⟩
    · refine ⟨_, rfl, rfl, _, rfl, ?_⟩
      cases hR with
      | non =>
        rw [decide_eq_true (rfl : V.non = V.non)]
        exact iteF ⟨rfl, Same.refl _⟩
      | @some _ b ps h nn lst =>
        rw [decide_eq_false nn]
        exact iteT ⟨_, rfl, _, rfl, c, rv, zs, m, rB, ps, rfl, hc.same s0, z8, h.same s0, fun H2 s2 => ⟨rB, rfl, rfl, s2⟩⟩
    rintro c1 H1 ⟨rfl, s1'⟩
    have s1 := s0.trans s1'
    have hx1 := s1' _ _ hx
    cases b2 : rB with
    | false =>
      refine iteT ⟨(by show 1 ≤ 1000; decide), fun a na => ⟨a, _, rfl, EB.ox, nf, upd_same, fun d nd nda => ?_⟩⟩
      have nd1 : H1 d = none := by
        rw [upd_ne nda] at nd
        exact nd
      exact ⟨rfl, d, _, upd_same, by rw [upd_ne nda, upd_same], nd1, fin "reads" _ a d (fun t g mi _ _ _ => by unfold firstWrong; rw [if_neg (by rw [b1]; decide), if_pos b2]) s1 na nd1 nda⟩
    | true =>
    refine iteF ?_
    -- the gather
    refine ⟨_, rfl, _, rfl, t, gv, T2, rfl, hg.same s1, _, rfl, ?_⟩
    cases b3 : gatherB t gv with
    | false =>
      refine iteT ⟨(by show 1 ≤ 1000; decide), fun a na => ⟨a, _, rfl, EB.ox, nf, upd_same, fun d nd nda => ?_⟩⟩
      have nd1 : H1 d = none := by
        rw [upd_ne nda] at nd
        exact nd
      exact ⟨rfl, d, _, upd_same, by rw [upd_ne nda, upd_same], nd1, fin "gather" _ a d (fun t' g mi e _ _ => by cases e; unfold firstWrong; rw [if_neg (by rw [b1]; decide), if_neg (by rw [b2]; decide), if_pos b3]) s1 na nd1 nda⟩
    | true =>
    obtain ⟨g, rfl⟩ : ∃ g, gv = .str g := by
      cases gv with
      | str g => exact ⟨g, rfl⟩
      | _ => cases b3
    refine iteF ?_
    -- the trim
    refine ⟨_, rfl, _, rfl, g, mv, T3, rfl, hm.same s1, _, rfl, ?_⟩
    cases b4 : trimB g mv with
    | false =>
      refine iteT ⟨(by show 1 ≤ 1000; decide), fun a na => ⟨a, _, rfl, EB.ox, nf, upd_same, fun d nd nda => ?_⟩⟩
      have nd1 : H1 d = none := by
        rw [upd_ne nda] at nd
        exact nd
      exact ⟨rfl, d, _, upd_same, by rw [upd_ne nda, upd_same], nd1, fin "trim" _ a d (fun t' g' mi e e2 _ => by cases e; cases e2; unfold firstWrong; rw [if_neg (by rw [b1]; decide), if_neg (by rw [b2]; decide), if_neg (by rw [b3]; decide), if_pos b4]) s1 na nd1 nda⟩
    | true =>
    obtain ⟨mi, rfl, mi0, mi3⟩ : ∃ mi, mv = .int mi ∧ 0 ≤ mi ∧ mi ≤ 3 := by
      unfold trimB at b4
      by_cases e : g = "trim"
      · rw [if_pos e] at b4
        cases mv with
        | int i =>
          have : (decide ((1 : Int) ≤ i) && decide (i ≤ 3)) = true := b4
          rw [Bool.and_eq_true] at this
          have h1 := of_decide_eq_true this.1
          have h2 := of_decide_eq_true this.2
          exact ⟨i, rfl, by omega, by omega⟩
        | _ => cases b4
      · rw [if_neg e] at b4
        exact ⟨0, of_decide_eq_true b4, by omega, by omega⟩
    refine iteF ?_
    -- the lists
    refine ⟨?_, ?_⟩
    · refine ⟨_, rfl, rfl, _, rfl, ?_⟩
      cases hL with
      | non =>
        rw [decide_eq_true (rfl : V.non = V.non)]
        exact iteF ⟨rfl, Same.refl _⟩
      | @bad _ o h nn hb =>
        rw [decide_eq_false nn]
        exact iteT ⟨_, rfl, _, rfl, c, lv, zs, m, o, rfl, hc.same s1, z8, h.same s1, fun H2 s2 => ⟨argB zs o, rfl, by rw [hb], s2⟩⟩
      | @good a ls0 h hp0 hl =>
        rw [decide_eq_false (fun e => nomatch e : ¬ V.ref a = V.non)]
        obtain ⟨os, ha, hb⟩ := good_arg (K := K) (h.same s1) hp0 hl z8
        exact iteT ⟨_, rfl, _, rfl, c, .ref a, zs, m, some os, rfl, hc.same s1, z8, ha, fun H2 s2 => ⟨listsB zs os, rfl, by rw [hb], s2⟩⟩
    rintro c2 H2 ⟨rfl, s2'⟩
    have s2 := s1.trans s2'
    have hx2 := s2' _ _ hx1
    cases b5 : lB with
    | false =>
      refine iteT ⟨(by show 1 ≤ 1000; decide), fun a na => ⟨a, _, rfl, EB.ox, nf, upd_same, fun d nd nda => ?_⟩⟩
      have nd1 : H2 d = none := by
        rw [upd_ne nda] at nd
        exact nd
      exact ⟨rfl, d, _, upd_same, by rw [upd_ne nda, upd_same], nd1, fin "lists" _ a d (fun t' g' mi' e e2 _ => by cases e; cases e2; unfold firstWrong; rw [if_neg (by rw [b1]; decide), if_neg (by rw [b2]; decide), if_neg (by rw [b3]; decide), if_neg (by rw [b4]; decide), if_pos b5]) s2 na nd1 nda⟩
    | true =>
    refine iteF ?_
    -- five plain fields
    refine ⟨_, rfl, _, rfl, x, CR, dx, [], rfl, hx2, clR, n1, (by show 0 < 1000; decide), ?_⟩
    refine ⟨_, rfl, _, rfl, x, CR, dx, _, rfl, upd_same, clR, n2, (by show 1 < 1000; decide), ?_⟩
    refine ⟨_, rfl, _, rfl, x, CR, dx, _, rfl, upd_same, clR, n3, (by show 2 < 1000; decide), ?_⟩
    refine ⟨_, rfl, _, rfl, x, CR, dx, _, rfl, upd_same, clR, n4, (by show 3 < 1000; decide), ?_⟩
    refine ⟨_, rfl, _, rfl, x, CR, dx, _, rfl, upd_same, clR, n5, (by show 4 < 1000; decide), ?_⟩
    generalize e5 : upd _ x (HO.ins CR dx (putF "prizes" pz _)) = H5
    have s5 : Same H0 H5 := by
      rw [← e5]
      exact same_at (same_at (same_at (same_at (same_at s2 nx0) nx0) nx0) nx0) nx0
    have hx5 : H5 x = some (.ins CR dx (rule5 c t g mi pz)) := by rw [← e5, upd_same, rule_put5]
    clear e5
    -- the reads that are kept
    obtain ⟨keep, ek, ask⟩ : ∃ keep : Pr → Bool, rs = (pairsOf zs).filter keep ∧ ((rv = .non ∧ ∀ p, keep p = true) ∨ (rv ≠ .non ∧ ∃ a xs ps, rv = .ref a ∧ H0 a = some (.lst xs) ∧ Tps H0 xs ps ∧ (∀ p ∈ ps, p ∈ pairsOf zs) ∧ keep = fun p => decide (p ∈ ps))) := by
      cases hR with
      | non => exact ⟨fun _ => true, by rw [List.filter_eq_self.mpr fun _ _ => rfl], .inl ⟨rfl, fun _ => rfl⟩⟩
      | @some _ b ps h nn lst =>
        obtain ⟨a, xs, rfl, ha⟩ := lst b2
        cases h with
        | no t h1 h2 => cases b2
        | odd e hl h hb => cases b2
        | @seq _ xs2 _ e hl h hp2 =>
          have : xs2 = xs := by
            rcases e with e | e
            · rw [ha] at e
              cases e
              rfl
            · rw [ha] at e
              cases e
          subst this
          exact ⟨fun p => decide (p ∈ ps), rfl, .inr ⟨nn, a, xs2, ps, rfl, ha, h, hp2, rfl⟩⟩
    have okW : ∀ p ∈ pairsOf zs, PyData.strOk p.1 = true ∧ PyData.strOk p.2 = true := fun p hp => ⟨fo.ok _ (pairsOf_mem hp).1, fo.ok _ (pairsOf_mem hp).2⟩
    refine ⟨_, rfl, c, dc, _, rfl, s5 _ _ hcx, rfl, c, zs, m, rfl, hc.same s5, z8, fun H6 p6 ys6 s6' np6 hp6 t6 => ⟨p6, rfl, ⟨_, SqL.of hp6⟩, fun D nD => ?_⟩⟩
    have s6 := s5.trans s6'
    have pp6 := tps_paired t6.tps
    have l64 : (pairsOf zs).length ≤ 64 := pairs_len z8 z8
    refine lc_fm (K := K) (a := p6) (xs := ys6) (.inl ⟨rfl, SqL.of hp6⟩) (os := (ys6.zip (pairsOf zs)).map fun q => if keep q.2 = true then some q.1 else none) (by rw [List.length_map, List.length_zip, t6.1, Nat.min_self]) (by rw [t6.1]; omega) nD (fun _ => rfl) (fun i y o G N M hy ho sG kN kM => ?_) (fun H7 s7' hD7 => ?_)
    · rw [List.getElem?_map] at ho
      obtain ⟨⟨y2, p⟩, hq, eo⟩ := Option.map_eq_some_iff.mp ho
      obtain ⟨hq1, hq2⟩ := List.getElem?_zip_eq_some.mp hq
      dsimp only at hq1 hq2 eo
      rw [hy] at hq1
      obtain rfl := Option.some.inj hq1
      obtain ⟨t', rfl, ht'⟩ := pr_get pp6 hy hq2
      have sG' := s6.trans sG
      have pm := List.mem_of_getElem? hq2
      refine ⟨_, rfl, rfl, _, rfl, ?_⟩
      rcases ask with ⟨rfl, all⟩ | ⟨nn, a, xs, ps, rfl, ha, tp, hp2, rfl⟩
      · rw [decide_eq_true (rfl : V.non = V.non)]
        rw [if_pos (all p)] at eo
        rw [if_pos rfl]
        dsimp only
        rw [if_pos rfl]
        exact ⟨_, rfl, kN _ _ eo.symm (Same.refl _)⟩
      · rw [decide_eq_false nn, if_neg (by decide)]
        refine ⟨_, rfl, _, rfl, L2.pairD p, ps.map L2.pairD, dp_pair (sG _ _ ht'), .lst (SqL.of (sG' _ _ ha)) (tp.same sG').dp, shaped_pairD (okW p pm).1 (okW p pm).2, shaped_pairs fun q hq => okW q (hp2 q hq), _, rfl, ?_⟩
        rw [any_pairs]
        dsimp only at eo
        cases hd : decide (p ∈ ps) with
        | true =>
          rw [if_pos hd] at eo
          rw [if_pos rfl]
          exact ⟨_, rfl, kN _ _ eo.symm (Same.refl _)⟩
        | false =>
          rw [if_neg (by rw [hd]; decide)] at eo
          rw [if_neg (by decide)]
          exact kM _ eo.symm (Same.refl _)
    rw [fm_if (fun q : V × Pr => keep q.2) (fun q => q.1)] at hD7
    have rP7 : Paired (IsPr H7) (((ys6.zip (pairsOf zs)).filter fun q => keep q.2).map (·.1)) rs := by
      rw [ek]
      refine Paired.mono (fun y p z => ?_) (zip_filter keep pp6)
      obtain ⟨t', e, h⟩ := z
      exact ⟨t', e, s7' _ _ h⟩
    generalize ((ys6.zip (pairsOf zs)).filter fun q => keep q.2).map (·.1) = ysR at hD7 rP7
    have s7 := s6.trans s7'
    have hx7 := s7' _ _ (s6' _ _ hx5)
    have nDx : D ≠ x := ne_of hD7 hx7 (fun z => nomatch z)
    have fD : H0 D = none := s6.free nD
    refine ⟨_, rfl, x, CR, dx, _, rfl, hx7, clR, n6, (by show 5 < 1000; decide), ?_⟩
    generalize e8 : upd H7 x _ = H8
    have s8 : Same H0 H8 := e8 ▸ same_at s7 nx0
    have hx8 : H8 x = some (.ins CR dx (rule6 c D t g mi pz)) := by rw [← e8, upd_same, rule_put6]
    have hD8 : H8 D = some (.lst ysR) := by
      rw [← e8, upd_ne nDx]
      exact hD7
    have rP8 : Paired (IsPr H8) ysR rs := Paired.mono (fun y p z => z.elim fun t' z => ⟨t', z.1, by rw [← e8, upd_ne (ne_of z.2 hx7 fun q => nomatch q)]; exact z.2⟩) rP7
    clear e8
    -- the lists
    refine ⟨?_, ?_⟩
    · refine ⟨_, rfl, rfl, _, rfl, ?_⟩
      cases hL with
      | non =>
        rw [decide_eq_true (rfl : V.non = V.non), if_pos rfl]
        exact ⟨_, rfl, c, dc, _, rfl, s8 _ _ hcx, c, zs, m, rfl, hc.same s8, by omega, fun G p s np hp => ⟨(by show 1 ≤ sizeLine; decide), fun q nq => ⟨q, [p], rfl, s.trans (same_new nq), s.free nq, upd_same, .cons (same_new nq _ _ hp) .nil⟩⟩⟩
      | bad h nn hb => cases b5
      | @good a ls0 h hp0 hl =>
        rw [decide_eq_false (fun e => nomatch e : ¬ V.ref a = V.non), if_neg (by decide)]
        exact ⟨_, rfl, _, rfl, c, a, zs, m, ls0, rfl, hc.same s8, z8, h.same s8, hp0, fun G p us s np hp r => ⟨p, us, rfl, s, np, hp, r⟩⟩
    rintro v H9 ⟨l, us, rfl, s9', nl, hl9, rows9⟩
    have s9 := s8.trans s9'
    have hx9 := s9' _ _ hx8
    have fl : H0 l = none := s8.free nl
    refine ⟨_, rfl, x, CR, dx, _, rfl, hx9, clR, n7, (by show 6 < 1000; decide), ?_⟩
    generalize e10 : upd H9 x _ = H10
    have s10 : Same H0 H10 := e10 ▸ same_at s9 nx0
    have hx10 : H10 x = some (.ins CR dx (rule7 c D l t g mi pz)) := by rw [← e10, upd_same, rule_put7]
    have hD10 : H10 D = some (.lst ysR) := by
      rw [← e10, upd_ne nDx]
      exact s9' _ _ hD8
    have rP10 : Paired (IsPr H10) ysR rs := Paired.mono (fun y p z => z.elim fun t' z => ⟨t', z.1, by rw [← e10, upd_ne (ne_of (s9' _ _ z.2) hx9 fun q => nomatch q)]; exact s9' _ _ z.2⟩) rP8
    have hl10 : H10 l = some (.lst (us.map V.ref)) := by
      rw [← e10, upd_ne (ne_of hl9 hx9 fun q => nomatch q)]
      exact hl9
    have rows10 : Rows H10 us ls := Paired.mono (fun u l z => by rw [← e10, upd_ne (ne_of z hx9 fun q => nomatch q)]; exact z) rows9
    clear e10
    -- the readers
    refine ⟨_, rfl, c, dc, _, rfl, s10 _ _ hcx, c, zs, m, rfl, hc.same s10, by omega, fun H11 p11 s11' np11 hp11 => ⟨p11, rfl, ⟨_, SqL.of hp11⟩, fun D2 nD2 => ?_⟩⟩
    have s11 := s10.trans s11'
    refine dc_words (K := K) (a := p11) fo.nd (.inl ⟨rfl, SqL.of hp11⟩) (ds := zs.map (readersOf rs)) (F := fun H y d => ∃ u, y = V.ref u ∧ H u = some (.lst (d.map V.str))) (by rw [List.length_map]) (by omega) nD2
      (fun kvs G G2 y d hD ny b fy => ?_) (fun _ => rfl) (fun i z d G N hz hd sG nDG kN => ?_) (fun H12 ys12 s12' hD12 hys12 => ?_)
    · obtain ⟨u, rfl, hu⟩ := fy
      exact ⟨u, rfl, b _ _ (fun e => ny (by rw [e])) hu⟩
    · rw [List.getElem?_map, hz] at hd
      obtain rfl := Option.some.inj hd
      have sG' := s11'.trans sG
      refine ⟨_, rfl, _, rfl, x, CR, dx, _, _, rfl, sG' _ _ hx10, clR, n6, rfl, D, rfl, ⟨_, SqL.of (sG' _ _ hD10)⟩, fun D3 nD3 => ?_⟩
      refine lc_fm (K := K) (a := D) (xs := ysR) (.inl ⟨rfl, SqL.of (sG' _ _ hD10)⟩) (os := rs.map fun p => if decide (p.2 = z) = true then some (V.str p.1) else none) (by rw [List.length_map, rP10.length]) (by
          rw [rP10.length, ek]
          have := List.length_filter_le keep (pairsOf zs)
          omega) nD3 (fun _ => rfl) (fun j y o G3 N3 M3 hy ho s3 kN3 kM3 => ?_) (fun G3 s3 hD3 => ?_)
      · rw [List.getElem?_map] at ho
        obtain ⟨p, hp2, eo⟩ := Option.map_eq_some_iff.mp ho
        obtain ⟨t', rfl, ht'⟩ := pr_get rP10 hy hp2
        have ht3 := s3 _ _ (sG' _ _ ht')
        refine ⟨_, rfl, t', _, 1, .str p.2, rfl, rfl, SqT.of ht3, rfl, _, rfl, rfl, _, rfl, ?_⟩
        rw [dec_str]
        cases hd : decide (p.2 = z) with
        | true =>
          rw [if_pos hd] at eo
          rw [if_pos rfl]
          exact ⟨_, rfl, t', _, 0, .str p.1, rfl, rfl, SqT.of ht3, rfl, kN3 _ _ eo.symm (Same.refl _)⟩
        | false =>
          rw [if_neg (by rw [hd]; decide)] at eo
          rw [if_neg (by decide)]
          exact kM3 _ eo.symm (Same.refl _)
      · rw [fm_if (fun p : Pr => decide (p.2 = z)) (fun p => V.str p.1), show ((rs.filter fun p => decide (p.2 = z)).map fun p => V.str p.1) = (readersOf rs z).map V.str by unfold readersOf; rw [List.map_map]; rfl] at hD3
        refine kN _ _ s3 (fun e => ?_) ⟨D3, rfl, hD3⟩
        rw [V.ref.inj e] at nD3
        exact nDG nD3
    obtain ⟨us12, rfl, hus12⟩ : ∃ us12 : List Addr, ys12 = us12.map V.ref ∧ Paired (fun u z => H12 u = some (.lst ((readersOf rs z).map V.str))) us12 zs := by
      have : ∀ {ys : List V} {zl : List Str}, Paired (fun y d => y ≠ V.ref D2 ∧ ∃ u, y = V.ref u ∧ H12 u = some (.lst (d.map V.str))) ys (zl.map (readersOf rs)) → ∃ us12 : List Addr, ys = us12.map V.ref ∧ Paired (fun u z => H12 u = some (.lst ((readersOf rs z).map V.str))) us12 zl := fun {ys zl} => by
        induction zl generalizing ys with
        | nil =>
          intro h
          cases h
          exact ⟨[], rfl, .nil⟩
        | cons z zl ih =>
          intro h
          cases h with
          | cons h0 t =>
            obtain ⟨us12, rfl, r⟩ := ih t
            obtain ⟨_, u, rfl, hu⟩ := h0
            exact ⟨u :: us12, rfl, .cons hu r⟩
      exact this hys12
    have s12 := s11.trans s12'
    have sx := s11'.trans s12'
    have hx12 := sx _ _ hx10
    have fd2 : H0 D2 = none := s11.free nD2
    refine ⟨_, rfl, x, CR, dx, _, rfl, hx12, clR, n8, (by show 7 < 1000; decide), ?_⟩
    generalize e13 : upd H12 x _ = H13
    have s13 : Same H0 H13 := e13 ▸ same_at s12 nx0
    have hx13 : H13 x = some (.ins CR dx (rule8 c D l D2 t g mi pz)) := by rw [← e13, upd_same, rule_put8]
    have kp : ∀ {b : Addr} {o : HO}, H12 b = some o → (∀ C d f, o ≠ .ins C d f) → H13 b = some o := fun {b o} e n => by
      rw [← e13, upd_ne (ne_of e hx12 (n _ _ _))]
      exact e
    have hD13 : H13 D = some (.lst ysR) := kp (sx _ _ hD10) fun _ _ _ q => nomatch q
    have rP13 : Paired (IsPr H13) ysR rs := Paired.mono (fun y p z => z.elim fun t' z => ⟨t', z.1, kp (sx _ _ z.2) fun _ _ _ q => nomatch q⟩) rP10
    have hl13 : H13 l = some (.lst (us.map V.ref)) := kp (sx _ _ hl10) fun _ _ _ q => nomatch q
    have rows13 : Rows H13 us ls := Paired.mono (fun u l z => kp (o := .lst (l.map V.str)) (sx _ _ z) (fun _ _ _ q => nomatch q)) rows10
    have hD12' : H12 D2 = some (.dK ((zs.zip us12).map fun p => ((Sum.inr p.1 : Key), V.ref p.2))) := by
      rw [hD12]
      unfold wordsD
      rw [List.zip_map_right, List.map_map]
      rfl
    have rd13 : ReadersAt H13 D2 zs rs := ⟨us12, kp hD12' (fun _ _ _ q => nomatch q), Paired.mono (fun u z e => kp (o := .lst ((readersOf rs z).map V.str)) e (fun _ _ _ q => nomatch q)) hus12⟩
    clear e13
    have lsOk : (∀ l ∈ ls, ∀ p ∈ l, p ∈ zs) ∧ ls.flatten.length ≤ 1000 := by
      cases hL with
      | non =>
        refine ⟨fun l hl p hp => by rw [List.mem_singleton.mp hl] at hp; exact hp, ?_⟩
        simp
        omega
      | bad h nn hb => cases b5
      | @good a ls0 h hp0 hl =>
        have each : ∀ l ∈ inOrder zs ls0, ∃ r : List Str, l = zs.filter fun p => decide (p ∈ r) := fun l hl => by
          obtain ⟨f, _, hf⟩ := List.mem_flatMap.mp hl
          obtain ⟨r, _, e⟩ := List.mem_map.mp (List.mem_filter.mp hf).1
          exact ⟨r, e.symm⟩
        refine ⟨fun l hl p hp => ?_, ?_⟩
        · obtain ⟨r, rfl⟩ := each l hl
          exact (List.mem_filter.mp hp).1
        · have h1 := flat_le (l := inOrder zs ls0) (f := fun l => l) (k := 8) fun l hl => by
            obtain ⟨r, rfl⟩ := each l hl
            have := List.length_filter_le (fun p => decide (p ∈ r)) zs
            omega
          have h2 : (inOrder zs ls0).length ≤ zs.length * 10 := flat_le fun f _ => by
            refine Nat.le_trans (List.length_filter_le _ _) ?_
            unfold ordered
            rw [List.length_map]
            exact hl
          rw [List.flatMap_id'] at h1
          omega
    -- too few readers, or not
    refine ⟨_, rfl, x, CR, dx, _, _, rfl, hx13, clR, n8, rfl, _, rfl, x, CR, dx, _, _, rfl, hx13, clR, n7, rfl, _, rfl, D2, l, zs, rs, ls, us, mi, rfl, rd13, fo.nd, hl13, rows13, lsOk.1, lsOk.2, mi0, mi3, fun H14 s14' => ⟨_, rfl, ?_⟩⟩
    have s14 := s13.trans s14'
    cases b6 : shortB rs ls mi with
    | true =>
      refine iteT ⟨(by show 1 ≤ 1000; decide), fun a na => ⟨a, _, rfl, EB.ox, nf, upd_same, fun d nd nda => ?_⟩⟩
      have nd1 : H14 d = none := by
        rw [upd_ne nda] at nd
        exact nd
      exact ⟨rfl, d, _, upd_same, by rw [upd_ne nda, upd_same], nd1, fin "lists" _ a d (fun t' g' mi' e e2 e3 => by cases e; cases e2; cases e3; unfold firstWrong; rw [if_neg (by rw [b1]; decide), if_neg (by rw [b2]; decide), if_neg (by rw [b3]; decide), if_neg (by rw [b4]; decide), if_neg (by rw [b5]; decide), if_pos b6]) s14 na nd1 nda⟩
    | false =>
    refine iteF ?_
    refine ⟨_, rfl, pz, 0, 8, rfl, ⟨T4, hp.same s14⟩, _, rfl, ?_⟩
    cases b7 : markB 0 8 pz with
    | false =>
      refine iteT ⟨(by show 1 ≤ 1000; decide), fun a na => ⟨a, _, rfl, EB.ox, nf, upd_same, fun d nd nda => ?_⟩⟩
      have nd1 : H14 d = none := by
        rw [upd_ne nda] at nd
        exact nd
      exact ⟨rfl, d, _, upd_same, by rw [upd_ne nda, upd_same], nd1, fin "prizes" _ a d (fun t' g' mi' e e2 e3 => by cases e; cases e2; cases e3; unfold firstWrong; rw [if_neg (by rw [b1]; decide), if_neg (by rw [b2]; decide), if_neg (by rw [b3]; decide), if_neg (by rw [b4]; decide), if_neg (by rw [b5]; decide), if_neg (by rw [b6]; decide), if_pos b7]) s14 na nd1 nda⟩
    | true =>
    refine iteF ?_
    obtain ⟨p, rfl⟩ : ∃ p, pz = .int p := by
      cases pz with
      | int p => exact ⟨p, rfl⟩
      | _ => cases b7
    refine good t g mi p rfl rfl rfl rfl (by unfold firstWrong; rw [if_neg (by rw [b1]; decide), if_neg (by rw [b2]; decide), if_neg (by rw [b3]; decide), if_neg (by rw [b4]; decide), if_neg (by rw [b5]; decide), if_neg (by rw [b6]; decide), if_neg (by rw [b7]; decide)]) H14 D l D2 ysR us s14 fD fl fd2 ?_
    exact ⟨⟨dx, s14' _ _ hx13⟩, hc.same s14, s14' _ _ hD13, (paired_tps rP13).same s14', s14' _ _ hl13, rows13.same s14', rd13.same s14'⟩
end
end K09

set_option Elab.async false
set_option linter.all false
set_option maxRecDepth 100000
set_option maxHeartbeats 4000000
namespace K09
open PySem PySem.Spec PyProof.Rows L2
abbrev owN : List Str := ["rule", "person", "members", "pair"]
abbrev pwN2 : List Str := ["reads", "lists", "pair", "members"]
section
variable {P : Program} {w : World} {K : PySem.W.Frag} {mg : Str → Option Value} {base : Heap} {C CR CN : Addr}
theorem ok_ruleReads {f : Addr} {fd : FuncData} (F : Fun K "reads" "Rule.reads" sRuleReads f fd) (clR : Cls K CR) (n1 : NoAttr K CR "_reads") (T : Tx mg) : FnOk P w K mg base CX0 1 f fd ["self"] (spRuleReads C CR) := by
  refine F.ok scRuleReads (fun vs H Q E h => ?_) (fun cdv A outer s H vs Q E hr h => ?_)
  · obtain ⟨x, R, rfl, _⟩ := h
    rfl
  · obtain ⟨x, R, rfl, ⟨c, r, l, d, ys, us, a⟩, q⟩ := h
    obtain ⟨dx, hx⟩ := a.ob
    refine ⟨_, pss_one (ps_ret (pe_callTy call_list_of (by rfl) T.list (by decide +kernel) (pa_cons (pe_fld (pv 0) rfl) pa_nil))), ?_⟩
    exact ⟨_, rfl, x, CR, dx, _, _, rfl, hx, clR, n1, rfl, r, ys, rfl, .inl (SqL.of a.rd), fun p np => q _ p ys (same_new np) np upd_same (a.tps.same (same_new np))⟩
theorem ok_ruleLists {f : Addr} {fd : FuncData} (F : Fun K "lists" "Rule.lists" sRuleLists f fd) (clR : Cls K CR) (n1 : NoAttr K CR "_lists") (T : Tx mg) : FnOk P w K mg base CX0 1 f fd ["self"] (spRuleLists C CR) := by
  refine F.ok scRuleLists (fun vs H Q E h => ?_) (fun cdv A outer s H vs Q E hr h => ?_)
  · obtain ⟨x, R, rfl, _⟩ := h
    rfl
  · obtain ⟨x, R, rfl, ⟨c, r, l, d, ys, us, a⟩, few, q⟩ := h
    obtain ⟨dx, hx⟩ := a.ob
    have lus := a.rows.length
    refine ⟨_, pss_one (ps_ret (by
      refine' pe_lc (own := [("members", 1)]) (g := gName 1) (by rfl) scRuleLists.nd ?h1 (blkOk_by (own := [("members", 1)]) (N := ["self", "members"]) (sc := defScope sRuleLists) (by decide +kernel)) (fun _ _ _ _ _ => pg_name (i := 1) scRuleLists.nd rfl (Or.inl rfl)) (fun _ _ _ _ _ => pts_nil) ?h2
      (case h1 => exact pi_seq (pe_fld (pv 0) rfl))
      (case h2 => intro _ _ _ _ _; exact pe_callTy (r := rListOf K) call_listS (by rfl) T.list (by decide +kernel) (pa_cons (pv 1) pa_nil)))), ?_⟩
    refine ⟨_, rfl, x, CR, dx, _, _, rfl, hx, clR, n1, rfl, l, us.map V.ref, rfl, .inl (SqL.of a.ls), fun J ji D nD => ?_⟩
    refine lc_new ji (F := fun H y l => ∃ u, y = V.ref u ∧ H u = some (.lst (l.map V.str))) (ds := R.lists.map some) (by rw [List.length_map, List.length_map, lus]) (by rw [List.length_map]; omega) nD
      (fun acc G G2 y l hD ny b fy => ?_) (fun _ => rfl) (fun i y o G N M hy ho s2 nDG kN kM => ?_) (fun G ys s2 hD hys => ?_)
    · obtain ⟨u, rfl, hu⟩ := fy
      exact ⟨u, rfl, b _ _ (fun e => ny (by rw [e])) hu⟩
    · rw [List.getElem?_map] at hy ho
      obtain ⟨u, hu, rfl⟩ := Option.map_eq_some_iff.mp hy
      obtain ⟨l0, hl0, rfl⟩ := Option.map_eq_some_iff.mp ho
      have hul := s2 _ _ (pr_get a.rows hu hl0)
      refine rd_yes ⟨_, rfl, u, _, rfl, .inl (SqL.of hul), fun p np => kN _ l0 _ rfl (same_new np) (fun e => ?_) ⟨p, rfl, upd_same⟩⟩
      rw [V.ref.inj e] at np
      exact nDG np
    · have e0 : (R.lists.map some).filterMap id = R.lists := by
        have := fm_some (fun l : List Str => l) R.lists
        rwa [List.map_id'] at this
      rw [e0] at hys
      obtain ⟨us2, rfl, hus2⟩ : ∃ us2 : List Addr, ys = us2.map V.ref ∧ Rows G us2 R.lists := by
        have : ∀ {ys : List V} {ol : List (List Str)}, Paired (fun y a => y ≠ V.ref D ∧ ∃ u, y = V.ref u ∧ G u = some (.lst (a.map V.str))) ys ol → ∃ us : List Addr, ys = us.map V.ref ∧ Rows G us ol := fun h => by
          induction h with
          | nil => exact ⟨[], rfl, .nil⟩
          | cons h0 t ih =>
            obtain ⟨us, rfl, r⟩ := ih
            obtain ⟨_, u, rfl, hu⟩ := h0
            exact ⟨u :: us, rfl, .cons hu r⟩
        exact this hys
      exact q G D us2 s2 nD hD hus2
end
end K09

set_option Elab.async false
set_option linter.all false
set_option maxRecDepth 100000
set_option maxHeartbeats 4000000
namespace K09
open PySem PySem.Spec PyProof.Rows L2
section
variable {P : Program} {w : World} {K : PySem.W.Frag} {mg : Str → Option Value} {base : Heap} {C CR CB : Addr}
theorem ok_parts {f fL pL : Addr} {fd dL : FuncData} (F : Fun K "parts_but_reads" "parts_but_reads" sPartsButReads f fd) (clR : Cls K CR) (nA : ∀ n ∈ (["crowd", "turn", "gather", "trim", "prizes", "_reads", "_lists", "_readers"] : List Str), NoAttr K CR n)
    (ppL : PropOf K CR "lists" pL fL) (GL : FnOk P w K mg base CX0 1 fL dL ["self"] (spRuleLists C CR)) (bL : Binds K dL ["self"] []) : FnOk P w K mg base CX0 3 f fd ["rule"] (spParts C CR) := by
  have n1 := nA "crowd" (by decide)
  have n2 := nA "turn" (by decide)
  have n3 := nA "gather" (by decide)
  have n4 := nA "trim" (by decide)
  have n5 := nA "prizes" (by decide)
  refine F.ok scPartsButReads (fun vs H Q E h => ?_) (fun cdv A outer s H vs Q E hr h => ?_)
  · obtain ⟨x, c, r, l, d, ys, us, R, rfl, _⟩ := h
    rfl
  · obtain ⟨x, c, r, l, d, ys, us, R, rfl, a, few, q⟩ := h
    obtain ⟨dx, hx⟩ := a.ob
    refine ⟨_, pss_one (ps_ret (pe_tup (pa_cons (pe_fld (pv 0) rfl) (pa_cons (pe_fld (pv 0) rfl) (pa_cons (pe_fld (pv 0) rfl) (pa_cons (pe_fld (pv 0) rfl) (pa_cons (pe_prop (pv 0) clR ppL GL hr bL .nil pass0 rfl) (pa_cons (pe_fld (pv 0) rfl) pa_nil)))))))), ?_⟩
    refine ⟨_, rfl, x, CR, dx, _, _, rfl, hx, clR, n1, rfl, _, rfl, x, CR, dx, _, _, rfl, hx, clR, n2, rfl, _, rfl, x, CR, dx, _, _, rfl, hx, clR, n3, rfl, _, rfl, x, CR, dx, _, _, rfl, hx, clR, n4, rfl, _, rfl, x, dx, _, rfl, hx, x, R, rfl, ⟨c, r, l, d, ys, us, a⟩, few, fun H1 l1 us1 s1 nl1 hl1 r1 => ?_⟩
    refine ⟨_, rfl, x, CR, dx, _, _, rfl, s1 _ _ hx, clR, n5, rfl, (by show 6 ≤ sizeLine; decide), fun t nt => ?_⟩
    have s2 := same_new (o := .tup [.ref c, .str R.turn, .str R.gather, .int R.trim, .ref l1, .int R.prizes]) nt
    exact q _ t l1 us1 (s1.trans s2) (s1.free nt) upd_same (s2 _ _ hl1) (r1.same s2)
theorem ok_like {f fP fE : Addr} {fd dP dE : FuncData} (F : Fun K "is_like_but_for_reads" "is_like_but_for_reads" sIsLikeButForReads f fd) (GP : FnOk P w K mg base CX0 3 fP dP ["rule"] (spParts C CR)) (kP : PySem.W.keepIn K (.ref fP) = true) (bP : Binds K dP ["rule"] []) (gP : mg "parts_but_reads" = some (.ref fP))
    (GE : FnOk P w K mg base CX0 1 fE dE ["self", "other"] (spCrowdEq K C)) (sE : PySem.W.findIn K (.ref C) "__eq__" = some (some (.ref fE))) (iE : PySem.W.isFn K (.ref fE) = true) (bE : Binds K dE ["self", "other"] [])
    (gR : mg "Rule" = some (.ref CR)) (k1 : PySem.W.kitOne K (.ref CR) (.ref CR) = some true) (io : IsOwn K CR) (T : Tx mg) : FnOk P w K mg base CX0 5 f fd ["rule", "value"] (spLike C CR) := by
  refine F.ok scIsLikeButForReads (fun vs H Q E h => ?_) (fun cdv A outer s H vs Q E hr h => ?_)
  · obtain ⟨x, y, R, S, rfl, _⟩ := h
    rfl
  · obtain ⟨x, y, R, S, rfl, hR, hS, ok, al, q⟩ := h
    obtain ⟨c, r, l, d, ys, us, a⟩ := id hR
    obtain ⟨c2, r2, l2, d2, ys2, us2, a2⟩ := id hS
    obtain ⟨dx, hx⟩ := a.ob
    obtain ⟨dy, hy⟩ := a2.ob
    obtain ⟨f1, f2, f3, f4⟩ := ok.few
    have GE2 : FnOk P w K mg base CX0 1 fE dE ["self", "other"] (spEq (SameCrowd C)) := GE.imp fun vs H Q E h => by
      obtain ⟨a, b, rfl, ⟨zs, m, h1, h2, h3⟩, q⟩ := h
      refine ⟨a, b, zs, m, rfl, h1, h3, .inl ⟨zs, m, h2, h3, ?_⟩⟩
      rw [decide_eq_true rfl, decide_eq_true rfl]
      exact q H Ext.rfl'
    have eqs : RcG (cxOf CX0 P w K mg base ["rule", "value"] "is_like_but_for_reads" (defScope sIsLikeButForReads) f cdv A outer s H E).nox 3 (DTup K (partD C)) := rcG_tup (mon_partD C) (EqG.or (EqG.or (eqG_flat.mono (by decide)) ((eqG_ins (E := fun _ _ _ => False) GE2 sE iE bE pass0).mono (by decide))) (eqG_list (mon_list mon_flat) (eqG_list mon_flat eqG_flat)))
    refine ⟨_, pss_one (ps_ret (pe_and (pe_callB call_isi (by rfl) T.isi (by decide +kernel) (pa_cons (pv 1) (pa_cons (pe_glob (v := .ref CR) (by rfl) gR rfl) pa_nil)))
      (pe_one (pe_cmpR (op_eqG eqs (hr.mono (by decide))) (pe_call GP (hr.mono (by decide)) (by rfl) gP kP bP .nil pass0 (pa_cons (pv 0) pa_nil)) (pe_call GP (hr.mono (by decide)) (by rfl) gP kP bP .nil pass0 (pa_cons (pv 1) pa_nil)) (nomark _))))), ?_⟩
    refine ⟨_, rfl, .ref y, .ref CR, _, _, _, rfl, .own CR, io.ty hy, k1, _, rfl, iteT ?_⟩
    refine ⟨_, rfl, x, c, r, l, d, ys, us, R, rfl, a, by omega, fun H1 t1 m1 u1 s1 n1 h1 hm1 r1 => ?_⟩
    refine ⟨_, rfl, y, c2, r2, l2, d2, ys2, us2, S, rfl, a2.same s1, by rw [← al.lists]; omega, fun H2 t2 m2 u2 s2 n2 h2 hm2 r2' => ?_⟩
    refine ⟨⟨t1, t2, _, _, rfl, rfl, SqT.of (s2 _ _ h1), SqT.of h2, ?_⟩, fun H3 s3 => q H3 ((s1.trans s2).trans s3)⟩
    have s12 := s1.trans s2
    have hc1 : CrowdOf H2 C c R.zs R.m := a.crowd.same s12
    have hc2 : CrowdOf H2 C c2 R.zs R.m := by
      rw [al.zs, al.m]
      exact a2.crowd.same s12
    obtain ⟨e1, p1, x1, _⟩ := id hc1
    obtain ⟨e2, p2, x2, _⟩ := id hc2
    refine Prs.cons (.inl (.inr ⟨c, c2, e1, e2, _, _, rfl, rfl, x1, x2, R.zs, R.m, hc1, hc2, ok.folk.ok⟩)) ?_
    refine Prs.cons (.inl (.inl ⟨rfl, rfl, by rw [al.turn]; exact eqV_word _⟩)) ?_
    refine Prs.cons (.inl (.inl ⟨rfl, rfl, by rw [al.gather]; exact eqV_word _⟩)) ?_
    refine Prs.cons (.inl (.inl ⟨rfl, rfl, by rw [al.trim]; show (S.trim == S.trim) = true; exact beq_self_eq_true _⟩)) ?_
    refine Prs.cons (.inr ⟨m1, m2, _, _, rfl, rfl, s2 _ _ hm1, hm2, rows_like (r1.same s2) (by rw [al.lists]; exact r2')⟩) ?_
    exact Prs.cons (.inl (.inl ⟨rfl, rfl, by rw [al.prizes]; show (S.prizes == S.prizes) = true; exact beq_self_eq_true _⟩)) Prs.nil
theorem ok_ruleEq {f fL fRd pRd : Addr} {fd dL dRd : FuncData} (F : Fun K "__eq__" "Rule.__eq__" sRuleEq f fd) (GL : FnOk P w K mg base CX0 5 fL dL ["rule", "value"] (spLike C CR)) (kL : PySem.W.keepIn K (.ref fL) = true) (bL : Binds K dL ["rule", "value"] []) (gL : mg "is_like_but_for_reads" = some (.ref fL))
    (clR : Cls K CR) (ppRd : PropOf K CR "reads" pRd fRd) (GRd : FnOk P w K mg base CX0 1 fRd dRd ["self"] (spRuleReads C CR)) (bRd : Binds K dRd ["self"] []) : FnOk P w K mg base CX0 6 f fd ["self", "other"] (spRuleEq C CR) := by
  refine F.ok scRuleEq (fun vs H Q E h => ?_) (fun cdv A outer s H vs Q E hr h => ?_)
  · obtain ⟨x, y, R, S, rfl, _⟩ := h
    rfl
  · obtain ⟨x, y, R, S, rfl, hR, hS, okR, okS, al, q⟩ := h
    obtain ⟨c, r, l, d, ys, us, a⟩ := id hR
    obtain ⟨c2, r2, l2, d2, ys2, us2, a2⟩ := id hS
    obtain ⟨dx, hx⟩ := a.ob
    obtain ⟨dy, hy⟩ := a2.ob
    refine ⟨_, pss_one (ps_ret (pe_and (pe_call GL hr (by rfl) gL kL bL .nil pass0 (pa_cons (pv 0) (pa_cons (pv 1) pa_nil)))
      (pe_one (pe_cmpR (op_eqD hr.units) (pe_prop (pv 0) clR ppRd GRd (hr.mono (by decide)) bRd .nil pass0 rfl) (pe_prop (pv 1) clR ppRd GRd (hr.mono (by decide)) bRd .nil pass0 rfl) (nomark _))))), ?_⟩
    refine ⟨_, rfl, _, rfl, x, y, R, S, rfl, hR, hS, okR, al, fun H1 s1 => ⟨_, rfl, iteT ?_⟩⟩
    refine ⟨_, rfl, x, dx, _, rfl, s1 _ _ hx, x, R, rfl, hR.same s1, fun H2 p2 zs2 s2 n2 h2 t2 => ?_⟩
    refine ⟨_, rfl, y, dy, _, rfl, s2 _ _ (s1 _ _ hy), y, S, rfl, hS.same (s1.trans s2), fun H3 p3 zs3 s3 n3 h3 t3 => ?_⟩
    have okW : ∀ {U : RuleD}, U.Ok → ∀ p ∈ U.reads, PyData.strOk p.1 = true ∧ PyData.strOk p.2 = true := fun {U} o p hp => by
      have := pairsOf_mem (o.reads.subset hp)
      exact ⟨o.folk.ok _ this.1, o.folk.ok _ this.2⟩
    refine ⟨_, _, .lst (SqL.of (s3 _ _ h2)) (t2.same s3).dp, .lst (SqL.of h3) t3.dp, shaped_pairs (okW okR), shaped_pairs (okW okS), ?_⟩
    rw [eqv_pairs]
    exact q H3 ((s1.trans s2).trans s3)
end
end K09

set_option Elab.async false
set_option linter.all false
set_option maxRecDepth 100000
set_option maxHeartbeats 4000000
namespace K09
open PySem PySem.Spec PyProof.Rows L2
abbrev chKws : List (Str × V) := [("turn", .non), ("reads", .non), ("gather", .non), ("trim", .non), ("lists", .non), ("prizes", .non)]
abbrev ruPs : List Str := ["self", "crowd", "turn", "reads", "gather", "trim", "lists", "prizes"]
abbrev ruKs : List Str := ["turn", "reads", "gather", "trim", "lists", "prizes"]
abbrev chPs : List Str := ["self", "turn", "reads", "gather", "trim", "lists", "prizes"]
theorem given_non {w : V} : given .non w = w := by
  unfold given
  rw [if_pos rfl]
theorem given_yes {v w : V} (e : v = .non) : given v w = w := by
  unfold given
  rw [if_pos e]
theorem given_no {v w : V} (e : ¬ v = .non) : given v w = v := by
  unfold given
  rw [if_neg e]
theorem ty_given {K : PySem.W.Frag} {H : Hp} {v w : V} (h1 : ∃ T, TyN K H v T) (h2 : ∃ T, TyN K H w T) : ∃ T, TyN K H (given v w) T := by
  unfold given
  split
  · exact h2
  · exact h1
theorem reads_given {K : PySem.W.Frag} {H : Hp} {zs : List Str} {p : Addr} {ys : List V} {ps : List Pr} (nd : zs.Nodup) (z8 : zs.length ≤ 8) (h : H p = some (.lst ys)) (t : Tps H ys ps) (sub : ps.Sublist (pairsOf zs)) : ReadsOpt K H zs (.ref p) true ps := by
  have l1 := sub.length_le
  have l2 : (pairsOf zs).length ≤ 64 := pairs_len z8 z8
  have r := ReadsOpt.some (K := K) (zs := zs) (ReadsArg.seq (.inl h) (by rw [t.1]; omega) t fun p hp => sub.subset hp) (fun e => nomatch e) fun _ => ⟨p, ys, rfl, h⟩
  rwa [decide_eq_true ((pairs_nodup nd).sublist sub), pick_id (pairs_nodup nd) sub] at r
section
variable {P : Program} {w : World} {K : PySem.W.Frag} {mg : Str → Option Value} {base : Heap} {C CR CB : Addr}
theorem ok_changed {f fI fRd pRd fL pL : Addr} {fd dI dRd dL : FuncData} {gR0 : List Value → List Value → List Value} (F : FunD K "changed" "Rule.changed" (defArgs sRuleChanged) (defBody sRuleChanged) (defScope sRuleChanged) [] chKws f fd)
    (MR : Mk K CR fI) (GI : FnOk P w K mg base (L2.CX P w) 4 fI dI ruPs (spRuleInit K C CR CB)) (gR : mg "Rule" = some (.ref CR)) (bR : KBn K dI ruPs 2 ruKs gR0 (fun vs zs => vs ++ zs))
    (clR : Cls K CR) (nA : ∀ n ∈ (["crowd", "turn", "gather", "trim", "prizes", "_reads", "_lists", "_readers"] : List Str), NoAttr K CR n) (ppRd : PropOf K CR "reads" pRd fRd) (GRd : FnOk P w K mg base CX0 1 fRd dRd ["self"] (spRuleReads C CR)) (bRd : Binds K dRd ["self"] [])
    (ppL : PropOf K CR "lists" pL fL) (GL : FnOk P w K mg base CX0 1 fL dL ["self"] (spRuleLists C CR)) (bL : Binds K dL ["self"] []) : FnOk P w K mg base (L2.CX P w) 6 f fd chPs (spChanged K C CR CB) := by
  have n1 := nA "crowd" (by decide)
  have n2 := nA "turn" (by decide)
  have n3 := nA "gather" (by decide)
  have n4 := nA "trim" (by decide)
  have n5 := nA "prizes" (by decide)
  refine F.ok scRuleChanged (fun vs H Q E h => ?_) (fun cdv A outer s H vs Q E hr h => ?_)
  · obtain ⟨x, R, tv, rv, gv, mv, lv, pz, rB, lB, rs, ls, rfl, _⟩ := h
    rfl
  · obtain ⟨x, R, tv, rv, gv, mv, lv, pz, rB, lB, rs, ls, rfl, hR, ok, ht, hrv, hg, hm, hlv, hp, bad, good⟩ := h
    obtain ⟨c, r, l, d, ys, us, a⟩ := id hR
    obtain ⟨dx, hx⟩ := a.ob
    obtain ⟨f1, f2, f3, f4⟩ := ok.few
    refine ⟨_, pss_one (ps_ret (pe_makeK (n := 1) (ks := ruKs) MR GI hr (by rfl) gR bR (passes_call (takes_of rfl rfl rfl rfl) fun _ _ _ _ h => h) (pa_cons (pe_fld (pv 0) rfl) pa_nil)
      (pk_cons (pe_cut (fun _ H v H' => v = given tv (.str R.turn) ∧ H = H') (pe_ifExp (pt_cmpR op_isN (pv 1) pe_non (nomark _)) (pe_fld (pv 0) rfl) (pv 1)))
      (pk_cons (pe_cut (fun _ H v H' => Same H H' ∧ ReadsOpt K H' R.zs v rB rs) (pe_ifExp (pt_cmpR op_isN (pv 2) pe_non (nomark _)) (pe_prop (pv 0) clR ppRd GRd (hr.mono (by decide)) bRd .nil pass0 rfl) (pv 2)))
      (pk_cons (pe_cut (fun _ H v H' => v = given gv (.str R.gather) ∧ H = H') (pe_ifExp (pt_cmpR op_isN (pv 3) pe_non (nomark _)) (pe_fld (pv 0) rfl) (pv 3)))
      (pk_cons (pe_cut (fun _ H v H' => v = given mv (.int R.trim) ∧ H = H') (pe_ifExp (pt_cmpR op_isN (pv 4) pe_non (nomark _)) (pe_fld (pv 0) rfl) (pv 4)))
      (pk_cons (pe_cut (fun _ H v H' => Same H H' ∧ ListsOpt K H' R.zs v lB ls) (pe_ifExp (pt_cmpR op_isN (pv 5) pe_non (nomark _)) (pe_prop (pv 0) clR ppL GL (hr.mono (by decide)) bL .nil pass0 rfl) (pv 5)))
      (pk_cons (pe_cut (fun _ H v H' => v = given pz (.int R.prizes) ∧ H = H') (pe_ifExp (pt_cmpR op_isN (pv 6) pe_non (nomark _)) (pe_fld (pv 0) rfl) (pv 6))) pk_nil)))))))), ?_⟩
    refine ⟨_, rfl, x, CR, dx, _, _, rfl, hx, clR, n1, rfl, ?_⟩
    refine ⟨?_, ?_⟩
    · refine ⟨_, rfl, rfl, _, rfl, ?_⟩
      by_cases e : tv = .non
      · rw [decide_eq_true e]
        dsimp only
        rw [if_pos rfl, given_yes e]
        exact ⟨_, rfl, x, CR, dx, _, _, rfl, hx, clR, n2, rfl, rfl, rfl⟩
      · rw [decide_eq_false e]
        dsimp only
        rw [if_neg (by decide), given_no e]
        exact ⟨_, rfl, rfl, rfl⟩
    rintro _ _ ⟨rfl, rfl⟩
    refine ⟨?_, ?_⟩
    · refine ⟨_, rfl, rfl, _, rfl, ?_⟩
      rcases hrv with ⟨e, rfl, rfl⟩ | ⟨e, ho⟩
      · rw [decide_eq_true e]
        dsimp only
        rw [if_pos rfl]
        exact ⟨_, rfl, x, dx, _, rfl, hx, x, R, rfl, hR, fun H1 p ys1 s1 np hp1 t1 => ⟨s1, reads_given ok.folk.nd f1 hp1 t1 ok.reads⟩⟩
      · rw [decide_eq_false e]
        dsimp only
        rw [if_neg (by decide)]
        exact ⟨_, rfl, Same.refl _, ho⟩
    rintro rv1 H1 ⟨s1, ro⟩
    have hx1 := s1 _ _ hx
    refine ⟨?_, ?_⟩
    · refine ⟨_, rfl, rfl, _, rfl, ?_⟩
      by_cases e : gv = .non
      · rw [decide_eq_true e]
        dsimp only
        rw [if_pos rfl, given_yes e]
        exact ⟨_, rfl, x, CR, dx, _, _, rfl, hx1, clR, n3, rfl, rfl, rfl⟩
      · rw [decide_eq_false e]
        dsimp only
        rw [if_neg (by decide), given_no e]
        exact ⟨_, rfl, rfl, rfl⟩
    rintro _ _ ⟨rfl, rfl⟩
    refine ⟨?_, ?_⟩
    · refine ⟨_, rfl, rfl, _, rfl, ?_⟩
      by_cases e : mv = .non
      · rw [decide_eq_true e]
        dsimp only
        rw [if_pos rfl, given_yes e]
        exact ⟨_, rfl, x, CR, dx, _, _, rfl, hx1, clR, n4, rfl, rfl, rfl⟩
      · rw [decide_eq_false e]
        dsimp only
        rw [if_neg (by decide), given_no e]
        exact ⟨_, rfl, rfl, rfl⟩
    rintro _ _ ⟨rfl, rfl⟩
    refine ⟨?_, ?_⟩
    · refine ⟨_, rfl, rfl, _, rfl, ?_⟩
      rcases hlv with ⟨e, rfl, rfl⟩ | ⟨e, ho⟩
      · rw [decide_eq_true e]
        dsimp only
        rw [if_pos rfl]
        refine ⟨_, rfl, x, dx, _, rfl, hx1, x, R, rfl, hR.same s1, by omega, fun H2 p us2 s2 np hp2 r2 => ⟨s2, ?_⟩⟩
        have := ListsOpt.good (K := K) (LL.of_rows hp2 r2) ok.lists.parts (by omega)
        rwa [inOrder_id ok.folk.nd ok.lists] at this
      · rw [decide_eq_false e]
        dsimp only
        rw [if_neg (by decide)]
        exact ⟨_, rfl, Same.refl _, ho.same s1⟩
    rintro lv1 H2 ⟨s2, lo⟩
    have hx2 := s2 _ _ hx1
    refine ⟨?_, ?_⟩
    · refine ⟨_, rfl, rfl, _, rfl, ?_⟩
      by_cases e : pz = .non
      · rw [decide_eq_true e]
        dsimp only
        rw [if_pos rfl, given_yes e]
        exact ⟨_, rfl, x, CR, dx, _, _, rfl, hx2, clR, n5, rfl, rfl, rfl⟩
      · rw [decide_eq_false e]
        dsimp only
        rw [if_neg (by decide), given_no e]
        exact ⟨_, rfl, rfl, rfl⟩
    rintro _ _ ⟨rfl, rfl⟩
    refine ⟨rfl, rfl, fun y dy ny ndy ney => ?_⟩
    have s12 := s1.trans s2
    have tS : ∀ {v : V} {u : Str}, (∃ T, TyN K H v T) → ∃ T, TyN K H2 (given v (.str u)) T := fun {v u} h => ty_given (h.elim fun T t => ⟨T, t.same s12⟩) ⟨"str", .base (.str _), by decide⟩
    have tI : ∀ {v : V} {u : Int}, (∃ T, TyN K H v T) → ∃ T, TyN K H2 (given v (.int u)) T := fun {v u} h => ty_given (h.elim fun T t => ⟨T, t.same s12⟩) ⟨"int", .base (.int _), by decide⟩
    obtain ⟨T1, t1⟩ := tS (u := R.turn) ht
    obtain ⟨T2, t2⟩ := tS (u := R.gather) hg
    obtain ⟨T3, t3⟩ := tI (u := R.trim) hm
    obtain ⟨T4, t4⟩ := tI (u := R.prizes) hp
    refine ⟨H2, y, dy, c, R.zs, R.m, _, rv1, _, _, lv1, _, rB, lB, rs, ls, T1, T2, T3, T4, rfl, fun b o e => ?_, ny, upd_same, a.crowd.same s12, ok.folk, t1, ro.same s2, t2, t3, lo, t4, fun z wz H' d hr => ?_, fun t g mi p e1 e2 e3 e4 wz H' r' l' d' ys' us' s' fr fl fd' a' => ?_⟩
    · rw [upd_ne (ne_of_none e ny), upd_ne (ne_of_none e ndy)]
      exact e
    · exact bad z wz H' d ⟨s12.trans hr.1, s12.free hr.2.1, hr.2.2⟩
    · exact ⟨rfl, good t g mi p e1 e2 e3 e4 wz H' y (s12.trans s') (s12.free ny) ⟨c, r', l', d', ys', us', a'⟩⟩
end
end K09

set_option Elab.async false
set_option linter.all false
set_option maxRecDepth 100000
set_option maxHeartbeats 4000000
namespace K09
open PySem PySem.Spec PyProof.Rows L2
section
variable {P : Program} {w : World} {K : PySem.W.Frag} {mg : Str → Option Value} {base : Heap}
abbrev ulN : List Str := ["_law_some", "_law_at", "_law_one"]
theorem ok_unlike {f : Addr} {fd : FuncData} (F : Fun K "_law_unlike" "_law_unlike" sUnlike f fd) (ze : mg "enumerate" = none) : FnOk P w K mg base CX0 1 f fd ["_law_some"] (spUnlike K) := by
  refine F.ok scUnlike (fun vs H Q E h => ?_) (fun cdv A outer s H vs Q E hr h => ?_)
  · obtain ⟨l, ws, rfl, _⟩ := h
    rfl
  · obtain ⟨l, ws, rfl, hl, l100, q⟩ := h
    refine ⟨_, pss_one (ps_ret (by
      refine' pe_lc (own := [("_law_at", 1), ("_law_one", 2)]) (g := gTup K 2 (gCons (gName 1) (gCons (gName 2) gNil))) (by rfl) scUnlike.nd ?k1 (blkOk_by (own := [("_law_at", 1), ("_law_one", 2)]) (N := ulN) (sc := defScope sUnlike) (by decide +kernel)) (fun _ _ _ _ _ => by exact pg_tup rfl (pgs_cons (pg_name (i := 1) scUnlike.nd rfl (.inl rfl)) (pgs_cons (pg_name (i := 2) scUnlike.nd rfl (.inl rfl)) pgs_nil))) ?k2 (fun _ _ _ _ _ => by exact pv 2)
      (case k1 => exact pi_enum (by rfl) ze (pa_cons (pv 0) pa_nil))
      (case k2 => intro _ _ _ _ _; exact pts_one (pt_cmpR (r := rIn K true) op_notIn_seq (pv 2) (pe_slice (r := rSlL K) sl_list (pv 0) po_none (po_some (pv 1))) (by rfl))))), ?_⟩
    refine ⟨_, rfl, l, ws.map V.int, rfl, SqL.of hl, fun D nD => ?_⟩
    refine nest_it (walk_enum (K := K) (a := l) (xs := ws.map V.int)) (fun i G => Same H G ∧ G D = some (.lst ((unl ws i).map V.int))) ⟨same_new nD, upd_same⟩ (fun i G _ h => SqL.of (h.1 _ _ hl)) ?_ ?_
    · rintro i y G G2 hi ⟨sG, hD⟩ ⟨T, v, u, rfl, nT, rfl, hv, hu⟩
      obtain rfl := Option.some.inj hv
      rw [List.length_map] at hi
      dsimp only at hu
      rw [List.getElem?_map, List.getElem?_eq_getElem hi] at hu
      obtain rfl := Option.some.inj hu
      have hk := List.getElem?_eq_getElem hi
      generalize ws[i] = k at hk
      have s2 : Same G (upd G T (.tup [.int (i : Nat), .int k])) := same_new nT
      have hT : upd G T (.tup [.int (i : Nat), .int k]) T = some (.tup [.int (i : Nat), .int k]) := upd_same
      generalize upd G T (.tup [.int (i : Nat), .int k]) = G1 at s2 hT
      refine ⟨T, _, rfl, SqT.of hT, rfl, _, _, rfl, _, _, rfl, rfl, rfl, ?_⟩
      refine ⟨_, rfl, _, rfl, _, rfl, _, rfl, l, _, rfl, SqL.of (s2 _ _ (sG _ _ hl)), fun p np => ?_⟩
      have ec : cutV (ws.map V.int) none (some (i : Int)) = (ws.take i).map V.int := by rw [km_take, ← List.map_take]
      rw [ec]
      have s3 : Same G1 (upd G1 p (.lst ((ws.take i).map V.int))) := same_new np
      have hp : upd G1 p (.lst ((ws.take i).map V.int)) p = some (.lst ((ws.take i).map V.int)) := upd_same
      generalize upd G1 p (.lst ((ws.take i).map V.int)) = G2 at s3 hp
      have s23 := s2.trans s3
      refine ⟨p, _, rfl, .inl (SqL.of hp), rfl, all_flat_ints _, _, rfl, ?_⟩
      rw [if_pos rfl, inV_ints]
      have eu : unl ws (i + 1) = unl ws i ++ (if k ∈ ws.take i then [] else [k]) := by
        show unl ws i ++ _ = _
        rw [hk]
      rw [eu]
      by_cases c : k ∈ ws.take i
      · rw [decide_eq_true c, if_pos c, List.append_nil]
        exact iteF ⟨sG.trans s23, s23 _ _ hD⟩
      · rw [decide_eq_false c, if_neg c]
        refine iteT ⟨_, rfl, _, s23 _ _ hD, ?_, fun b o e => ?_, ?_⟩
        · rw [List.length_map]
          have := unl_len ws i
          exact small1000 (by omega)
        · rw [upd_ne (ne_of_none e nD)]
          exact s23 _ _ (sG _ _ e)
        · rw [upd_same, List.map_append]
          rfl
    · rintro G ⟨sG, hD⟩
      rw [List.length_map] at hD
      exact q G D sG nD hD
end
end K09

set_option Elab.async false
set_option linter.all false
set_option maxRecDepth 100000
set_option maxHeartbeats 4000000
namespace K09
open PySem PySem.Spec PyProof.Rows L2
section
variable {P : Program} {w : World} {K : PySem.W.Frag} {mg : Str → Option Value} {base : Heap}
abbrev paN : List Str := ["_law_pool", "_law_people_here", "_law_many", "_law_found", "_law_where", "_law_person", "_law_number", "_law_at"]
theorem ok_parted {f fD fU : Addr} {fd dD dU : FuncData} (F : Fun K "_law_parted" "_law_parted" sParted f fd) (GD : FnOk P w K mg base CX0 1 fD dD ["_law_pool", "_law_many"] spDraw) (kD : PySem.W.keepIn K (.ref fD) = true) (bD : Binds K dD ["_law_pool", "_law_many"] []) (gD : mg "_law_draw" = some (.ref fD))
    (GU : FnOk P w K mg base CX0 1 fU dU ["_law_some"] (spUnlike K)) (kU : PySem.W.keepIn K (.ref fU) = true) (bU : Binds K dU ["_law_some"] []) (gU : mg "_law_unlike" = some (.ref fU)) (ze : mg "enumerate" = none) :
    FnOk P w K mg base CX0 2 f fd ["_law_pool", "_law_people_here"] spParted := by
  refine F.ok scParted (fun vs H Q E h => ?_) (fun cdv A outer s H vs Q E hr h => ?_)
  · obtain ⟨a, l, zs, rfl, _⟩ := h
    rfl
  · obtain ⟨a, l, zs, rfl, hP, nla, hl, nd, z8, q⟩ := h
    refine ⟨_, pss_cons (ps_asg (pe_tup (pa_cons (pe_op op_add pe_int (pe_call GD hr (by rfl) gD kD bD .nil pass0 (pa_cons (pv 0) (pa_cons pe_int pa_nil)))) (pa_cons (pe_lst pa_nil) pa_nil))) (pg_tup rfl (pgs_cons (pg_name (i := 2) scParted.nd rfl (.inr rfl)) (pgs_cons (pg_name (i := 3) scParted.nd rfl (.inl rfl)) pgs_nil))))
      (pss_cons (ps_set (i := 4) scParted.nd rfl (.inr rfl) (by
          refine' pe_lc (own := [("_law_person", 5)]) (g := gName 5) (by rfl) scParted.nd ?k1 (blkOk_by (own := [("_law_person", 5)]) (N := paN) (sc := defScope sParted) (by decide +kernel)) (fun _ _ _ _ _ => pg_name (i := 5) scParted.nd rfl (Or.inl rfl)) (fun _ _ _ _ _ => pts_nil) ?k2
          (case k1 => exact pi_list (pv 1))
          (case k2 => intro _ _ _ _ _; exact pe_call GD (by exact hr) (by rfl) gD kD bD .nil pass0 (pa_cons (pv 0) (pa_cons (pv 2) pa_nil)))))
      (pss_cons (ps_for PassesOwn.never rfl (pi_list (pe_call GU hr (by rfl) gU kU bU .nil pass0 (pa_cons (pv 4) pa_nil))) (pg_name (i := 6) scParted.nd rfl (.inr rfl))
        (pss_one (ps_expr (pe_bm PySem.F.plainAttrs_list PySem.F.slot_list_append PySem.F.type_list_append mt_append (pv 3) (pa_cons (by
          refine' pe_lc (own := [("_law_at", 7), ("_law_person", 5)]) (g := gTup K 2 (gCons (gName 7) (gCons (gName 5) gNil))) (by rfl) scParted.nd ?l1 (blkOk_by (own := [("_law_at", 7), ("_law_person", 5)]) (N := paN) (sc := defScope sParted) (by decide +kernel)) (fun _ _ _ _ _ => by exact pg_tup rfl (pgs_cons (pg_name (i := 7) scParted.nd rfl (.inl rfl)) (pgs_cons (pg_name (i := 5) scParted.nd rfl (.inl rfl)) pgs_nil))) ?l2 (fun _ _ _ _ _ => by exact pv 5)
          (case l1 => exact pi_enum (by rfl) ze (pa_cons (pv 1) pa_nil))
          (case l2 => intro _ _ _ _ _; exact pts_one (pt_cmpR op_eq (pe_ix (r := rIxL K) ix_list (pv 4) (pv 7) (fun _ _ => rfl)) (pv 6) (nomark _)))) pa_nil)))))
      (pss_one (ps_ret (pv 3))))), ?_⟩
    refine ⟨_, rfl, a, 3, rfl, hP, by decide, by decide, fun r H1 r0 r1 P1 b1 => ⟨_, _, rfl, rfl, Nat.zero_le _, fun p np => ?_⟩⟩
    have s2 : Same H1 (upd H1 p (.lst [])) := same_new np
    have h2 : upd H1 p (.lst []) p = some (.lst []) := upd_same
    have npa : p ≠ a := fun e => by
      obtain ⟨g, q', ha, _⟩ := P1
      rw [e, ha] at np
      cases np
    have npH : H p = none := by
      cases e : H p with
      | none => rfl
      | some o =>
        have := b1 _ _ npa e
        rw [np] at this
        cases this
    generalize upd H1 p (.lst []) = H2 at s2 h2
    have P2 := P1.same s2
    refine ⟨(by show 2 ≤ sizeLine; decide), fun t nt => ?_⟩
    have s3 : Same H2 (upd H2 t (.tup [.int (1 + r), .ref p])) := same_new nt
    have h3 : upd H2 t (.tup [.int (1 + r), .ref p]) t = some (.tup [.int (1 + r), .ref p]) := upd_same
    have P3 := P2.same s3
    have hp3 := s3 _ _ h2
    generalize upd H2 t (.tup [.int (1 + r), .ref p]) = H3 at s3 h3 P3 hp3
    have sd3 : Same (del H a) (del H3 a) := (del_but b1).trans (del_mono (s2.trans s3))
    have ld3 := sd3 _ _ (del_at nla hl)
    refine ⟨t, _, rfl, SqT.of h3, rfl, _, _, rfl, _, _, rfl, rfl, ?_⟩
    refine ⟨_, rfl, l, rfl, ⟨_, SqL.of (del_of ld3)⟩, fun D nD => ?_⟩
    have nDa : D ≠ a := fun e => by
      obtain ⟨g, q', ha, _⟩ := P3
      rw [e, ha] at nD
      cases nD
    have P3D : Pool (upd H3 D (.lst [])) a := P3.same (same_new nD)
    refine nest_it (walk_list (K := K) (a := l) (xs := zs.map V.str)) (fun j G => Pool G a ∧ Same (del H3 a) (del G a) ∧ ∃ ks : List Int, ks.length = j ∧ G D = some (.lst (ks.map V.int))) ⟨P3D, del_mono (same_new nD), [], rfl, upd_same⟩ (fun j G _ h => SqL.of (del_of (h.2.1 _ _ ld3))) ?_ ?_
    · rintro j y G0 G hj ⟨PG, sdG, ks, lk, hD⟩ ⟨rfl, _⟩
      rw [List.length_map] at hj
      refine ⟨rfl, _, rfl, _, rfl, a, 1 + r, rfl, PG, by omega, by omega, fun k G' k0 k1 PG' bG => ?_⟩
      have hD' := bG _ _ nDa hD
      refine ⟨_, hD', by rw [List.length_map]; exact small1000 (by omega), ?_, del_upd (sdG.trans (del_but bG)) nD, ks ++ [k], by rw [List.length_append, lk]; rfl, by rw [upd_same, List.map_append]; rfl⟩
      obtain ⟨g, q', ha, hb⟩ := PG'
      exact ⟨g, q', by rw [upd_ne nDa.symm]; exact ha, hb⟩
    rintro H4 ⟨P4, sd4, ws, lw, hD4⟩
    rw [List.length_map] at lw
    have ld4 := sd4 _ _ ld3
    have hp4 := del_of (sd4 _ _ (del_at npa hp3))
    refine ⟨_, rfl, D, ws, rfl, hD4, by omega, fun H5 ul s5 nul hul => ⟨ul, rfl, ⟨_, SqL.of hul⟩, ?_⟩⟩
    have hp5 := s5 _ _ hp4
    have l5 := s5 _ _ (del_of ld4)
    have w5 := s5 _ _ hD4
    have P5 := P4.same s5
    have nulp : ul ≠ p := fun e => by
      rw [e, hp4] at nul
      cases nul
    have nlp : l ≠ p := fun e => by
      rw [e, npH] at hl
      cases hl
    have nDp : D ≠ p := fun e => by
      rw [e, hp3] at nD
      cases nD
    have sd5 : Same (del H a) (del H5 a) := (sd3.trans sd4).trans (del_mono s5)
    refine for_list (K := K) (a := ul) (xs := (unl ws ws.length).map V.int) (fun i σ G => ∃ (us : List Addr) (v5 v6 v7 : Option V), σ = [some (.ref a), some (.ref l), some (.int (1 + r)), some (.ref p), some (.ref D), v5, v6, v7] ∧ But p H5 G ∧ G p = some (.lst (us.map V.ref)) ∧ Paired (fun u k => u ≠ p ∧ G u = some (.lst ((rowN zs ws k).map V.str))) us ((unl ws ws.length).take i))
      ⟨[], _, _, _, rfl, But.of_same (Same.refl _), hp5, .nil⟩ (fun i σ G _ h => ?_) ?_ ?_
    · obtain ⟨us, v5, v6, v7, _, b, _⟩ := h
      exact SqL.of (b _ _ nulp hul)
    · rintro i x σ G hx ⟨us, v5, v6, v7, rfl, bG, hp, pr⟩
      rw [List.getElem?_map] at hx
      obtain ⟨k, hk, rfl⟩ := Option.map_eq_some_iff.mp hx
      have il : i < (unl ws ws.length).length := (List.getElem?_eq_some_iff.mp hk).1
      have ul8 := unl_len ws ws.length
      have lG := bG _ _ nlp l5
      have wG := bG _ _ nDp w5
      refine ⟨_, rfl, .inl ⟨rfl, _, SqL.of hp⟩, _, rfl, l, _, rfl, SqL.of lG, fun D2 nD2 => ?_⟩
      refine nest_it (walk_enum (K := K) (a := l) (xs := zs.map V.str)) (fun j G2 => Same G G2 ∧ G2 D2 = some (.lst (((((zs.zip ws).take j).filter fun q => decide (q.2 = k)).map (·.1)).map V.str))) ⟨same_new nD2, upd_same⟩ (fun j G2 _ h => SqL.of (h.1 _ _ lG)) ?_ ?_
      · rintro j y G2 G3 hj ⟨sG2, hD2⟩ ⟨T, v, u, rfl, nT, rfl, hv, hu⟩
        obtain rfl := Option.some.inj hv
        rw [List.length_map] at hj
        dsimp only at hu
        rw [List.getElem?_map, List.getElem?_eq_getElem hj] at hu
        obtain rfl := Option.some.inj hu
        have hz := List.getElem?_eq_getElem hj
        generalize zs[j] = z at hz
        have hjw : j < ws.length := by omega
        have hwj := List.getElem?_eq_getElem hjw
        generalize ws[j] = m at hwj
        have sT : Same G2 (upd G2 T (.tup [.int (j : Nat), .str z])) := same_new nT
        have hT : upd G2 T (.tup [.int (j : Nat), .str z]) T = some (.tup [.int (j : Nat), .str z]) := upd_same
        generalize upd G2 T (.tup [.int (j : Nat), .str z]) = G4 at sT hT
        refine ⟨T, _, rfl, SqT.of hT, rfl, _, _, rfl, _, _, rfl, rfl, rfl, ?_⟩
        refine ⟨_, rfl, _, rfl, D, _, (j : Int), .int m, rfl, rfl, SqL.of (sT _ _ (sG2 _ _ wG)), atI_nat (by rw [List.getElem?_map, hwj]; rfl), _, rfl, rfl, _, rfl, ?_⟩
        have tk : (zs.zip ws).take (j + 1) = (zs.zip ws).take j ++ [(z, m)] := by
          rw [List.take_add_one, (List.getElem?_zip_eq_some (z := (z, m))).mpr ⟨hz, hwj⟩]
          rfl
        rw [tk, List.filter_append, List.map_append, List.map_append]
        refine ite2 (fun c => ?_) (fun c => ?_)
        · have e : m = k := V.int.inj (of_decide_eq_true c)
          refine ⟨_, rfl, _, sT _ _ hD2, ?_, fun b o e2 => ?_, ?_⟩
          · rw [List.length_map, List.length_map]
            refine small1000 ?_
            have l1 := List.length_filter_le (fun q : Str × Int => decide (q.2 = k)) ((zs.zip ws).take j)
            rw [List.length_take, List.length_zip] at l1
            omega
          · rw [upd_ne (ne_of_none e2 nD2)]
            exact sT _ _ (sG2 _ _ e2)
          · rw [upd_same]
            simp [e]
        · have e : ¬ m = k := fun e => c (decide_eq_true (by rw [e]))
          refine ⟨sG2.trans sT, ?_⟩
          rw [sT _ _ hD2]
          simp [e]
      · rintro G3 ⟨sG3, hD3⟩
        rw [List.length_map] at hD3
        have ez : (zs.zip ws).take zs.length = zs.zip ws := List.take_of_length_le (by rw [List.length_zip]; omega)
        rw [ez] at hD3
        have nD2p : D2 ≠ p := fun e => by
          rw [e, hp] at nD2
          cases nD2
        refine ⟨p, _, _, rfl, rfl, sG3 _ _ hp, ?_, us ++ [D2], _, _, _, rfl, fun b o nb e => ?_, by rw [upd_same, List.map_append]; rfl, ?_⟩
        · rw [List.length_map, Paired.length pr, List.length_take]
          exact small1000 (by omega)
        · rw [upd_ne nb]
          exact sG3 _ _ (bG _ _ nb e)
        · rw [List.take_add_one, hk]
          refine Paired.snoc (Paired.mono (fun u k2 h => ⟨h.1, by rw [upd_ne h.1]; exact sG3 _ _ h.2⟩) pr) ⟨nD2p, ?_⟩
          rw [upd_ne nD2p]
          exact hD3
    · rintro σ G ⟨us, v5, v6, v7, rfl, bG, hp, pr⟩
      rw [List.length_map, List.take_length] at pr
      have PG : Pool G a := by
        obtain ⟨g, q', ha, hb⟩ := P5
        exact ⟨g, q', bG _ _ npa.symm ha, hb⟩
      have pd : ∀ {b : Addr} {o : HO}, b ≠ a → G b = some o → del G a b = some o := fun n e => del_at n e
      have sdG : Same (del H a) (del G a) := fun b o e => by
        have nb : b ≠ p := fun z => by
          have := del_le _ _ e
          rw [z, npH] at this
          cases this
        have na : b ≠ a := fun z => by
          rw [z, del_same] at e
          cases e
        exact del_at na (bG _ _ nb (del_of (sd5 _ _ e)))
      obtain ⟨ga, qa, hGa, _⟩ := id PG
      refine ⟨_, rfl, q G p us (partN zs ws) (straight_parts (n := ws.length) (by omega) rfl nd) PG sdG npH (del_at npa hp) ?_⟩
      unfold partN
      refine paired_mapRC (F' := fun u (l : List Str) => del G a u = some (.lst (l.map V.str))) (fun u k h => del_at (fun e => ?_) h.2) pr
      rw [e, hGa] at h
      have e2 := HO.lst.inj (Option.some.inj h.2)
      cases hr2 : rowN zs ws k with
      | nil => rw [hr2] at e2; cases e2
      | cons z r => rw [hr2] at e2; cases (List.cons.inj e2).1
end
end K09

set_option Elab.async false
set_option linter.all false
set_option maxRecDepth 100000
set_option maxHeartbeats 4000000
namespace K09
open PySem PySem.Spec PyProof.Rows L2
section
variable {P : Program} {w : World} {K : PySem.W.Frag} {mg : Str → Option Value} {base : Heap}
abbrev raN : List Str := ["_law_plan_here", "_law_person", "_law_one"]
theorem ok_readersA {f : Addr} {fd : FuncData} (F : Fun K "_law_readers" "_law_readers" sReaders f fd) : FnOk P w K mg base CX0 1 f fd ["_law_plan_here", "_law_person"] spReadersA := by
  refine F.ok scReaders (fun vs H Q E h => ?_) (fun cdv A outer s H vs Q E hr h => ?_)
  · obtain ⟨g, wo, r, z, kvs, zs, ys, rs, rfl, _⟩ := h
    rfl
  · obtain ⟨g, wo, r, z, kvs, zs, ys, rs, rfl, hg, e1, hw, e2, hrd, t, z8, oz, ozs, ors, q⟩ := h
    have hu65 : (A.deeper (envOfC "_law_readers" (defScope sReaders) s.heap.objs.size f cdv)).units + 65 < cLine := by
      have := hr.un
      omega
    have hu1 : (A.deeper (envOfC "_law_readers" (defScope sReaders) s.heap.objs.size f cdv)).units + 1 < cLine := by omega
    refine ⟨_, pss_one (ps_ret (by
      refine' pe_lc (own := [("_law_one", 2)]) (g := gName 2) (by rfl) scReaders.nd ?k1 (blkOk_by (own := [("_law_one", 2)]) (N := raN) (sc := defScope sReaders) (by decide +kernel)) (fun _ _ _ _ _ => pg_name (i := 2) scReaders.nd rfl (Or.inl rfl)) ?k2 (fun _ _ _ _ _ => by exact pv 2)
      (case k1 => exact pi_seq (pe_dget (by exact hu1) (pv 0) pe_str (fun _ _ => rfl)))
      (case k2 => intro _ _ _ _ _; exact pts_one (pt_cmpR (r := rInD K) (op_inD (by exact hu65)) (pe_tup (pa_cons (pv 2) (pa_cons (pv 1) pa_nil))) (pe_dget (by exact hu1) (pv 0) pe_str (fun _ _ => rfl)) (by rfl))))), ?_⟩
    refine ⟨_, rfl, g, _, rfl, dget_of hg e1, wo, _, rfl, .inl (SqL.of hw), fun J ji D nD => ?_⟩
    refine lc_fm ji (os := zs.map fun o => if decide ((o, z) ∈ rs) = true then some (V.str o) else none) (by rw [List.length_map, List.length_map]) (by rw [List.length_map]; omega) nD (fun _ => rfl) (fun j y o G N M hy ho sG kN kM => ?_) (fun G sG hD => ?_)
    · rw [List.getElem?_map] at hy ho
      obtain ⟨o1, ho1, rfl⟩ := Option.map_eq_some_iff.mp hy
      rw [ho1] at ho
      have eo := Option.some.inj ho
      dsimp only at eo
      refine ⟨_, rfl, _, rfl, (by show 2 ≤ sizeLine; decide), fun t0 nt0 => ?_⟩
      have s2 : Same G (upd G t0 (.tup [.str o1, .str z])) := same_new nt0
      have h2 : upd G t0 (.tup [.str o1, .str z]) t0 = some (.tup [.str o1, .str z]) := upd_same
      generalize upd G t0 (.tup [.str o1, .str z]) = G2 at s2 h2
      have s12 := sG.trans s2
      refine ⟨_, rfl, g, _, rfl, dget_of (s12 _ _ hg) e2, L2.pairD (o1, z), rs.map L2.pairD, dp_pair h2, .lst (SqL.of (s12 _ _ hrd)) (t.same s12).dp, shaped_pairD (ozs _ (List.mem_of_getElem? ho1)) oz, shaped_pairs ors, _, rfl, ?_⟩
      rw [any_pairs]
      cases h1 : decide ((o1, z) ∈ rs) with
      | true =>
        rw [if_pos h1] at eo
        exact iteT ⟨_, rfl, kN _ _ eo.symm s2⟩
      | false =>
        rw [if_neg (by rw [h1]; decide)] at eo
        exact iteF (kM _ eo.symm s2)
    · rw [fm_if (fun o : Str => decide ((o, z) ∈ rs)) V.str] at hD
      exact q G D sG nD hD
theorem ok_listA {f : Addr} {fd : FuncData} (F : Fun K "_law_list" "_law_list" sList f fd) : FnOk P w K mg base CX0 1 f fd ["_law_plan_here", "_law_person"] spListA := by
  refine F.ok scList (fun vs H Q E h => ?_) (fun cdv A outer s H vs Q E hr h => ?_)
  · obtain ⟨g, l, z, kvs, us, ls, row, rfl, _⟩ := h
    rfl
  · obtain ⟨g, l, z, kvs, us, ls, row, rfl, hg, e1, hls, rows, few, ef, q⟩ := h
    have hu1 : (A.deeper (envOfC "_law_list" (defScope sList) s.heap.objs.size f cdv)).units + 1 < cLine := by
      have := hr.units
      omega
    have rl : us.length = ls.length := Paired.length rows
    refine ⟨_, pss_one (ps_ret (by
      refine' pe_ix ix_list (pe_lc (own := [("_law_members", 2)]) (g := gName 2) (by rfl) scList.nd ?k1 (blkOk_by (own := [("_law_members", 2)]) (N := ["_law_plan_here", "_law_person", "_law_members"]) (sc := defScope sList) (by decide +kernel)) (fun _ _ _ _ _ => pg_name (i := 2) scList.nd rfl (Or.inl rfl)) ?k2 (fun _ _ _ _ _ => by exact pv 2)) pe_int (fun _ _ => rfl)
      (case k1 => exact pi_seq (pe_dget (by exact hu1) (pv 0) pe_str (fun _ _ => rfl)))
      (case k2 => intro _ _ _ _ _; exact pts_one (pt_cmpR (r := rIn K false) op_in_seq (pv 1) (pv 2) (by rfl))))), ?_⟩
    refine ⟨_, rfl, g, _, rfl, dget_of hg e1, l, _, rfl, .inl (SqL.of hls), fun J ji D nD => ?_⟩
    refine lc_fm ji (os := (us.zip ls).map fun q => if decide (z ∈ q.2) = true then some (V.ref q.1) else none) (by rw [List.length_map, List.length_zip, List.length_map, rl, Nat.min_self]) (by rw [List.length_map, rl]; omega) nD (fun _ => rfl) (fun i y o G N M hy ho sG kN kM => ?_) (fun G sG hD => ?_)
    · rw [List.getElem?_map] at ho hy
      obtain ⟨⟨u, rw1⟩, hq, eo⟩ := Option.map_eq_some_iff.mp ho
      obtain ⟨hq1, hq2⟩ := List.getElem?_zip_eq_some.mp hq
      obtain ⟨u', hy1, rfl⟩ := Option.map_eq_some_iff.mp hy
      dsimp only at hq1 hq2 eo
      rw [hy1] at hq1
      obtain rfl := Option.some.inj hq1
      have hu := sG _ _ (pr_get rows hy1 hq2)
      refine ⟨_, rfl, _, rfl, u', _, rfl, .inl (SqL.of hu), rfl, all_flat_strs _, _, rfl, ?_⟩
      rw [if_neg (by decide), inV_strs]
      cases h1 : decide (z ∈ rw1) with
      | false =>
        rw [if_neg (by rw [h1]; decide)] at eo
        exact iteF (kM _ eo.symm (Same.refl _))
      | true =>
        rw [if_pos h1] at eo
        exact iteT ⟨_, rfl, kN _ _ eo.symm (Same.refl _)⟩
    · rw [fm_if (fun q : Addr × List Str => decide (z ∈ q.2)) (fun q => V.ref q.1)] at hD
      have kept := zip_filter (fun q : List Str => decide (z ∈ q)) rows
      have hm : ∀ X : List (Addr × List Str), (X.map fun q => V.ref q.1) = (X.map fun q => q.1).map V.ref := fun X => by
        rw [List.map_map]
        rfl
      rw [hm] at hD
      generalize ((us.zip ls).filter fun q => decide (z ∈ q.2)).map (fun q => q.1) = vs at kept hD
      rw [ef] at kept
      cases kept with
      | cons h0 t =>
        cases t
        refine ⟨D, _, 0, _, rfl, rfl, SqL.of hD, rfl, ?_⟩
        exact q G _ sG (sG _ _ h0)
end
end K09

set_option Elab.async false
set_option linter.all false
set_option maxRecDepth 100000
set_option maxHeartbeats 4000000
namespace K09
open PySem PySem.Spec PyProof.Rows L2
section
variable {P : Program} {w : World} {K : PySem.W.Frag} {mg : Str → Option Value} {base : Heap}
abbrev plN : List Str := ["_law_pool", "_law_least", "_law_many", "_law_top", "_law_menu", "_law_people_here", "_law_plan_here", "_law_rarely", "_law_pair", "_law_members", "_law_person", "_law_one", "_law_kinds", "_law_counts"]
theorem ok_plan {f fD fW fK fG fR fL fP : Addr} {fd dD dW dK dG dR dL dP : FuncData} (F : Fun K "_law_plan" "_law_plan" sPlan f fd)
    (GD : FnOk P w K mg base CX0 1 fD dD ["_law_pool", "_law_many"] spDraw) (kD : PySem.W.keepIn K (.ref fD) = true) (bD : Binds K dD ["_law_pool", "_law_many"] []) (gD : mg "_law_draw" = some (.ref fD))
    (GW : FnOk P w K mg base CX0 2 fW dW ["_law_pool", "_law_many"] spPeople) (kW : PySem.W.keepIn K (.ref fW) = true) (bW : Binds K dW ["_law_pool", "_law_many"] []) (gW : mg "_law_people" = some (.ref fW))
    (GK : FnOk P w K mg base CX0 2 fK dK ["_law_pool", "_law_some"] spPick) (kK : PySem.W.keepIn K (.ref fK) = true) (bK : Binds K dK ["_law_pool", "_law_some"] []) (gK : mg "_law_pick" = some (.ref fK))
    (GG : FnOk P w K mg base CX0 2 fG dG ["_law_pool", "_law_people_here"] spParted) (kG : PySem.W.keepIn K (.ref fG) = true) (bG : Binds K dG ["_law_pool", "_law_people_here"] []) (gG : mg "_law_parted" = some (.ref fG))
    (GR : FnOk P w K mg base CX0 1 fR dR ["_law_plan_here", "_law_person"] spReadersA) (kR : PySem.W.keepIn K (.ref fR) = true) (bR : Binds K dR ["_law_plan_here", "_law_person"] []) (gR : mg "_law_readers" = some (.ref fR))
    (GL : FnOk P w K mg base CX0 1 fL dL ["_law_plan_here", "_law_person"] spListA) (kL : PySem.W.keepIn K (.ref fL) = true) (bL : Binds K dL ["_law_plan_here", "_law_person"] []) (gL : mg "_law_list" = some (.ref fL))
    (GP : FnOk P w K mg base CX0 1 fP dP ["_law_people_here"] (spLawPairs K)) (kP : PySem.W.keepIn K (.ref fP) = true) (bP : Binds K dP ["_law_people_here"] []) (gP : mg "_law_pairs" = some (.ref fP)) (B : Bt mg) (gm : mg "min" = none) :
    FnOk P w K mg base CX0 3 f fd ["_law_pool", "_law_least", "_law_many", "_law_top", "_law_menu"] spPlan := by
  refine F.ok scPlan (fun vs H Q E h => ?_) (fun cdv A outer s H vs Q E hr h => ?_)
  · obtain ⟨a, tl, least, many, top, ts, rfl, _⟩ := h
    rfl
  · obtain ⟨a, tl, least, many, top, ts, rfl, hP, htl, ntl, t1, t100, tt, l1, lm, m8, p1, p10, q⟩ := h
    have hu1 : (A.deeper (envOfC "_law_plan" (defScope sPlan) s.heap.objs.size f cdv)).units + 1 < cLine := by
      have := hr.units
      omega
    have hu64 : (A.deeper (envOfC "_law_plan" (defScope sPlan) s.heap.objs.size f cdv)).units + 64 < cLine := hr.units
    have hu65 : (A.deeper (envOfC "_law_plan" (defScope sPlan) s.heap.objs.size f cdv)).units + 65 < cLine := by
      have := hr.un
      omega
    refine ⟨_, pss_cons (ps_set (i := 5) scPlan.nd rfl (.inl rfl) (pe_call GW (hr.mono (by decide)) (by rfl) gW kW bW .nil pass0 (pa_cons (pv 0) (pa_cons (pe_op op_add (pv 1) (pe_call GD (hr.mono (by decide)) (by rfl) gD kD bD .nil pass0 (pa_cons (pv 0) (pa_cons (pe_op op_add (pe_op op_sub (pv 2) (pv 1)) pe_int) pa_nil)))) pa_nil))))
      (pss_cons (ps_set (i := 6) scPlan.nd rfl (.inr rfl) (pe_disp (pps_cons pe_str (pv 5) (pps_cons pe_str (pe_op op_add pe_int (pe_call GD (hr.mono (by decide)) (by rfl) gD kD bD .nil pass0 (pa_cons (pv 0) (pa_cons (pv 3) pa_nil)))) (pps_cons pe_str (pe_call GK (hr.mono (by decide)) (by rfl) gK kK bK .nil pass0 (pa_cons (pv 0) (pa_cons (pv 4) pa_nil))) (pps_cons pe_str pe_int pps_nil)))) (by rfl) (by rfl) (fun z => by cases z) (by decide)))
      (C8.pss_cut (ps_asg (pe_tup (pa_cons (pe_call GG (hr.mono (by decide)) (by rfl) gG kG bG .nil pass0 (pa_cons (pv 0) (pa_cons (pv 5) pa_nil))) (pa_cons (pe_op op_add pe_int (pe_call GD (hr.mono (by decide)) (by rfl) gD kD bD .nil pass0 (pa_cons (pv 0) (pa_cons pe_int pa_nil)))) pa_nil))) (pg_tup rfl (pgs_cons (pg_sub (pv 6) pe_str (set_dict hu1)) (pgs_cons (pg_name (i := 7) scPlan.nd rfl (.inr rfl)) pgs_nil))))
      (C8.pss_cut (ps_asg (by
          refine' pe_lc (own := [("_law_pair", 8)]) (g := gName 8) (by rfl) scPlan.nd ?k1 (blkOk_by (own := [("_law_pair", 8)]) (N := plN) (sc := defScope sPlan) (by decide +kernel)) (fun _ _ _ _ _ => pg_name (i := 8) scPlan.nd rfl (Or.inl rfl)) ?k2 (fun _ _ _ _ _ => by exact pv 8)
          (case k1 => exact pi_list (pe_call GP (hr.mono (by decide)) (by rfl) gP kP bP .nil pass0 (pa_cons (pv 5) pa_nil)))
          (case k2 => intro _ _ _ _ _; exact pts_one (pt_cmpR op_gt (pe_call GD (Room.mono (by exact hr) (by decide)) (by rfl) gD kD bD .nil pass0 (pa_cons (pv 0) (pa_cons (pe_op op_add pe_int (pv 7)) pa_nil))) pe_int (nomark _)))) (pg_sub (pv 6) pe_str (set_dict hu1)))
      (C8.pss_cut (ps_for PassesOwn.never rfl (pi_list (pe_dget (by exact hu1) (pv 6) pe_str (fun _ _ => rfl))) (pg_name (i := 9) scPlan.nd rfl (.inl rfl)) (pss_one
        (ps_for PassesOwn.never rfl (pi_list (pe_cut (fun σ H v H' => Same H H' ∧ ∀ (u : Addr) (row : List Str), σ[9]? = some (some (.ref u)) → H u = some (.lst (row.map V.str)) → ∃ q, v = .ref q ∧ (q = u ∨ H q = none) ∧ H' q = some (.lst ((if 1 < row.length then row else []).map V.str))) (pe_ifExp (pt_cmpR op_gt (pe_callB call_len_seq (by rfl) B.len PySem.boot_len (pa_cons (pv 9) pa_nil)) pe_int (nomark _)) (pv 9) (pe_lst pa_nil)))) (pg_name (i := 10) scPlan.nd rfl (.inr rfl))
          (pss_one (ps_if (pt_cmpR (op_eqD (by exact hu64)) (pe_call GR (hr.mono (by decide)) (by rfl) gR kR bR .nil pass0 (pa_cons (pv 6) (pa_cons (pv 10) pa_nil))) (pe_lst pa_nil) (nomark _))
            (pss_one (ps_expr (pe_bm PySem.F.plainAttrs_list PySem.F.slot_list_append PySem.F.type_list_append mt_append (pe_dget (by exact hu1) (pv 6) pe_str (fun _ _ => rfl)) (pa_cons (pe_tup (pa_cons (pe_call GK (hr.mono (by decide)) (by rfl) gK kK bK .nil pass0 (pa_cons (pv 0) (pa_cons (by
              refine' pe_lc (own := [("_law_one", 11)]) (g := gName 11) (by rfl) scPlan.nd ?l1 (blkOk_by (own := [("_law_one", 11)]) (N := plN) (sc := defScope sPlan) (by decide +kernel)) (fun _ _ _ _ _ => pg_name (i := 11) scPlan.nd rfl (Or.inl rfl)) ?l2 (fun _ _ _ _ _ => by exact pv 11)
              (case l1 => exact pi_seq (pv 5))
              (case l2 => intro _ _ _ _ _; exact pts_one (pt_cmpR op_ne (pv 11) (pv 10) (nomark _)))) pa_nil))) (pa_cons (pv 10) pa_nil))) pa_nil))))
            pss_nil)))))
      (C8.pss_cut (ps_asg (by
          refine' pe_lc (own := [("_law_pair", 8)]) (g := gName 8) (by rfl) scPlan.nd ?m1 (blkOk_by (own := [("_law_pair", 8)]) (N := plN) (sc := defScope sPlan) (by decide +kernel)) (fun _ _ _ _ _ => pg_name (i := 8) scPlan.nd rfl (Or.inl rfl)) ?m2 (fun _ _ _ _ _ => by exact pv 8)
          (case m1 => exact pi_seq (pe_call GP (hr.mono (by decide)) (by rfl) gP kP bP .nil pass0 (pa_cons (pv 5) pa_nil)))
          (case m2 => intro _ _ _ _ _; exact pts_one (pt_cmpR (r := rInD K) (op_inD (by exact hu65)) (pv 8) (pe_dget (by exact hu1) (pv 6) pe_str (fun _ _ => rfl)) (by rfl)))) (pg_sub (pv 6) pe_str (set_dict hu1)))
      (C8.pss_cut (ps_set (i := 12) scPlan.nd rfl (.inl rfl) (pe_slice (r := rSlL K) sl_list (pe_lst (pa_cons pe_str (pa_cons pe_str (pa_cons pe_str (pa_cons pe_str (pa_cons pe_str (pa_cons pe_str pa_nil))))))) po_none (po_some (pe_ifExp (pt_cmpR op_eq (pe_dget (by exact hu1) (pv 6) pe_str (fun _ _ => rfl)) pe_str (nomark _)) pe_int pe_int))))
      (pss_cons (ps_asg (pe_tup (pa_cons (pe_call GK (hr.mono (by decide)) (by rfl) gK kK bK .nil pass0 (pa_cons (pv 0) (pa_cons (pv 12) pa_nil))) (pa_cons (pe_call GD (hr.mono (by decide)) (by rfl) gD kD bD .nil pass0 (pa_cons (pv 0) (pa_cons (pe_op op_add (pe_callB call_len_seq (by rfl) B.len PySem.boot_len (pa_cons (pv 5) pa_nil)) pe_int) pa_nil))) pa_nil))) (pg_tup rfl (pgs_cons (pg_sub (pv 6) pe_str (set_dict hu1)) (pgs_cons (pg_sub (pv 6) pe_str (set_dict hu1)) pgs_nil))))
      (C8.pss_cut (ps_if (pt_cmpR op_eq (pe_dget (by exact hu1) (pv 6) pe_str (fun _ _ => rfl)) pe_str (nomark _))
        (pss_cons (by
            refine' ps_setLc (i := 13) (own := [("_law_one", 11)]) (g := gName 11) (by rfl) scPlan.nd rfl rfl (sw_true rfl rfl rfl (by decide +kernel)) ?n1 (blkOk_by (own := [("_law_one", 11)]) (N := plN) (sc := defScope sPlan) (by decide +kernel)) (fun _ _ _ _ _ => pg_name (i := 11) scPlan.nd rfl (Or.inl rfl)) ?n2 ?n3
            (case n1 => exact pi_seq (pv 5))
            (case n2 => intro _ _ _ _ _; exact pts_one (pt_cmpR op_gt (pe_callB (r := rLenS K) call_lenS (by rfl) B.len PySem.boot_len (pa_cons (pe_call GL (Room.mono (by exact hr) (by decide)) (by rfl) gL kL bL .nil pass0 (pa_cons (pv 6) (pa_cons (pv 11) pa_nil))) pa_nil)) pe_int (nomark _)))
            (case n3 => intro _ _ _ _ _; exact pe_callB (r := rLenS K) call_lenS (by rfl) B.len PySem.boot_len (pa_cons (pe_call GR (Room.mono (by exact hr) (by decide)) (by rfl) gR kR bR .nil pass0 (pa_cons (pv 6) (pa_cons (pv 11) pa_nil))) pa_nil)))
        (C8.pss_cut (ps_asg (pe_ifExp (pt_cmpR (op_eqD (by exact hu64)) (pv 13) (pe_lst pa_nil) (nomark _)) pe_int (pe_callB (call_min2 rfl) (by rfl) gm (by decide +kernel) (pa_cons pe_int (pa_cons (pe_callTy call_int1 (by rfl) B.int (by decide +kernel) (pa_cons (pe_op op_fdiv (pe_op op_sub (pe_callB (cr_min rfl) (by rfl) gm (by decide +kernel) (pa_cons (pe_op op_cat (pe_lst (pa_cons pe_int pa_nil)) (pv 13)) pa_nil)) pe_int) pe_int) pa_nil)) pa_nil)))) (pg_sub (pv 6) pe_str (set_dict hu1)))
        (pss_one (ps_asg (pe_ifExp (pt_cmpR op_gt (pe_dget (by exact hu1) (pv 6) pe_str (fun _ _ => rfl)) pe_int (nomark _)) pe_str pe_str) (pg_sub (pv 6) pe_str (set_dict hu1)))))) pss_nil)
      (pss_one (ps_ret (pv 6))))))))))), ?_⟩
    refine ⟨_, rfl, _, rfl, _, rfl, _, rfl, _, rfl, _, _, rfl, rfl, _, _, rfl, rfl, a, _, rfl, hP, by omega, by omega, fun r1 H1 r10 r11 P1 b1 => ⟨_, _, rfl, rfl, ?_⟩⟩
    obtain ⟨n1, rfl⟩ : ∃ n1 : Nat, r1 = (n1 : Int) := ⟨r1.toNat, by omega⟩
    have sd1 : Same (del H a) (del H1 a) := del_but b1
    refine ⟨a, least + n1, (show [V.ref a, V.int ((least : Int) + (n1 : Int))] = _ by rw [show (least : Int) + (n1 : Int) = ((least + n1 : Nat) : Int) by omega]), P1, by omega, fun H2 wo zs P2 b2 nwo1 hwo lz nd sub => ?_⟩
    have wz : WordsA zs := ⟨sub, nd, by omega, by omega⟩
    have nwoa : wo ≠ a := P1.ne nwo1
    have nwo : H wo = none := by
      have := sd1.free (del_none nwo1)
      rwa [del_ne nwoa] at this
    have sdA := sd1.trans (del_but b2)
    intro g ng
    have nga : g ≠ a := P2.ne ng
    have ngH : H g = none := del_free sdA nga ng
    have s3 : Same H2 (upd H2 g (.dK [])) := same_new ng
    have hg3 : upd H2 g (.dK []) g = some (.dK []) := upd_same
    generalize upd H2 g (.dK []) = H3 at s3 hg3
    refine ⟨_, rfl, _, rfl, _, rfl, a, top, rfl, P2.same s3, by omega, by omega, fun r2 H4 r20 r21 P4 b4 => ⟨_, _, rfl, rfl, ?_⟩⟩
    have sdB := (sdA.trans (del_mono s3)).trans (del_but b4)
    refine ⟨_, rfl, _, rfl, a, tl, ts.map V.str, rfl, P4, del_of (sdB _ _ (del_at ntl htl)), ntl, by rw [List.length_map]; exact t1, by rw [List.length_map]; omega, fun x H5 hx P5 b5 => ?_⟩
    obtain ⟨t, ht, rfl⟩ := List.mem_map.mp hx
    have sdC := sdB.trans (del_but b5)
    have hg5 := b5 _ _ nga (b4 _ _ nga hg3)
    refine ⟨hg5, plan4 wo (1 + r2) t, rfl, (by show 4 ≤ 15; decide), ?_⟩
    rw [pmerge4]
    have sd26 : Same (del H2 a) (del (upd H5 g (.dK (plan4 wo (1 + r2) t))) a) := del_upd ((del_mono s3).trans ((del_but b4).trans (del_but b5))) ng
    have P6 := P5.put (o := .dK (plan4 wo (1 + r2) t)) nga
    have hg6 : upd H5 g (.dK (plan4 wo (1 + r2) t)) g = some (.dK (plan4 wo (1 + r2) t)) := upd_same
    generalize upd H5 g _ = H6 at sd26 P6 hg6
    have sd6 := sdA.trans sd26
    have nwog : wo ≠ g := fun e => by
      rw [e, ng] at hwo
      cases hwo
    have w6 := del_at nwog (sd26 _ _ (del_at nwoa hwo))
    have tOk : turnB (.str t) = true := decide_eq_true (tt t ht)
    clear s3 hg3 sdB hg5 sdC b1 b2 b4 b5
    refine ⟨fun σ G => ∃ (l : Addr) (us : List Addr) (ls : List (List Str)) (ra : Int), σ = [some (.ref a), some (.int (least : Int)), some (.int (many : Int)), some (.int (top : Int)), some (.ref tl), some (.ref wo), some (.ref g), some (.int ra), none, none, none, none, none, none] ∧ 1 ≤ ra ∧ ra ≤ 4 ∧ Pool G a ∧ Same (del H a) (del G a) ∧ G g = some (.dK (plan5 wo (1 + r2) t l)) ∧ Straight zs ls ∧ del2 G a g wo = some (.lst (zs.map V.str)) ∧ del2 G a g l = some (.lst (us.map V.ref)) ∧ Rows (del2 G a g) us ls, ?_, ?_⟩
    · refine ⟨_, rfl, _, rfl, a, wo, zs, rfl, P6, nwoa, del2_of w6, wz.nd, wz.most, fun G1 l us ls st PG1 sdG1 nl hl rows => ?_⟩
      refine ⟨_, rfl, a, 4, rfl, PG1, by omega, by omega, fun rr G2 rr0 rr1 PG2 bG2 => ⟨_, _, rfl, rfl, (by show 2 ≤ sizeLine; decide), fun tp ntp => ?_⟩⟩
      have sX : Same G2 (upd G2 tp (.tup [.ref l, .int (1 + rr)])) := same_new ntp
      have hX : upd G2 tp (.tup [.ref l, .int (1 + rr)]) tp = some (.tup [.ref l, .int (1 + rr)]) := upd_same
      have sdY : Same (del H6 a) (del (upd G2 tp (.tup [.ref l, .int (1 + rr)])) a) := (sdG1.trans (del_but bG2)).trans (del_mono sX)
      have sdZ : Same (del G1 a) (del (upd G2 tp (.tup [.ref l, .int (1 + rr)])) a) := (del_but bG2).trans (del_mono sX)
      have PX := PG2.same sX
      have hgX := del_of (sdY _ _ (del_at nga hg6))
      refine ⟨tp, _, rfl, SqT.of hX, rfl, _, _, rfl, _, rfl, g, _, rfl, DPut.k (k := .inr "lists") hgX (by show 4 < sizeLine; decide), _, _, rfl, rfl, ?_⟩
      rw [pput5]
      generalize upd G2 tp _ = G3 at sdY sdZ PX hgX
      refine ⟨l, us, ls, 1 + rr, rfl, by omega, by omega, PX.put nga, del_upd (sd6.trans sdY) ngH, upd_same, st, ?_, ?_, ?_⟩
      · rw [del2_upd]
        exact del2_mono sdY _ _ w6
      · rw [del2_upd]
        exact del2_up (sdZ _ _ hl) hgX (fun e => nomatch e)
      · rw [del2_upd]
        exact Paired.mono (F := fun u (l : List Str) => del G1 a u = some (.lst (l.map V.str))) (F' := fun u (l : List Str) => del2 G3 a g u = some (.lst (l.map V.str))) (fun u l h => del2_up (sdZ _ _ h) hgX (fun e => nomatch e)) rows
    rintro σ G1 ⟨l, us, ls, ra, rfl, ra1, ra4, PG1, sdG1, hgG1, st, wG1, lG1, rowsG1⟩
    have wG := del2_of wG1
    have z8 := wz.most
    clear P6 hg6 sd26 sd6 w6
    refine ⟨fun σ G => ∃ (r : Addr) (ys : List V) (rs : List Pr) (v8 : Option V), σ = [some (.ref a), some (.int (least : Int)), some (.int (many : Int)), some (.int (top : Int)), some (.ref tl), some (.ref wo), some (.ref g), some (.int ra), v8, none, none, none, none, none] ∧ RoundA H G a g wo l r us ys (plan6 wo (1 + r2) t l r) zs ls rs ∧ rs.Sublist (pairsOf zs), ?_, ?_⟩
    · refine ⟨_, rfl, wo, zs, rfl, wG, z8, fun G2 pl ys s2 npl hpl tys => ⟨pl, rfl, ⟨_, SqL.of hpl⟩, fun D nD => ?_⟩⟩
      have PG2 := PG1.same s2
      have nDa := PG2.ne nD
      have hgG2 := s2 _ _ hgG1
      have nD1 : G1 D = none := s2.free nD
      have ly : ys.length ≤ 64 := by
        rw [tys.1]
        exact pairs_len (zs := zs) (ys := zs) (by omega) (by omega)
      refine nest_it (walk_list (K := K) (a := pl) (xs := ys)) (fun j Gj => Pool Gj a ∧ Same (del G2 a) (del Gj a) ∧ ∃ qs : List (V × Pr), qs.Sublist ((ys.zip (pairsOf zs)).take j) ∧ Gj D = some (.lst (qs.map (·.1)))) ⟨PG2.same (same_new nD), del_mono (same_new nD), [], List.nil_sublist _, upd_same⟩ (fun j Gj _ h => SqL.of (del_of (h.2.1 _ _ (del_at (PG1.ne npl) hpl)))) ?_ ?_
      · rintro j y G3 G4 hj ⟨PG3, sd3, qs, sq, hD⟩ ⟨rfl, hy⟩
        have lq : qs.length ≤ 64 := by
          have := sq.length_le
          rw [List.length_take, List.length_zip] at this
          omega
        refine ⟨rfl, _, rfl, _, rfl, _, _, rfl, rfl, a, 1 + ra, rfl, PG3, by omega, by omega, fun rr G5 rr0 rr1 PG5 b5 => ⟨_, _, rfl, rfl, _, rfl, ?_⟩⟩
        have hD5 := b5 _ _ nDa hD
        have sd5 := sd3.trans (del_but b5)
        obtain ⟨pr, hpr⟩ : ∃ pr, (pairsOf zs)[j]? = some pr := by
          refine ⟨_, List.getElem?_eq_getElem (l := pairsOf zs) (i := j) ?_⟩
          rw [← tys.1]
          exact hj
        have tk : (ys.zip (pairsOf zs)).take (j + 1) = (ys.zip (pairsOf zs)).take j ++ [(y, pr)] := by
          rw [List.take_add_one, (List.getElem?_zip_eq_some (z := (y, pr))).mpr ⟨hy, hpr⟩]
          rfl
        refine ite2 (fun c => ?_) (fun c => ?_)
        · refine ⟨_, rfl, qs.map (·.1), hD5, ?_, PG5.put nDa, ?_, qs ++ [(y, pr)], ?_, ?_⟩
          · rw [List.length_map]
            exact small1000 (by omega)
          · exact del_upd sd5 nD
          · rw [tk]
            exact sq.append (List.Sublist.refl _)
          · rw [upd_same, List.map_append]
            rfl
        · refine ⟨PG5, sd5, qs, ?_, hD5⟩
          rw [tk]
          exact sq.trans (List.sublist_append_left _ _)
      · rintro G3 ⟨PG3, sd3, qs, sq, hD⟩
        rw [show ys.length = (ys.zip (pairsOf zs)).length by rw [List.length_zip, tys.1, Nat.min_self], List.take_length] at sq
        have sd13 : Same (del G1 a) (del G3 a) := (del_mono s2).trans sd3
        have hgG3 := del_of (sd13 _ _ (del_at nga hgG1))
        refine ⟨_, rfl, g, _, rfl, DPut.k (k := .inr "reads") hgG3 (by show 5 < sizeLine; decide), ?_⟩
        rw [pput6]
        have nDg : D ≠ g := fun e => by
          rw [e, hgG2] at nD
          cases nD
        have fr1 : ∀ {b : Addr} {o : HO}, del2 G1 a g b = some o → del (del2 (upd G3 g (.dK (plan6 wo (1 + r2) t l D))) a g) D b = some o := fun {b o} e => by
          rw [del2_upd]
          refine del_mono (del2_mono sd13) _ _ ?_
          rw [del_free_eq (del2_none nD1)]
          exact e
        refine ⟨D, qs.map (·.1), qs.map (·.2), _, rfl, ⟨PG3.put nga, del_upd (sdG1.trans sd13) ngH, upd_same, nga, nDg.symm, nDa, del_free sdG1 nDa nD1, fr1 wG1, fr1 lG1, Paired.mono (fun u k e => fr1 e) rowsG1, by rw [upd_ne nDg]; exact hD, paired_tps (paired_map fun q hq => ?_)⟩, ?_⟩
        · obtain ⟨t', e2, h'⟩ := paired_zip (tps_paired tys) q (sq.subset hq)
          have n1 : t' ≠ a := PG2.other h' (fun xs e => nomatch e)
          have n2 : t' ≠ g := fun e => by
            rw [e, hgG2] at h'
            cases h'
          have n3 : t' ≠ D := fun e => by
            rw [e, nD] at h'
            cases h'
          refine ⟨t', e2, del2_at n1 n3 ?_⟩
          rw [upd_ne n2]
          exact del_of (sd3 _ _ (del_at n1 h'))
        · have := sq.map (fun q : V × Pr => q.2)
          rwa [List.map_snd_zip (by rw [tys.1]; exact Nat.le_refl _)] at this
    rintro σ G2 ⟨r, ys, rs, v8, rfl, ro, subs⟩
    have oz : ∀ z ∈ zs, PyData.strOk z = true := wz.ok
    have lmem : ∀ l ∈ ls, ∀ p ∈ l, p ∈ zs := st.parts.mem
    have okP : ∀ {rs : List Pr}, (∀ p ∈ rs, p ∈ pairsOf zs) → ∀ p ∈ rs, PyData.strOk p.1 = true ∧ PyData.strOk p.2 = true := fun h p hp => by
      have := pairsOf_mem (h p hp)
      exact ⟨oz _ this.1, oz _ this.2⟩
    clear PG1 sdG1 hgG1 wG1 lG1 rowsG1 wG
    refine ⟨fun σ G => ∃ (ys : List V) (rs : List Pr) (v8 v9 v10 v11 : Option V), σ = [some (.ref a), some (.int (least : Int)), some (.int (many : Int)), some (.int (top : Int)), some (.ref tl), some (.ref wo), some (.ref g), some (.int ra), v8, v9, v10, v11, none, none] ∧ RoundA H G a g wo l r us ys (plan6 wo (1 + r2) t l r) zs ls rs ∧ rs.Nodup ∧ (∀ p ∈ rs, p ∈ pairsOf zs) ∧ ∀ k ∈ ls, 1 < k.length → ∀ z ∈ k, ∃ p ∈ rs, p.2 = z, ?_, ?_⟩
    · refine ⟨_, rfl, g, _, rfl, dget_of ro.ob rfl, l, rfl, ⟨_, SqL.of ro.lists⟩, ?_⟩
      refine for_list (K := K) (a := l) (xs := us.map V.ref) (fun i σ G => ∃ (ys : List V) (rs : List Pr) (v8 v9 v10 v11 : Option V), σ = [some (.ref a), some (.int (least : Int)), some (.int (many : Int)), some (.int (top : Int)), some (.ref tl), some (.ref wo), some (.ref g), some (.int ra), v8, v9, v10, v11, none, none] ∧ RoundA H G a g wo l r us ys (plan6 wo (1 + r2) t l r) zs ls rs ∧ rs.Nodup ∧ (∀ p ∈ rs, p ∈ pairsOf zs) ∧ ∀ k ∈ ls.take i, 1 < k.length → ∀ z ∈ k, ∃ p ∈ rs, p.2 = z)
        ⟨ys, rs, _, _, _, _, rfl, ro, (pairs_nodup nd).sublist subs, fun p hp => subs.subset hp, fun k hk => by simp at hk⟩ (fun i σ G _ h => by
        obtain ⟨ys, rs, v8, v9, v10, v11, _, ro, _⟩ := h
        exact SqL.of ro.lists) ?_ ?_
      · rintro i x σ G hx ⟨ys, rs, v8, v9, v10, v11, rfl, ro, ndr, sub, done⟩
        rw [List.getElem?_map] at hx
        obtain ⟨u, hu, rfl⟩ := Option.map_eq_some_iff.mp hx
        have rl : us.length = ls.length := Paired.length ro.rowsA
        obtain ⟨row, hrow⟩ : ∃ row, ls[i]? = some row := ⟨_, List.getElem?_eq_getElem (by rw [← rl]; exact (List.getElem?_eq_some_iff.mp hu).1)⟩
        have hu2 := pr_get ro.rowsA hu hrow
        have rin := List.mem_of_getElem? hrow
        refine ⟨⟨_, rfl, u, _, rfl, .inl (SqL.of (del2_of (del_of hu2))), _, _, rfl, rfl, _, rfl, ?_⟩, ?_⟩
        · rw [List.length_map]
          refine ite2 (fun c => ⟨_, rfl, Same.refl _, fun u' row' e1 e2 => ?_⟩) (fun c => ⟨Nat.zero_le _, fun q0 nq0 => ⟨same_new nq0, fun u' row' e1 e2 => ?_⟩⟩)
          · have e3 : u = u' := V.ref.inj (Option.some.inj (Option.some.inj e1))
            subst e3
            rw [del2_of (del_of hu2)] at e2
            have e4 : row.map V.str = row'.map V.str := HO.lst.inj (Option.some.inj e2)
            have e5 : row.length = row'.length := by simpa using congrArg List.length e4
            have c2 := of_decide_eq_true c
            refine ⟨u, rfl, .inl rfl, ?_⟩
            rw [if_pos (by omega), ← e4]
            exact del2_of (del_of hu2)
          · have e3 : u = u' := V.ref.inj (Option.some.inj (Option.some.inj e1))
            subst e3
            rw [del2_of (del_of hu2)] at e2
            have e4 : row.map V.str = row'.map V.str := HO.lst.inj (Option.some.inj e2)
            have e5 : row.length = row'.length := by simpa using congrArg List.length e4
            have c2 : ¬ ((row.length : Int) > 1) := fun z => c (decide_eq_true z)
            refine ⟨q0, rfl, .inr nq0, ?_⟩
            rw [if_neg (by omega)]
            exact upd_same
        rintro v G1 ⟨s1, hp⟩
        obtain ⟨q0, rfl, qcs, hq0⟩ := hp u row rfl (del2_of (del_of hu2))
        have rsub := st.sub row rin
        have ro1 := ro.same s1
        have q2 : del2 G1 a r q0 = some (.lst ((if 1 < row.length then row else []).map V.str)) := by
          rcases qcs with rfl | nq
          · refine del2_at ?_ ?_ hq0
            · rintro rfl
              have := del_le _ _ hu2
              unfold del2 at this
              have := del_le _ _ this
              rw [del_same] at this
              cases this
            · rintro rfl
              rw [del_same] at hu2
              cases hu2
          · refine del2_at (ro.pool.ne nq) ?_ hq0
            rintro rfl
            rw [ro.rd] at nq
            cases nq
        have rowm : ∀ z ∈ (if 1 < row.length then row else []), 1 < row.length ∧ z ∈ row := fun z hz => by
          by_cases c : 1 < row.length
          · rw [if_pos c] at hz
            exact ⟨c, hz⟩
          · rw [if_neg c] at hz
            cases hz
        refine ⟨q0, rfl, ⟨_, SqL.of hq0⟩, ?_⟩
        refine for_list (K := K) (a := q0) (xs := (if 1 < row.length then row else []).map V.str) (fun j σ G => ∃ (ys : List V) (rs : List Pr) (v8 v10 v11 : Option V), σ = [some (.ref a), some (.int (least : Int)), some (.int (many : Int)), some (.int (top : Int)), some (.ref tl), some (.ref wo), some (.ref g), some (.int ra), v8, some (.ref u), v10, v11, none, none] ∧ RoundA H G a g wo l r us ys (plan6 wo (1 + r2) t l r) zs ls rs ∧ rs.Nodup ∧ (∀ p ∈ rs, p ∈ pairsOf zs) ∧ (∀ k ∈ ls.take i, 1 < k.length → ∀ z ∈ k, ∃ p ∈ rs, p.2 = z) ∧ del2 G a r q0 = some (.lst ((if 1 < row.length then row else []).map V.str)) ∧ ∀ z ∈ (if 1 < row.length then row else []).take j, ∃ p ∈ rs, p.2 = z)
          ⟨ys, rs, _, _, _, rfl, ro1, ndr, sub, done, q2, fun z hz => by simp at hz⟩ (fun j σ G _ h => by
          obtain ⟨ys, rs, v8, v10, v11, _, _, _, _, _, hq, _⟩ := h
          exact SqL.of (del2_of hq)) ?_ ?_
        · rintro j x σ G hx ⟨ys, rs, v8, v10, v11, rfl, ro, ndr, sub, done, hq, dj⟩
          rw [List.getElem?_map] at hx
          obtain ⟨z, hz, rfl⟩ := Option.map_eq_some_iff.mp hx
          have zin := rowm z (List.mem_of_getElem? hz)
          have zzs : z ∈ zs := rsub.subset zin.2
          have tk : ∀ x, x ∈ (if 1 < row.length then row else []).take (j + 1) → x ∈ (if 1 < row.length then row else []).take j ∨ x = z := fun x hx => by
            rw [List.take_add_one, hz] at hx
            rcases List.mem_append.mp hx with h | h
            · exact .inl h
            · exact .inr (by simpa using h)
          refine ⟨_, rfl, _, rfl, g, wo, r, z, _, zs, ys, rs, rfl, ro.ob, rfl, ro.words, rfl, ro.rd, ro.reads, z8, oz z zzs, oz, okP sub, fun G3 p3 s3 np3 hp3 => ?_⟩
          refine ⟨Nat.zero_le _, fun p4 np4 => ?_⟩
          have s4 : Same G3 (upd G3 p4 (.lst [])) := same_new np4
          have h4 : upd G3 p4 (.lst []) p4 = some (.lst []) := upd_same
          generalize upd G3 p4 (.lst []) = G5 at s4 h4
          refine ⟨_, .list [], .lst (SqL.of (s4 _ _ hp3)) (dp_strs _), .lst (SqL.of h4) .nil, shaped_strs (fun o ho => oz o (List.mem_filter.mp ho).1), (by decide +kernel), _, rfl, ?_⟩
          rw [eqv_nilC, List.length_map]
          have s35 := s3.trans s4
          have ro5 := ro.same s35
          have hq5 := del2_mono (g := r) (del_mono (a := a) s35) _ _ hq
          cases hl : decide ((zs.filter fun o => decide ((o, z) ∈ rs)).length = 0) with
          | false =>
            refine iteF ⟨ys, rs, _, _, _, rfl, ro5, ndr, sub, done, hq5, fun x hx => ?_⟩
            rcases tk x hx with h | rfl
            · exact dj x h
            · have ne : (zs.filter fun o => decide ((o, x) ∈ rs)) ≠ [] := fun e => by
                rw [e] at hl
                exact absurd hl (by decide)
              obtain ⟨o, ho⟩ := List.exists_mem_of_ne_nil _ ne
              exact ⟨_, of_decide_eq_true (List.mem_filter.mp ho).2, rfl⟩
          | true =>
            have nil : ∀ o ∈ zs, (o, z) ∉ rs := fun o ho c => by
              have := List.filter_eq_nil_iff.mp (List.length_eq_zero_iff.mp (of_decide_eq_true hl)) o ho
              exact this (decide_eq_true c)
            refine iteT ⟨_, rfl, g, _, rfl, dget_of ro5.ob rfl, .inl ⟨rfl, _, SqL.of ro5.rd⟩, _, rfl, _, rfl, wo, _, rfl, .inl (SqL.of ro5.words), fun J ji D nD => ?_⟩
            refine lc_fm ji (os := zs.map fun o => if decide (o ≠ z) = true then some (V.str o) else none) (by rw [List.length_map, List.length_map]) (by rw [List.length_map]; omega) nD (fun _ => rfl) (fun j y o G6 N M hy ho sG kN kM => ?_) (fun G6 sG hD => ?_)
            · rw [List.getElem?_map] at hy ho
              obtain ⟨o1, ho1, rfl⟩ := Option.map_eq_some_iff.mp hy
              rw [ho1] at ho
              have eo := Option.some.inj ho
              dsimp only at eo
              refine ⟨_, rfl, _, rfl, rfl, _, rfl, ?_⟩
              rw [dec_str]
              cases h1 : decide (o1 = z) with
              | true =>
                rw [if_neg (by rw [of_decide_eq_true h1]; simp)] at eo
                exact iteF (kM _ eo.symm (Same.refl _))
              | false =>
                rw [if_pos (decide_eq_true (of_decide_eq_false h1))] at eo
                exact iteT ⟨_, rfl, kN _ _ eo.symm (Same.refl _)⟩
            · rw [fm_if (fun o : Str => decide (o ≠ z)) V.str] at hD
              have ro6 := ro5.same sG
              have hq6 := del2_mono (g := r) (del_mono (a := a) sG) _ _ hq5
              have nDa := ro5.pool.ne nD
              refine ⟨a, D, _, rfl, ro6.pool, hD, nDa, by rw [List.length_map]; exact others_some nd rsub zin.1, ?_, fun x G7 hx P7 b7 => ?_⟩
              · have := List.length_filter_le (fun o : Str => decide (o ≠ z)) zs
                rw [List.length_map]
                omega
              obtain ⟨o, ho, rfl⟩ := List.mem_map.mp hx
              have ho1 := (List.mem_filter.mp ho).1
              have ho2 : o ≠ z := of_decide_eq_true (List.mem_filter.mp ho).2
              have ro7 := ro6.but P7 b7
              have hq7 := del2_mono (g := r) (del_but (a := a) b7) _ _ hq6
              refine ⟨_, rfl, (by show 2 ≤ sizeLine; decide), fun tp ntp => ?_⟩
              have s8 : Same G7 (upd G7 tp (.tup [.str o, .str z])) := same_new ntp
              have h8 : upd G7 tp (.tup [.str o, .str z]) tp = some (.tup [.str (o, z).1, .str (o, z).2]) := upd_same
              generalize upd G7 tp (.tup [.str o, .str z]) = G8 at s8 h8
              have ro8 := ro7.same s8
              have hq8 := del2_mono (g := r) (del_mono (a := a) s8) _ _ hq7
              have new : (o, z) ∉ rs := nil o ho1
              have pin : (o, z) ∈ pairsOf zs := pairsOf_in ho1 zzs ho2
              refine ⟨r, ys, _, rfl, rfl, ro8.rd, ?_, ys ++ [.ref tp], rs ++ [(o, z)], _, _, _, rfl, ro8.push h8, ?_, ?_, ?_, ?_, ?_⟩
              · have := readsA_len ndr sub z8
                rw [ro8.tps.1]
                exact small1000 (by omega)
              · exact List.nodup_append.mpr ⟨ndr, by simp, fun x hx y hy e => new (by rw [← List.mem_singleton.mp hy, ← e]; exact hx)⟩
              · intro p hp
                rcases List.mem_append.mp hp with h | h
                · exact sub p h
                · rw [List.mem_singleton.mp h]
                  exact pin
              · intro k hk big x hx
                obtain ⟨p, h1, h2⟩ := done k hk big x hx
                exact ⟨p, List.mem_append_left _ h1, h2⟩
              · rw [del2_upd]
                exact hq8
              · intro x hx
                rcases tk x hx with h | rfl
                · obtain ⟨p, h1, h2⟩ := dj x h
                  exact ⟨p, List.mem_append_left _ h1, h2⟩
                · exact ⟨_, List.mem_append_right _ (List.mem_singleton.mpr rfl), rfl⟩
        · rintro σ G ⟨ys, rs, v8, v10, v11, rfl, ro, ndr, sub, done, hq, dj⟩
          rw [List.length_map, List.take_length] at dj
          refine ⟨ys, rs, _, _, _, _, rfl, ro, ndr, sub, fun k hk big => ?_⟩
          rw [List.take_add_one, hrow] at hk
          rcases List.mem_append.mp hk with h | h
          · exact done k h big
          · have e : k = row := by simpa using h
            subst e
            rw [if_pos big] at dj
            exact dj
      · rintro σ G ⟨ys, rs, v8, v9, v10, v11, rfl, ro, ndr, sub, done⟩
        rw [List.length_map, Paired.length ro.rowsA, List.take_length] at done
        exact ⟨ys, rs, v8, v9, v10, v11, rfl, ro, ndr, sub, done⟩
    clear ro subs
    rintro σ G3 ⟨ys, rs, v8, v9, v10, v11, rfl, ro, ndr, sub, done⟩
    refine ⟨fun σ G => ∃ (r2' : Addr) (ys : List V) (v8 : Option V), σ = [some (.ref a), some (.int (least : Int)), some (.int (many : Int)), some (.int (top : Int)), some (.ref tl), some (.ref wo), some (.ref g), some (.int ra), v8, v9, v10, v11, none, none] ∧ Pool G a ∧ Same (del H a) (del G a) ∧ G g = some (.dK (plan6 wo (1 + r2) t l r2')) ∧ PartsAt (del2 G a g) wo l r2' us ys zs ls (pick zs rs), ?_, ?_⟩
    · refine ⟨_, rfl, wo, zs, rfl, ro.words, z8, fun H3 pl ys3 s3 npl hpl tys => ⟨pl, ys3, rfl, .inl (SqL.of hpl), fun J ji D nD => ?_⟩⟩
      have ly : ys3.length ≤ 64 := by
        rw [tys.1]
        exact pairs_len (zs := zs) (ys := zs) (by omega) (by omega)
      have ro3 := ro.same s3
      refine lc_fm ji (os := (ys3.zip (pairsOf zs)).map fun q => if decide (q.2 ∈ rs) = true then some q.1 else none) (by rw [List.length_map, List.length_zip, tys.1, Nat.min_self]) (by omega) nD (fun _ => rfl) (fun j y o G4 N M hy ho sG kN kM => ?_) (fun G4 sG hD => ?_)
      · rw [List.getElem?_map] at ho
        obtain ⟨⟨y2, pr⟩, hq, eo⟩ := Option.map_eq_some_iff.mp ho
        obtain ⟨hq1, hq2⟩ := List.getElem?_zip_eq_some.mp hq
        dsimp only at hq1 hq2 eo
        rw [hy] at hq1
        obtain rfl := Option.some.inj hq1
        obtain ⟨t', rfl, ht'⟩ := pr_get (tps_paired tys) hy hq2
        have ht3 := sG _ _ ht'
        have pm := pairsOf_mem (List.mem_of_getElem? hq2)
        have ro4 := ro3.same sG
        refine ⟨_, rfl, _, rfl, g, _, rfl, dget_of ro4.ob rfl, L2.pairD pr, rs.map L2.pairD, dp_pair ht3, .lst (SqL.of ro4.rd) ro4.reads.dp, shaped_pairD (oz _ pm.1) (oz _ pm.2), shaped_pairs (okP sub), _, rfl, ?_⟩
        rw [any_pairs]
        cases h1 : decide (pr ∈ rs) with
        | true =>
          rw [if_pos h1] at eo
          exact iteT ⟨_, rfl, kN _ _ eo.symm (Same.refl _)⟩
        | false =>
          rw [if_neg (by rw [h1]; decide)] at eo
          exact iteF (kM _ eo.symm (Same.refl _))
      · rw [fm_if (fun q : V × Pr => decide (q.2 ∈ rs)) (fun q => q.1)] at hD
        have kept := zip_filter (fun q : Pr => decide (q ∈ rs)) (tps_paired tys)
        have ro4 := ro3.same sG
        have nDa := ro3.pool.ne nD
        have nDg : D ≠ g := fun e => by
          rw [e, ro3.ob] at nD
          cases nD
        refine ⟨_, rfl, g, _, rfl, DPut.k (k := .inr "reads") ro4.ob (by show 6 < sizeLine; decide), ?_⟩
        rw [pput6r]
        refine ⟨D, ((ys3.zip (pairsOf zs)).filter fun q => decide (q.2 ∈ rs)).map (fun q => q.1), _, rfl, ro4.pool.put nga, del_upd ro4.keep ngH, upd_same, ?_⟩
        rw [del2_upd]
        refine ⟨del_le _ _ ro4.wA, del_le _ _ ro4.lA, ro4.rowsA.same del_le, del2_at nDa nDg hD, paired_tps (Paired.mono (fun y pr h => ?_) kept)⟩
        obtain ⟨t', e2, h'⟩ := h
        have h4 := sG _ _ h'
        refine ⟨t', e2, del2_at (ro4.pool.other h4 fun xs e => nomatch e) (fun e => ?_) h4⟩
        rw [e, ro4.ob] at h4
        cases h4
    clear ro
    rintro σ G4 ⟨r', ys', v8', rfl, P4, sd4, hg4, pt4⟩
    refine ⟨fun σ G => ∃ (gs : List Str) (gl : Addr), σ = [some (.ref a), some (.int (least : Int)), some (.int (many : Int)), some (.int (top : Int)), some (.ref tl), some (.ref wo), some (.ref g), some (.int ra), v8', v9, v10, v11, some (.ref gl), none] ∧ Same G4 G ∧ gl ≠ a ∧ G gl = some (.lst (gs.map V.str)) ∧ 1 ≤ gs.length ∧ gs.length ≤ 6 ∧ (∀ x ∈ gs, gatherB t (.str x) = true) ∧ (("trim" : Str) ∈ gs → t = "plain"), ?_, ?_⟩
    · refine ⟨(by show 6 ≤ sizeLine; decide), fun p np => ?_⟩
      have s5 : Same G4 (upd G4 p (.lst (gathers.map V.str))) := same_new np
      have h5 : upd G4 p (.lst (gathers.map V.str)) p = some (.lst (gathers.map V.str)) := upd_same
      have npa := P4.ne np
      have P5 := P4.same s5
      refine ⟨_, rfl, g, _, rfl, dget_of (s5 _ _ hg4) rfl, rfl, _, rfl, ?_⟩
      refine ite2 (fun c => ?_) (fun c => ?_)
      · have e : t = "plain" := V.str.inj (of_decide_eq_true c)
        refine ⟨_, rfl, p, _, rfl, SqL.of h5, fun gl ngl => ?_⟩
        refine ⟨gathers, gl, rfl, s5.trans (same_new ngl), P5.ne ngl, upd_same, by decide, by decide, fun x hx => e ▸ gather_plain hx, fun _ => e⟩
      · refine ⟨_, rfl, p, _, rfl, SqL.of h5, fun gl ngl => ?_⟩
        refine ⟨gathersT, gl, rfl, s5.trans (same_new ngl), P5.ne ngl, upd_same, by decide, by decide, fun x hx => gather_turned hx, fun hx => absurd hx (by decide)⟩
    rintro σ G5 ⟨gs, gl, rfl, s45, ngla, hgl, g1, g6, gOk, gTr⟩
    have P5 := P4.same s45
    refine ⟨_, rfl, _, rfl, a, gl, gs.map V.str, rfl, P5, hgl, ngla, by rw [List.length_map]; exact g1, by rw [List.length_map]; omega, fun x H7 hx P7 b7 => ?_⟩
    obtain ⟨ga, hga, rfl⟩ := List.mem_map.mp hx
    have gOk2 := gOk ga hga
    have pt5 := pt4.same (del2_mono (g := g) (del_mono (a := a) s45))
    have pt7 := pt5.same (del2_mono (g := g) (del_but (a := a) b7))
    refine ⟨_, rfl, _, rfl, wo, _, rfl, .inl (SqL.of (del2_of pt7.words)), _, _, rfl, rfl, a, ((zs.map V.str).length : Int) + 1, rfl, P7, by omega, ?_, fun pz H8 p0 p1 P8 b8 => ?_⟩
    · rw [List.length_map]
      omega
    rw [List.length_map] at p1
    have sd8 : Same (del G4 a) (del H8 a) := (del_mono s45).trans ((del_but b7).trans (del_but b8))
    have hg8 := b8 _ _ nga (b7 _ _ nga (s45 _ _ hg4))
    refine ⟨(by show 2 ≤ sizeLine; decide), fun tp ntp => ?_⟩
    have s9 : Same H8 (upd H8 tp (.tup [.str ga, .int pz])) := same_new ntp
    have h9 : upd H8 tp (.tup [.str ga, .int pz]) tp = some (.tup [.str ga, .int pz]) := upd_same
    generalize upd H8 tp (.tup [.str ga, .int pz]) = H9 at s9 h9
    have hg9 := s9 _ _ hg8
    refine ⟨tp, _, rfl, SqT.of h9, rfl, _, _, rfl, _, rfl, g, _, rfl, DPut.k (k := .inr "gather") hg9 (by show 6 < sizeLine; decide), _, _, rfl, _, rfl, g, _, rfl, DPut.k (k := .inr "prizes") upd_same (by show 7 < sizeLine; decide), rfl, ?_⟩
    rw [pput8]
    have P10 := ((P8.same s9).put (o := .dK (putK (plan6 wo (1 + r2) t l r') (.inr "gather") (.str ga))) nga).put (o := .dK (planT wo (1 + r2) t 0 l r' ga pz)) nga
    have hg10 : upd (upd H9 g (.dK (putK (plan6 wo (1 + r2) t l r') (.inr "gather") (.str ga)))) g (.dK (planT wo (1 + r2) t 0 l r' ga pz)) g = some (.dK (planT wo (1 + r2) t 0 l r' ga pz)) := upd_same
    have sd49 : Same (del G4 a) (del H9 a) := sd8.trans (del_mono s9)
    have sd10 : Same (del H a) (del (upd (upd H9 g (.dK (putK (plan6 wo (1 + r2) t l r') (.inr "gather") (.str ga)))) g (.dK (planT wo (1 + r2) t 0 l r' ga pz))) a) := del_upd (del_upd (sd4.trans sd49) ngH) ngH
    have pt10 : PartsAt (del2 (upd (upd H9 g (.dK (putK (plan6 wo (1 + r2) t l r') (.inr "gather") (.str ga)))) g (.dK (planT wo (1 + r2) t 0 l r' ga pz))) a g) wo l r' us ys' zs ls (pick zs rs) := by
      rw [del2_upd, del2_upd]
      exact pt4.same (del2_mono sd49)
    generalize upd (upd H9 g _) g _ = H10 at P10 hg10 sd10 pt10
    have need1 : ∀ k ∈ ls, 1 < k.length → ∀ z ∈ k, 0 < cntA zs (pick zs rs) z := fun k hk big z hz => cnt_pos sub (done k hk big z hz)
    have subR : (pick zs rs).Sublist (pairsOf zs) := List.filter_sublist
    have okR : ∀ p ∈ pick zs rs, PyData.strOk p.1 = true ∧ PyData.strOk p.2 = true := okP fun p hp => subR.subset hp
    have lsl : ls.length ≤ 100 := by
      have := st.heads.length_le
      rw [List.length_map] at this
      omega
    have pzOk : markB 0 8 (.int pz) = true := by
      show (decide (0 ≤ pz) && decide (pz ≤ 8)) = true
      rw [decide_eq_true p0, decide_eq_true (show pz ≤ 8 by omega)]
      rfl
    refine ⟨fun σ G => ∃ (R : RuleD) (v11 v13 : Option V), σ = [some (.ref a), some (.int (least : Int)), some (.int (many : Int)), some (.int (top : Int)), some (.ref tl), some (.ref wo), some (.ref g), some (.int ra), v8', v9, v10, v11, some (.ref gl), v13] ∧ R.Ok ∧ R.zs = zs ∧ R.turn = t ∧ R.m = 1 + r2 ∧ Pool G a ∧ Same (del H a) (del G a) ∧ PlanOf (del G a) g R, ?_, ?_⟩
    · refine ⟨_, rfl, g, _, rfl, dget_of hg10 rfl, rfl, _, rfl, ?_⟩
      refine ite2 (fun c => ?_) (fun c => ?_)
      · have e : ga = "trim" := V.str.inj (of_decide_eq_true c)
        have tp : t = "plain" := gTr (e ▸ hga)
        subst e
        refine ⟨_, rfl, wo, _, rfl, .inl (SqL.of (del2_of pt10.words)), fun J ji D nD => ?_⟩
        refine lc_fm ji (os := zs.map fun z => if decide (1 < (RuleD.listOf { zs := zs, m := 1 + r2, turn := t, gather := "trim", trim := 0, prizes := pz, reads := pick zs rs, lists := ls } z).length) = true then some (V.int (cntA zs (pick zs rs) z : Nat)) else none) (by rw [List.length_map, List.length_map]) (by rw [List.length_map]; omega) nD (fun _ => rfl) (fun j y o G4 N M hy ho sG kN kM => ?_) (fun G4 sG hD => ?_)
        · rw [List.getElem?_map] at hy ho
          obtain ⟨z, hz, rfl⟩ := Option.map_eq_some_iff.mp hy
          rw [hz] at ho
          have eo := Option.some.inj ho
          dsimp only at eo
          have zin := List.mem_of_getElem? hz
          obtain ⟨row, ef, rin, zr⟩ := parts_one st.parts nd zin
          have el := listOf_one (R := { zs := zs, m := 1 + r2, turn := t, gather := "trim", trim := 0, prizes := pz, reads := pick zs rs, lists := ls }) ef
          rw [el] at eo
          have pt11 := pt10.same (del2_mono (g := g) (del_mono (a := a) sG))
          refine ⟨_, rfl, _, rfl, g, l, z, _, us, ls, row, rfl, sG _ _ hg10, rfl, del2_of pt11.lsa, Paired.mono (fun u (k : List Str) e => del2_of e) pt11.rows, lsl, ef, fun G5 u s5 hu => ⟨u, _, rfl, .inl (SqL.of hu), _, _, rfl, rfl, _, rfl, ?_⟩⟩
          rw [List.length_map]
          refine ite2 (fun c => ?_) (fun c => ?_)
          · have c2 := of_decide_eq_true c
            rw [if_pos (decide_eq_true (by omega))] at eo
            have pt12 := pt11.same (del2_mono (g := g) (del_mono (a := a) s5))
            refine ⟨_, rfl, _, rfl, g, wo, r', z, _, zs, ys', pick zs rs, rfl, s5 _ _ (sG _ _ hg10), rfl, del2_of pt12.words, rfl, del2_of pt12.rd, pt12.tps.same (fun b o e => del2_of e), z8, oz z zin, oz, okR, fun G6 p s6 np hp => ⟨p, _, rfl, .inl (SqL.of hp), ?_⟩⟩
            rw [List.length_map]
            exact kN _ _ eo.symm (s5.trans s6)
          · rw [if_neg (fun z => c (decide_eq_true (by have := of_decide_eq_true z; omega)))] at eo
            exact kM _ eo.symm s5
        rw [fm_if (fun z => decide (1 < (RuleD.listOf { zs := zs, m := 1 + r2, turn := t, gather := "trim", trim := 0, prizes := pz, reads := pick zs rs, lists := ls } z).length)) (fun z => V.int (cntA zs (pick zs rs) z : Nat))] at hD
        obtain ⟨cs, ecs⟩ : ∃ cs : List Int, cs = (zs.filter fun z => decide (1 < (RuleD.listOf { zs := zs, m := 1 + r2, turn := t, gather := "trim", trim := 0, prizes := pz, reads := pick zs rs, lists := ls } z).length)).map fun z => (cntA zs (pick zs rs) z : Int) := ⟨_, rfl⟩
        have hD2 : G4 D = some (.lst (cs.map V.int)) := by
          rw [hD, ecs, List.map_map]
          rfl
        have inC : ∀ k ∈ ls, 1 < k.length → ∀ z ∈ k, (cntA zs (pick zs rs) z : Int) ∈ cs := fun k hk big z hz => by
          rw [ecs]
          have zin := lmem k hk z hz
          obtain ⟨row, ef, rin, zr⟩ := parts_one st.parts nd zin
          have e1 : k = row := by
            have : k ∈ ls.filter fun l => decide (z ∈ l) := List.mem_filter.mpr ⟨hk, decide_eq_true hz⟩
            rw [ef] at this
            exact List.mem_singleton.mp this
          refine List.mem_map.mpr ⟨z, List.mem_filter.mpr ⟨zin, decide_eq_true ?_⟩, rfl⟩
          rw [listOf_one (R := { zs := zs, m := 1 + r2, turn := t, gather := "trim", trim := 0, prizes := pz, reads := pick zs rs, lists := ls }) ef, ← e1]
          exact big
        have posC : ∀ c ∈ cs, 1 ≤ c := fun c hc => by
          rw [ecs] at hc
          obtain ⟨z, hz, rfl⟩ := List.mem_map.mp hc
          obtain ⟨zin, big⟩ := List.mem_filter.mp hz
          obtain ⟨row, ef, rin, zr⟩ := parts_one st.parts nd zin
          rw [listOf_one (R := { zs := zs, m := 1 + r2, turn := t, gather := "trim", trim := 0, prizes := pz, reads := pick zs rs, lists := ls }) ef] at big
          have := need1 row rin (of_decide_eq_true big) z zr
          omega
        have lcs : cs.length ≤ 8 := by
          rw [ecs, List.length_map]
          have := List.length_filter_le (fun z => decide (1 < (RuleD.listOf { zs := zs, m := 1 + r2, turn := t, gather := "trim", trim := 0, prizes := pz, reads := pick zs rs, lists := ls } z).length)) zs
          omega
        clear hD ecs
        have P4 := P10.same sG
        have sd4 := sd10.trans (del_mono sG)
        have hg4 := sG _ _ hg10
        have pt4 := pt10.same (del2_mono (g := g) (del_mono (a := a) sG))
        refine ⟨fun σ G => ∃ tr : Int, σ = [some (.ref a), some (.int (least : Int)), some (.int (many : Int)), some (.int (top : Int)), some (.ref tl), some (.ref wo), some (.ref g), some (.int ra), v8', v9, v10, v11, some (.ref gl), some (.ref D)] ∧ Pool G a ∧ Same (del H a) (del G a) ∧ G g = some (.dK (planT wo (1 + r2) t tr l r' "trim" pz)) ∧ PartsAt (del2 G a g) wo l r' us ys' zs ls (pick zs rs) ∧ 0 ≤ tr ∧ tr ≤ 3 ∧ (∀ k ∈ ls, 1 < k.length → ∀ z ∈ k, 2 * tr < (cntA zs (pick zs rs) z : Int)), ?_, ?_⟩
        · refine ⟨_, rfl, Nat.zero_le _, fun p np => ?_⟩
          have s5 : Same G4 (upd G4 p (.lst [])) := same_new np
          have h5 : upd G4 p (.lst []) p = some (.lst []) := upd_same
          generalize upd G4 p (.lst []) = G5 at s5 h5
          have hD5 := s5 _ _ hD2
          refine ⟨.list (cs.map PyData.int), .list [], .lst (SqL.of hD5) (dp_intsA cs), .lst (SqL.of h5) .nil, shaped_intsA cs, (by decide +kernel), _, rfl, ?_⟩
          rw [eqv_nilC, List.length_map]
          have hg5 := s5 _ _ hg4
          cases hl : decide (cs.length = 0) with
          | true =>
            have e0 : cs = [] := List.length_eq_zero_iff.mp (of_decide_eq_true hl)
            refine iteT ⟨_, rfl, g, _, rfl, DPut.k (k := .inr "trim") hg5 (by show 8 < sizeLine; decide), ?_⟩
            rw [pputT]
            refine ⟨1, rfl, (P4.same s5).put nga, del_upd (sd4.trans (del_mono s5)) ngH, upd_same, ?_, by omega, by omega, fun k hk big z hz => ?_⟩
            · rw [del2_upd]
              exact pt4.same (del2_mono (del_mono s5))
            · have := inC k hk big z hz
              rw [e0] at this
              cases this
          | false =>
            refine iteF ⟨(by show 1 ≤ sizeLine; decide), fun p9 np9 => ?_⟩
            have s6 : Same G5 (upd G5 p9 (.lst [.int 9])) := same_new np9
            have h6 : upd G5 p9 (.lst [.int 9]) p9 = some (.lst [.int 9]) := upd_same
            generalize upd G5 p9 (.lst [.int 9]) = G6 at s6 h6
            refine ⟨_, rfl, p9, D, [.int 9], cs.map V.int, rfl, rfl, h6, s6 _ _ hD5, ?_, fun pc npc => ?_⟩
            · rw [List.length_map]
              exact Nat.le_of_lt (small1000 (show 1 + cs.length ≤ 1000 by omega))
            have s7 : Same G6 (upd G6 pc (.lst ([.int 9] ++ cs.map V.int))) := same_new npc
            have h7 : upd G6 pc (.lst ([.int 9] ++ cs.map V.int)) pc = some (.lst (((9 : Int) :: cs).map V.int)) := upd_same
            generalize upd G6 pc (.lst ([.int 9] ++ cs.map V.int)) = G7 at s7 h7
            have s57 := (s5.trans s6).trans s7
            refine ⟨pc, 9 :: cs, rfl, SqL.of h7, Nat.succ_pos _, fun m hm mle => ?_⟩
            refine ⟨_, _, rfl, rfl, _, _, rfl, rfl, ⟨by decide, by decide⟩, .inl ⟨_, rfl, _, _, rfl, _, rfl, g, _, rfl, DPut.k (k := .inr "trim") (s57 _ _ hg4) (by show 8 < sizeLine; decide), ?_⟩⟩
            rw [pputT]
            have m1 : 1 ≤ m := by
              rcases List.mem_cons.mp hm with rfl | h
              · omega
              · exact posC m h
            refine ⟨_, rfl, (P4.same s57).put nga, del_upd (sd4.trans (del_mono s57)) ngH, upd_same, ?_, ?_, ?_, fun k hk big z hz => ?_⟩
            · rw [del2_upd]
              exact pt4.same (del2_mono (del_mono s57))
            · split <;> omega
            · split <;> omega
            · have := mle _ (List.mem_cons_of_mem _ (inC k hk big z hz))
              split <;> omega
        rintro σ G5 ⟨tr, rfl, P5, sd5, hg5, pt5, tr0, tr3, need2⟩
        refine ⟨_, rfl, g, _, rfl, dget_of hg5 rfl, _, _, rfl, rfl, _, rfl, ?_⟩
        refine ite2 (fun c => ?_) (fun c => ?_)
        · have c2 : 0 < tr := of_decide_eq_true c
          refine ⟨_, rfl, g, _, rfl, DPut.k (k := .inr "gather") hg5 (by show 8 < sizeLine; decide), ?_⟩
          rw [pputG]
          have ok : RuleD.Ok { zs := zs, m := 1 + r2, turn := t, gather := "trim", trim := tr, prizes := pz, reads := pick zs rs, lists := ls } := ⟨wz.folk, tOk, gOk2, (by
            show markB 1 3 (.int tr) = true
            show (decide (1 ≤ tr) && decide (tr ≤ 3)) = true
            rw [decide_eq_true (show 1 ≤ tr by omega), decide_eq_true tr3]
            rfl), pzOk, subR, st, fullA lmem nd need2⟩
          exact ⟨_, _, _, rfl, ok, rfl, rfl, rfl, P5.put nga, del_upd sd5 ngH, ⟨_, _, _, _, _, PartsAt.plan (R := { zs := zs, m := 1 + r2, turn := t, gather := "trim", trim := tr, prizes := pz, reads := pick zs rs, lists := ls }) (by
            rw [del2_upd]
            exact pt5) nga upd_same⟩⟩
        · have c2 : tr = 0 := by
            have : ¬ (0 < tr) := fun z => c (decide_eq_true z)
            omega
          subst c2
          refine ⟨_, rfl, g, _, rfl, DPut.k (k := .inr "gather") hg5 (by show 8 < sizeLine; decide), ?_⟩
          rw [pputG]
          have ok : RuleD.Ok { zs := zs, m := 1 + r2, turn := t, gather := "median", trim := 0, prizes := pz, reads := pick zs rs, lists := ls } := ⟨wz.folk, tOk, (by
            show gatherB t (.str "median") = true
            rw [tp]
            exact gather_plain (by decide)), rfl, pzOk, subR, st, fullA lmem nd need2⟩
          exact ⟨_, _, _, rfl, ok, rfl, rfl, rfl, P5.put nga, del_upd sd5 ngH, ⟨_, _, _, _, _, PartsAt.plan (R := { zs := zs, m := 1 + r2, turn := t, gather := "median", trim := 0, prizes := pz, reads := pick zs rs, lists := ls }) (by
            rw [del2_upd]
            exact pt5) nga upd_same⟩⟩
      · have e : ga ≠ "trim" := fun e => c (decide_eq_true (by rw [e]))
        have ok : RuleD.Ok { zs := zs, m := 1 + r2, turn := t, gather := ga, trim := 0, prizes := pz, reads := pick zs rs, lists := ls } := ⟨wz.folk, tOk, gOk2, (by
          show trimB ga (.int 0) = true
          unfold trimB
          rw [if_neg e]
          rfl), pzOk, subR, st, fullA lmem nd (fun k hk big z hz => by
            have := need1 k hk big z hz
            have h2 : (2 : Int) * 0 < (cntA zs (pick zs rs) z : Int) := by omega
            exact h2)⟩
        exact ⟨_, _, _, rfl, ok, rfl, rfl, rfl, P10, sd10, ⟨_, _, _, _, _, PartsAt.plan (R := { zs := zs, m := 1 + r2, turn := t, gather := ga, trim := 0, prizes := pz, reads := pick zs rs, lists := ls }) pt10 nga hg10⟩⟩
    rintro σ G6 ⟨R, v11', v13', rfl, ok, ez, et, em, PG6, sdG6, gm⟩
    refine ⟨_, rfl, q G6 g R ok (ez ▸ wz) (by rw [ez]; omega) (by rw [ez]; omega) (et ▸ ht) (by omega) (by omega) PG6 sdG6 ngH nga gm⟩
end
end K09

set_option Elab.async false
set_option linter.all false
set_option maxRecDepth 100000
set_option maxHeartbeats 4000000
namespace K09
open PySem PySem.Spec PyProof.Rows L2
section
variable {P : Program} {w : World} {K : PySem.W.Frag} {mg : Str → Option Value} {base : Heap} {C CR CB : Addr}
abbrev maN : List Str := ["_law_plan_here", "_law_one"]
theorem st_retA {t : TE} {D : Ends} {σ : L2.St} {H : Hp} (h : t σ H D.rt) : tRet t D σ H := h
theorem st_mkK {C : Addr} {n m : Nat} {sp : Sp} {gV : List V → List V → List V} {E : XK} {t tk : TA} {σ : L2.St} {H : Hp} {Q : VK} (h : t σ H fun vs H1 => tk σ H1 fun zs H2 => vs.length = n ∧ zs.length = m ∧ ∀ x dx, H2 x = none → H2 dx = none → dx ≠ x →
  sp (gV (.ref x :: vs) zs) (upd (upd H2 dx (.own x)) x (.ins C dx [])) (fun v H3 => v = .non ∧ Q (.ref x) H3) E) : tMakeK C n m sp gV E t tk σ H Q := h
theorem rows_of {H : Hp} {D : Addr} : ∀ {ys : List V} {ol : List (List Str)}, Paired (fun y a => y ≠ V.ref D ∧ ∃ u, y = V.ref u ∧ H u = some (.lst (a.map V.str))) ys ol → ∃ us : List Addr, ys = us.map V.ref ∧ Rows H us ol := fun h => by
  induction h with
  | nil => exact ⟨[], rfl, .nil⟩
  | cons h0 t ih =>
    obtain ⟨us, rfl, r⟩ := ih
    obtain ⟨_, u, rfl, hu⟩ := h0
    exact ⟨u :: us, rfl, .cons hu r⟩
theorem ok_madeA {f fC fI : Addr} {fd dC dI : FuncData} {gR0 : List Value → List Value → List Value} (F : Fun K "_law_made" "_law_made" sMade f fd)
    (GC : FnOk P w K mg base (L2.CX P w) 3 fC dC ["self", "people", "most"] (spCrowdNew K C CB)) (M : Mk K C fC) (gC : mg "Crowd" = some (.ref C)) (bC : Binds K dC ["self", "people", "most"] [])
    {CB2 : Addr} (MR : Mk K CR fI) (GI : FnOk P w K mg base (L2.CX P w) 4 fI dI ruPs (spRuleInit K C CR CB2)) (gR : mg "Rule" = some (.ref CR)) (bR : KBn K dI ruPs 2 ruKs gR0 (fun vs zs => vs ++ zs)) (T : Tx mg) : FnOk P w K mg base CX0 6 f fd ["_law_plan_here"] (spMadeA C CR) := by
  refine F.ok scMade (fun vs H Q E h => ?_) (fun cdv A outer s H vs Q E hr h => ?_)
  · obtain ⟨g, R, rfl, _⟩ := h
    rfl
  · obtain ⟨g, R, rfl, gmO, ok, wz, m1, m10, q⟩ := h
    obtain ⟨wo, l, r, us, ys, gm⟩ := id gmO
    have hu1 : (A.deeper (envOfC "_law_made" (defScope sMade) s.heap.objs.size f cdv)).units + 1 < cLine := by
      have := hr.units
      omega
    refine ⟨_, pss_one (ps_ret (pe_makeK (n := 1) (ks := ruKs) (E := fun _ _ _ => False) MR GI hr (by rfl) gR bR (passes_call LamX.takes0 fun _ _ _ _ z => z) (pa_cons (pe_make M GC (hr.mono (by decide)) (by rfl) gC bC .nil (E := fun _ _ _ => False) (passes_call LamX.takes0 fun _ _ _ _ z => z) (pa_cons (pe_dget (by exact hu1) (pv 0) pe_str (fun _ _ => rfl)) (pa_cons (pe_dget (by exact hu1) (pv 0) pe_str (fun _ _ => rfl)) pa_nil))) pa_nil)
      (pk_cons (pe_dget (by exact hu1) (pv 0) pe_str (fun _ _ => rfl)) (pk_cons (pe_callTy (r := rListOf K) call_listS (by rfl) T.list (by decide +kernel) (pa_cons (pe_dget (by exact hu1) (pv 0) pe_str (fun _ _ => rfl)) pa_nil)) (pk_cons (pe_dget (by exact hu1) (pv 0) pe_str (fun _ _ => rfl)) (pk_cons (pe_dget (by exact hu1) (pv 0) pe_str (fun _ _ => rfl)) (pk_cons (by
        refine' pe_lc (own := [("_law_one", 1)]) (g := gName 1) (by rfl) scMade.nd ?h1 (blkOk_by (own := [("_law_one", 1)]) (N := maN) (sc := defScope sMade) (by decide +kernel)) (fun _ _ _ _ _ => pg_name (i := 1) scMade.nd rfl (Or.inl rfl)) (fun _ _ _ _ _ => pts_nil) ?h2
        (case h1 => exact pi_seq (pe_dget (by exact hu1) (pv 0) pe_str (fun _ _ => rfl)))
        (case h2 => intro _ _ _ _ _; exact pe_callTy (r := rListOf K) call_listS (by rfl) T.list (by decide +kernel) (pa_cons (pv 1) pa_nil))) (pk_cons (pe_dget (by exact hu1) (pv 0) pe_str (fun _ _ => rfl)) pk_nil)))))))), ?_⟩
    have mB : markB 1 10 (.int R.m) = true := by
      show (decide (1 ≤ R.m) && decide (R.m ≤ 10)) = true
      rw [decide_eq_true m1, decide_eq_true m10]
      rfl
    obtain ⟨f1, f2, f3, f4⟩ := ok.few
    refine st_retA (st_mkK (st_cons (rd_made (xs := R.zs.map V.str) mB (fun Q2 k2 => ⟨_, rfl, g, _, rfl, gm.gWords, _, rfl, g, _, rfl, gm.gMost, k2 _ _ (Same.refl _) (.lst' gm.words wz.items (by rw [List.length_map]; have := wz.most; omega) wz.people)⟩) fun H0 c dx p s1 nc np h1 h2 => ?_)))
    have hc : CrowdOf H0 C c R.zs R.m := ⟨dx, p, h1, h2⟩
    have gm1 := gm.same s1
    refine ⟨_, rfl, g, _, rfl, gm1.gTurn, _, rfl, g, _, rfl, gm1.gReads, r, _, rfl, .inl (SqL.of gm1.rd), fun r2 nr2 => ?_⟩
    have s2 : Same H0 (upd H0 r2 (.lst ys)) := same_new nr2
    have hr2 : upd H0 r2 (.lst ys) r2 = some (.lst ys) := upd_same
    generalize upd H0 r2 (.lst ys) = H2 at s2 hr2
    have gm2 := gm1.same s2
    refine ⟨_, rfl, g, _, rfl, gm2.gGather, _, rfl, g, _, rfl, gm2.gTrim, _, rfl, g, _, rfl, gm2.gLists, l, us.map V.ref, rfl, .inl (SqL.of gm2.ls), fun J ji D nD => ?_⟩
    have lus := gm2.rows.length
    refine lc_new ji (F := fun H y l => ∃ u, y = V.ref u ∧ H u = some (.lst (l.map V.str))) (ds := R.lists.map some) (by rw [List.length_map, List.length_map, lus]) (by rw [List.length_map]; omega) nD
      (fun acc G G2 y l hD ny b fy => ?_) (fun _ => rfl) (fun i y o G N M hy ho s3 nDG kN kM => ?_) (fun G zs2 s3 hD hys => ?_)
    · obtain ⟨u, rfl, hu⟩ := fy
      exact ⟨u, rfl, b _ _ (fun e => ny (by rw [e])) hu⟩
    · rw [List.getElem?_map] at hy ho
      obtain ⟨u, hu, rfl⟩ := Option.map_eq_some_iff.mp hy
      obtain ⟨l0, hl0, rfl⟩ := Option.map_eq_some_iff.mp ho
      have hul := s3 _ _ (pr_get gm2.rows hu hl0)
      refine rd_yes ⟨_, rfl, u, _, rfl, .inl (SqL.of hul), fun p np => kN _ l0 _ rfl (same_new np) (fun e => ?_) ⟨p, rfl, upd_same⟩⟩
      rw [V.ref.inj e] at np
      exact nDG np
    have e0 : (R.lists.map some).filterMap id = R.lists := by
      have := fm_some (fun l : List Str => l) R.lists
      rwa [List.map_id'] at this
    rw [e0] at hys
    obtain ⟨us2, rfl, hus2⟩ := rows_of hys
    have gm3 := gm2.same s3
    have s13 := (s1.trans s2).trans s3
    have tps3 := (gm.same s13).tps
    refine ⟨_, rfl, g, _, rfl, gm3.gPrizes, ?_⟩
    refine ⟨rfl, rfl, fun y dy ny ndy ney => ?_⟩
    have ro := reads_given (K := K) ok.folk.nd f1 (s3 _ _ hr2) tps3 ok.reads
    have lo : ListsOpt K G R.zs (.ref D) true R.lists := by
      have := ListsOpt.good (K := K) (LL.of_rows hD hus2) ok.lists.parts (by omega)
      rwa [inOrder_id ok.folk.nd ok.lists] at this
    refine ⟨G, y, dy, c, R.zs, R.m, .str R.turn, .ref r2, .str R.gather, .int R.trim, .ref D, .int R.prizes, true, true, R.reads, R.lists, "str", "str", "int", "int", rfl, fun b o e => ?_, ny, upd_same, (hc.same s2).same s3, ok.folk, ⟨.base (.str _), by decide⟩, ro, ⟨.base (.str _), by decide⟩, ⟨.base (.int _), by decide⟩, lo, ⟨.base (.int _), by decide⟩, fun z wz2 H' d hr2 => ?_, fun t g2 mi p e1 e2 e3 e4 wz2 H' r' l' d' ys' us' s' fr fl fd' a' => ?_⟩
    · rw [upd_ne (ne_of_none e ny), upd_ne (ne_of_none e ndy)]
      exact e
    · have w2 := wz2 R.turn R.gather R.trim rfl rfl rfl
      rw [ok.turn, ok.gather, ok.trim, ok.prizes, ok.full] at w2
      cases w2
    · cases e1
      cases e2
      cases e3
      cases e4
      exact ⟨rfl, q H' y (s13.trans s') (s13.free ny) ⟨c, r', l', d', ys', us', a'⟩⟩
end
end K09

set_option Elab.async false
set_option linter.all false
set_option maxRecDepth 100000
set_option maxHeartbeats 4000000
namespace K09
open PySem PySem.Spec PyProof.Rows L2
section
variable {P : Program} {w : World} {K : PySem.W.Frag} {mg : Str → Option Value} {base : Heap}
theorem ok_firstWrong {f fR : Addr} {fd dR : FuncData} (F : Fun K "_law_first_wrong" "_law_first_wrong" sFirstWrong f fd)
    (GR : FnOk P w K mg base CX0 1 fR dR ["_law_plan_here", "_law_person"] spReadersA) (kR : PySem.W.keepIn K (.ref fR) = true) (bR : Binds K dR ["_law_plan_here", "_law_person"] []) (gR : mg "_law_readers" = some (.ref fR)) (B : Bt mg) :
    FnOk P w K mg base CX0 2 f fd ["_law_plan_here"] spFirstWrong := by
  refine F.ok scFirstWrong (fun vs H Q E h => ?_) (fun cdv A outer s H vs Q E hr h => ?_)
  · obtain ⟨g, R, rfl, _⟩ := h
    rfl
  · obtain ⟨g, R, rfl, gmO, lo, q⟩ := h
    obtain ⟨wo, l, r, us, ys, gm⟩ := id gmO
    have hu1 : (A.deeper (envOfC "_law_first_wrong" (defScope sFirstWrong) s.heap.objs.size f cdv)).units + 1 < cLine := by
      have := hr.units
      omega
    refine ⟨_, pss_cons (ps_if (pt_cut (fun _ H c H2 => c = decide (R.turn ≠ "plain" ∧ R.gather ∉ gathersT) ∧ Same H H2) (PW.pt (pw_and (pt_cmpR op_ne (pe_dget (by exact hu1) (pv 0) pe_str (fun _ _ => rfl)) pe_str (nomark _)) (pw_and1 (pt_cmpR (r := rIn K true) op_notIn_seq (pe_dget (by exact hu1) (pv 0) pe_str (fun _ _ => rfl)) (pe_lst (pa_cons pe_str (pa_cons pe_str pa_nil))) (by rfl)))))) (pss_one (ps_ret pe_str)) pss_nil)
      (pss_cons (ps_if (pt_cmpR op_ne (pe_cmpR op_eq (pe_dget (by exact hu1) (pv 0) pe_str (fun _ _ => rfl)) pe_str (nomark _)) (pe_cmpR op_gt (pe_dget (by exact hu1) (pv 0) pe_str (fun _ _ => rfl)) pe_int (nomark _)) (nomark _)) (pss_one (ps_ret pe_str)) pss_nil)
      (pss_cons (ps_for PassesOwn.never rfl (pi_list (pe_dget (by exact hu1) (pv 0) pe_str (fun _ _ => rfl))) (pg_name (i := 1) scFirstWrong.nd rfl (.inl rfl)) (pss_one
        (ps_for PassesOwn.never rfl (pi_list (pe_cut (fun σ H v H' => Same H H' ∧ ∀ (u : Addr) (row : List Str), σ[1]? = some (some (.ref u)) → H u = some (.lst (row.map V.str)) → ∃ q, v = .ref q ∧ H' q = some (.lst ((if 1 < row.length then row else []).map V.str))) (pe_ifExp (pt_cmpR op_gt (pe_callB call_len_seq (by rfl) B.len PySem.boot_len (pa_cons (pv 1) pa_nil)) pe_int (nomark _)) (pv 1) (pe_lst pa_nil)))) (pg_name (i := 2) scFirstWrong.nd rfl (.inl rfl))
          (pss_one (ps_if (pt_cmpR op_le (pe_callB call_len_seq (by rfl) B.len PySem.boot_len (pa_cons (pe_call GR hr (by rfl) gR kR bR .nil pass0 (pa_cons (pv 0) (pa_cons (pv 2) pa_nil))) pa_nil)) (pe_op op_mul pe_int (pe_dget (by exact hu1) (pv 0) pe_str (fun _ _ => rfl))) (nomark _)) (pss_one (ps_ret pe_str)) pss_nil)))))
      (pss_one (ps_ret pe_non)))), ?_⟩
    have oz : ∀ z ∈ R.zs, PyData.strOk z = true := lo.words.ok
    have okR : ∀ p ∈ R.reads, PyData.strOk p.1 = true ∧ PyData.strOk p.2 = true := fun p hp => by
      have := pairsOf_mem (lo.reads.subset hp)
      exact ⟨oz _ this.1, oz _ this.2⟩
    have h0 := lo.t0
    have h3 := lo.t3
    refine ⟨?_, ?_⟩
    · refine ⟨_, rfl, g, _, rfl, gm.gTurn, rfl, _, rfl, ?_⟩
      rw [dec_str]
      by_cases c1 : R.turn = "plain"
      · rw [decide_eq_true c1]
        refine iteF ⟨?_, Same.refl _⟩
        rw [decide_eq_false (fun c => c.1 c1)]
      · rw [decide_eq_false c1]
        refine iteT ⟨_, rfl, g, _, rfl, gm.gGather, (by show 2 ≤ sizeLine; decide), fun p np => ?_⟩
        have s1 : Same H (upd H p (.lst (gathersT.map V.str))) := same_new np
        have h1 : upd H p (.lst (gathersT.map V.str)) p = some (.lst (gathersT.map V.str)) := upd_same
        refine ⟨p, _, rfl, .inl (SqL.of h1), rfl, all_flat_strs _, _, rfl, ?_, s1⟩
        rw [if_pos rfl, inV_strs]
        by_cases c2 : R.gather ∈ gathersT
        · rw [decide_eq_true c2, decide_eq_false (fun c => c.2 c2)]
          rfl
        · rw [decide_eq_false c2, decide_eq_true ⟨c1, c2⟩]
          rfl
    rintro c H1 ⟨rfl, s1⟩
    by_cases w1 : R.turn ≠ "plain" ∧ R.gather ∉ gathersT
    · rw [decide_eq_true w1]
      refine iteT ?_
      have := q H1 s1
      unfold wrongA at this
      rw [if_pos w1] at this
      exact this
    rw [decide_eq_false w1]
    refine iteF ?_
    have gm1 := gm.same s1
    refine ⟨_, rfl, g, _, rfl, gm1.gGather, rfl, _, rfl, g, _, rfl, gm1.gTrim, _, _, rfl, rfl, rfl, _, rfl, ?_⟩
    by_cases w2 : decide (R.gather = "trim") ≠ decide (0 < R.trim)
    · have e2 : (!decide (V.bl (decide (V.str R.gather = V.str "trim")) = V.bl (decide (R.trim > 0)))) = true := by
        rw [dec_str]
        have : V.bl (decide (R.gather = "trim")) ≠ V.bl (decide (R.trim > 0)) := fun e => w2 (V.bl.inj e)
        rw [decide_eq_false this]
        rfl
      rw [e2]
      refine iteT ?_
      have := q H1 s1
      unfold wrongA at this
      rw [if_neg w1, if_pos w2] at this
      exact this
    have w2' : decide (R.gather = "trim") = decide (0 < R.trim) := Classical.byContradiction w2
    have e2 : (!decide (V.bl (decide (V.str R.gather = V.str "trim")) = V.bl (decide (R.trim > 0)))) = false := by
      rw [dec_str]
      have : V.bl (decide (R.gather = "trim")) = V.bl (decide (R.trim > 0)) := congrArg V.bl w2'
      rw [decide_eq_true this]
      rfl
    rw [e2]
    refine iteF ?_
    have wl : ∀ b, shortB R.reads R.lists R.trim = b → wrongA R = (if b = true then some ("lists" : Str) else none : Option Str) := fun b e => by
      unfold wrongA
      rw [if_neg w1, if_neg w2, e]
    refine ⟨_, rfl, g, _, rfl, gm1.gLists, l, rfl, ⟨_, SqL.of gm1.ls⟩, ?_⟩
    refine for_list (K := K) (a := l) (xs := us.map V.ref) (fun i σ G => ∃ (v1 v2 : Option V), σ = [some (.ref g), v1, v2] ∧ Same H1 G ∧ ∀ k ∈ R.lists.take i, 1 < k.length → ∀ z ∈ k, ¬ ((readersOf R.reads z).length : Int) ≤ 2 * R.trim)
      ⟨_, _, rfl, Same.refl _, fun k hk => by simp at hk⟩ (fun i σ G _ h => by
      obtain ⟨v1, v2, _, sG, _⟩ := h
      exact SqL.of (sG _ _ gm1.ls)) ?_ ?_
    · rintro i x σ G hx ⟨v1, v2, rfl, sG, done⟩
      rw [List.getElem?_map] at hx
      obtain ⟨u, hu, rfl⟩ := Option.map_eq_some_iff.mp hx
      have rl : us.length = R.lists.length := Paired.length gm.rows
      obtain ⟨row, hrow⟩ : ∃ row, R.lists[i]? = some row := ⟨_, List.getElem?_eq_getElem (by rw [← rl]; exact (List.getElem?_eq_some_iff.mp hu).1)⟩
      have hu2 := sG _ _ (pr_get gm1.rows hu hrow)
      have rin := List.mem_of_getElem? hrow
      refine ⟨⟨_, rfl, u, _, rfl, .inl (SqL.of hu2), _, _, rfl, rfl, _, rfl, ?_⟩, ?_⟩
      · rw [List.length_map]
        refine ite2 (fun c => ⟨_, rfl, Same.refl _, fun u' row' e1 e2 => ?_⟩) (fun c => ⟨Nat.zero_le _, fun q0 nq0 => ⟨same_new nq0, fun u' row' e1 e2 => ?_⟩⟩)
        · have e3 : u = u' := V.ref.inj (Option.some.inj (Option.some.inj e1))
          subst e3
          rw [hu2] at e2
          have e4 : row.map V.str = row'.map V.str := HO.lst.inj (Option.some.inj e2)
          have e5 : row.length = row'.length := by simpa using congrArg List.length e4
          have c2 := of_decide_eq_true c
          refine ⟨u, rfl, ?_⟩
          rw [if_pos (by omega), ← e4]
          exact hu2
        · have e3 : u = u' := V.ref.inj (Option.some.inj (Option.some.inj e1))
          subst e3
          rw [hu2] at e2
          have e4 : row.map V.str = row'.map V.str := HO.lst.inj (Option.some.inj e2)
          have e5 : row.length = row'.length := by simpa using congrArg List.length e4
          have c2 : ¬ ((row.length : Int) > 1) := fun z => c (decide_eq_true z)
          refine ⟨q0, rfl, ?_⟩
          rw [if_neg (by omega)]
          exact upd_same
      rintro v G1 ⟨sG1, hp⟩
      obtain ⟨q0, rfl, hq0⟩ := hp u row rfl hu2
      have rsub := lo.lists.sub row rin
      have rowm : ∀ z ∈ (if 1 < row.length then row else []), 1 < row.length ∧ z ∈ row := fun z hz => by
        by_cases c : 1 < row.length
        · rw [if_pos c] at hz
          exact ⟨c, hz⟩
        · rw [if_neg c] at hz
          cases hz
      refine ⟨q0, rfl, ⟨_, SqL.of hq0⟩, ?_⟩
      have sG1' := sG.trans sG1
      refine for_list (K := K) (a := q0) (xs := (if 1 < row.length then row else []).map V.str) (fun j σ G => ∃ (v2 : Option V), σ = [some (.ref g), some (.ref u), v2] ∧ Same G1 G ∧ ∀ z ∈ (if 1 < row.length then row else []).take j, ¬ ((readersOf R.reads z).length : Int) ≤ 2 * R.trim)
        ⟨_, rfl, Same.refl _, fun z hz => by simp at hz⟩ (fun j σ G _ h => by
        obtain ⟨v2, _, s, _⟩ := h
        exact SqL.of (s _ _ hq0)) ?_ ?_
      · rintro j x σ G2 hx ⟨v2, rfl, s2, dj⟩
        rw [List.getElem?_map] at hx
        obtain ⟨z, hz, rfl⟩ := Option.map_eq_some_iff.mp hx
        have zin := rowm z (List.mem_of_getElem? hz)
        have zzs : z ∈ R.zs := rsub.subset zin.2
        have gm2 := gm1.same (sG1'.trans s2)
        refine ⟨_, rfl, _, rfl, g, wo, r, z, _, R.zs, ys, R.reads, rfl, gm2.ob, rfl, gm2.words, rfl, gm2.rd, gm2.tps, lo.words.most, oz z zzs, oz, okR, fun G3 p3 s3 np3 hp3 => ?_⟩
        refine ⟨p3, _, rfl, .inl (SqL.of hp3), _, rfl, g, _, rfl, (gm2.same s3).gTrim, _, _, rfl, rfl, .inl ⟨by decide, by decide⟩, _, _, rfl, rfl, _, rfl, ?_⟩
        rw [List.length_map, show (R.zs.filter fun o => decide ((o, z) ∈ R.reads)).length = (readersOf R.reads z).length from cntA_eq lo.words.nd lo.reads]
        refine ite2 (fun c => ?_) (fun c => ?_)
        · have c2 := of_decide_eq_true c
          have sh : shortB R.reads R.lists R.trim = true := by
            unfold shortB
            rw [List.any_eq_true]
            exact ⟨z, List.mem_flatten.mpr ⟨row, List.mem_filter.mpr ⟨rin, decide_eq_true zin.1⟩, zin.2⟩, decide_eq_true c2⟩
          have := q G3 (s1.trans ((sG1'.trans s2).trans s3))
          rw [wl _ sh] at this
          exact this
        · refine ⟨_, rfl, s2.trans s3, fun x hx => ?_⟩
          rw [List.take_add_one, hz] at hx
          rcases List.mem_append.mp hx with h | h
          · exact dj x h
          · have e : x = z := by simpa using h
            rw [e]
            exact fun n => c (decide_eq_true n)
      · rintro σ G2 ⟨v2, rfl, s2, dj⟩
        rw [List.length_map, List.take_length] at dj
        refine ⟨_, _, rfl, sG1'.trans s2, fun k hk big => ?_⟩
        rw [List.take_add_one, hrow] at hk
        rcases List.mem_append.mp hk with h | h
        · exact done k h big
        · have e : k = row := by simpa using h
          subst e
          rw [if_pos big] at dj
          exact dj
    · rintro σ G ⟨v1, v2, rfl, sG, done⟩
      rw [List.length_map, Paired.length gm.rows, List.take_length] at done
      have sh : shortB R.reads R.lists R.trim = false := by
        unfold shortB
        rw [Bool.eq_false_iff]
        intro c
        obtain ⟨z, hz, h⟩ := List.any_eq_true.mp c
        obtain ⟨k, hk, hzk⟩ := List.mem_flatten.mp hz
        obtain ⟨hk1, hk2⟩ := List.mem_filter.mp hk
        exact done k hk1 (of_decide_eq_true hk2) z hzk (of_decide_eq_true h)
      have := q G (s1.trans sG)
      rw [wl _ sh] at this
      exact this
end
end K09

set_option Elab.async false
set_option linter.all false
set_option maxRecDepth 100000
set_option maxHeartbeats 4000000
namespace K09
open PySem PySem.Spec PyProof.Rows L2
section
variable {P : Program} {w : World} {K : PySem.W.Frag} {mg : Str → Option Value} {base : Heap} {C CR CB : Addr}
def reord {α : Type} (vs zs : List α) : List α := match zs with
  | [a, b, c, d, e, f] => vs ++ [a, b, d, e, c, f]
  | _ => vs
theorem vals_reord : ∀ {xs ys : List V} {us ws : List Value}, Vals xs us → Vals ys ws → Vals (reord xs ys) (reord us ws)
  | _, _, _, _, h, .nil => h
  | _, _, _, _, h, .cons _ .nil => h
  | _, _, _, _, h, .cons _ (.cons _ .nil) => h
  | _, _, _, _, h, .cons _ (.cons _ (.cons _ .nil)) => h
  | _, _, _, _, h, .cons _ (.cons _ (.cons _ (.cons _ .nil))) => h
  | _, _, _, _, h, .cons _ (.cons _ (.cons _ (.cons _ (.cons _ .nil)))) => h
  | _, _, _, _, h, .cons a (.cons b (.cons c (.cons d (.cons e (.cons f .nil))))) => Vals.append h (.cons a (.cons b (.cons d (.cons e (.cons c (.cons f .nil))))))
  | _, _, _, _, h, .cons _ (.cons _ (.cons _ (.cons _ (.cons _ (.cons _ (.cons _ _)))))) => h
abbrev ch6 : List Str := ["turn", "reads", "lists", "gather", "trim", "prizes"]
theorem kb_changed6 {f : Addr} {fd : FuncData} (F : FunD K "changed" "Rule.changed" (defArgs sRuleChanged) (defBody sRuleChanged) (defScope sRuleChanged) [] chKws f fd) : ∃ g : List Value → List Value → List Value, KBn K fd chPs 1 ch6 g (fun vs zs => reord vs zs) := by
  obtain ⟨mv, h⟩ := F.kbinds0 1 ch6 [] (ps := chPs) (fun us mv ws => reord us ws) (by decide) (fun q h => by cases h) (fun r1 _ r3 => vals_reord r1 r3) (fun D doc pm an cdv ct us mv ws l1 l2 l3 => match us, ws, l1, l3 with
    | [_], [_, _, _, _, _, _], _, _ => rfl)
  exact ⟨_, h⟩
theorem b_changed0 {f : Addr} {fd : FuncData} (F : FunD K "changed" "Rule.changed" (defArgs sRuleChanged) (defBody sRuleChanged) (defScope sRuleChanged) [] chKws f fd) : ∃ ds, Vals (chKws.map (·.2)) ds ∧ Binds K fd chPs ds :=
  F.binds0 1 (by decide) rfl (fun D doc pm an cdv ct us ks l1 l2 => match us, ks, l1, l2 with
    | [_], [_, _, _, _, _, _], _, _ => ⟨_, _, _, _, _, _, rfl, rfl, ⟨_, _, _, _, _, _, rfl, rfl, ⟨_, _, _, _, _, _, rfl, rfl, ⟨_, _, _, _, _, _, rfl, rfl, ⟨_, _, _, _, _, _, rfl, rfl, ⟨_, _, _, _, _, _, rfl, rfl, rfl⟩⟩⟩⟩⟩⟩)
theorem some_if {b : Bool} {v x : V} (h : (if b then some v else none : Option V) = some x) : b = true ∧ x = v := by
  cases b
  · cases h
  · cases h
    exact ⟨rfl, rfl⟩
theorem getD_if {b : Bool} {v : V} : (if b then some v else none : Option V).getD .non = if b then v else .non := by
  cases b <;> rfl
theorem given_str {b : Bool} {s r : Str} : given ((if b then some (.str s) else none : Option V).getD .non) (.str r) = .str (if b then s else r) := by
  cases b
  · exact if_pos rfl
  · exact if_neg (fun e => nomatch e)
theorem given_int {b : Bool} {s r : Int} : given ((if b then some (.int s) else none : Option V).getD .non) (.int r) = .int (if b then s else r) := by
  cases b
  · exact if_pos rfl
  · exact if_neg (fun e => nomatch e)
theorem ty_str_if {H : Hp} {b : Bool} {s : Str} : ∃ T, TyN K H ((if b then some (.str s) else none : Option V).getD .non) T := by
  cases b
  · exact ⟨"NoneType", .base .non, by decide⟩
  · exact ⟨"str", .base (.str _), by decide⟩
theorem ty_int_if {H : Hp} {b : Bool} {s : Int} : ∃ T, TyN K H ((if b then some (.int s) else none : Option V).getD .non) T := by
  cases b
  · exact ⟨"NoneType", .base .non, by decide⟩
  · exact ⟨"int", .base (.int _), by decide⟩
theorem ok_changedA {f fCh : Addr} {fd dCh : FuncData} {gC0 : List Value → List Value → List Value} (F : Fun K "_law_changed" "_law_changed" sChanged f fd)
    (mCh : Meth K CR "changed" fCh) (GCh : FnOk P w K mg base (L2.CX P w) 6 fCh dCh chPs (spChanged K C CR CB)) (bCh : KBn K dCh chPs 1 ch6 gC0 (fun vs zs => reord vs zs))
    (EB : Er K mg "BadRule" CB) (no : PySem.W.findIn K (.ref CB) "part" = some none) (clR : Cls K CR) : FnOk P w K mg base CX0 7 f fd ["_law_rule", "_law_parts"] (spChangedA C CR) := by
  refine F.ok scChanged (fun vs H Q E h => ?_) (fun cdv A outer s H vs Q E hr h => ?_)
  · obtain ⟨x, d, l, r, us, ys, R, S, b, rfl, _⟩ := h
    rfl
  · obtain ⟨x, d, l, r, us, ys, R, S, b, rfl, hR, ok, lR, pd, lS, ez, q1, q2⟩ := h
    obtain ⟨c, cr, cl, cd, cys, cus, at_⟩ := id hR
    obtain ⟨dx, hx⟩ := at_.ob
    have hu1 : (A.deeper (envOfC "_law_changed" (defScope sChanged) s.heap.objs.size f cdv)).units + 1 < cLine := by
      have := hr.units
      omega
    refine ⟨_, pss_one (by
        refine' ps_try_as (i := 2) (c := .ref CB) (ts := fun a cls d => tRet (tXf a cls d CB "part" (tVar 2))) (Wout := fun _ _ _ _ => False) rfl rfl scChanged.nd rfl rfl ⟨rfl, by decide, Or.inl EB.g⟩ takes0 ?b1 (fun a oe cls d pn hz hf => pss_one (ps_ret (by exact pe_xf EB.xf no hz hf (pv 2))))
        (case b1 =>
          intro W pn xe tk _
          exact pss_one (ps_ret (pe_methK (ks := ch6) (pv 0) clR mCh GCh (by exact hr) bCh (fun σ => passAt tk σ) (pk_cons (pe_dget2 (by exact hu1) (pv 1) pe_str pe_non ⟨rfl, rfl, rfl, rfl⟩) (pk_cons (pe_dget2 (by exact hu1) (pv 1) pe_str pe_non ⟨rfl, rfl, rfl, rfl⟩) (pk_cons (pe_dget2 (by exact hu1) (pv 1) pe_str pe_non ⟨rfl, rfl, rfl, rfl⟩) (pk_cons (pe_dget2 (by exact hu1) (pv 1) pe_str pe_non ⟨rfl, rfl, rfl, rfl⟩) (pk_cons (pe_dget2 (by exact hu1) (pv 1) pe_str pe_non ⟨rfl, rfl, rfl, rfl⟩) (pk_cons (pe_dget2 (by exact hu1) (pv 1) pe_str pe_non ⟨rfl, rfl, rfl, rfl⟩) pk_nil)))))))))), ?_⟩
    obtain ⟨kvs, hd, e1, e2, e3, e4, e5, e6⟩ := pd.ob
    have D1 : DGet H d (.str "turn") (if b.t then some (.str S.turn) else none) := by
      have := DGet.k (k := .inr "turn") hd
      rwa [e1] at this
    have D2 : DGet H d (.str "reads") (if b.r then some (.ref r) else none) := by
      have := DGet.k (k := .inr "reads") hd
      rwa [e2] at this
    have D3 : DGet H d (.str "lists") (if b.l then some (.ref l) else none) := by
      have := DGet.k (k := .inr "lists") hd
      rwa [e3] at this
    have D4 : DGet H d (.str "gather") (if b.g then some (.str S.gather) else none) := by
      have := DGet.k (k := .inr "gather") hd
      rwa [e4] at this
    have D5 : DGet H d (.str "trim") (if b.m then some (.int S.trim) else none) := by
      have := DGet.k (k := .inr "trim") hd
      rwa [e5] at this
    have D6 : DGet H d (.str "prizes") (if b.p then some (.int S.prizes) else none) := by
      have := DGet.k (k := .inr "prizes") hd
      rwa [e6] at this
    have isd : IsD H d := .inl ⟨kvs, .inl hd⟩
    obtain ⟨f1, f2, f3, f4⟩ := ok.few
    refine ⟨_, rfl, x, dx, _, rfl, hx, rfl, _, rfl, d, rfl, isd, _, D1, _, rfl, d, rfl, isd, _, D2, _, rfl, d, rfl, isd, _, D3, _, rfl, d, rfl, isd, _, D4, _, rfl, d, rfl, isd, _, D5, _, rfl, d, rfl, isd, _, D6, rfl, ?_⟩
    have mL := mix_loose (b := b) lR lS ez
    refine ⟨x, R, _, _, _, _, _, _, true, true, (R.mix S b).reads, (R.mix S b).lists, rfl, hR, ok, ty_str_if, ?_, ty_str_if, ty_int_if, ?_, ty_int_if, ?_, ?_⟩
    · cases hb : b.r with
      | false =>
        refine .inl ⟨rfl, rfl, ?_⟩
        show (if b.r then S.reads else R.reads) = R.reads
        rw [hb]
        rfl
      | true =>
        refine .inr ⟨(fun e => nomatch e), ?_⟩
        have e : (R.mix S b).reads = S.reads := by
          show (if b.r then S.reads else R.reads) = S.reads
          rw [hb]
          rfl
        rw [e]
        exact reads_given (K := K) ok.folk.nd f1 pd.rd pd.tps (ez ▸ lS.reads)
    · cases hb : b.l with
      | false =>
        refine .inl ⟨rfl, rfl, ?_⟩
        show (if b.l then S.lists else R.lists) = R.lists
        rw [hb]
        rfl
      | true =>
        refine .inr ⟨(fun e => nomatch e), ?_⟩
        have e : (R.mix S b).lists = S.lists := by
          show (if b.l then S.lists else R.lists) = S.lists
          rw [hb]
          rfl
        rw [e]
        have ls2 : Straight R.zs S.lists := ez ▸ lS.lists
        have few : S.lists.length ≤ 10 := by
          have := ls2.heads.length_le
          rw [List.length_map] at this
          omega
        have := ListsOpt.good (K := K) (LL.of_rows pd.ls pd.rows) ls2.parts few
        rwa [inOrder_id ok.folk.nd ls2] at this
    · intro z hz H' d2 hr2
      have w := hz (R.mix S b).turn (R.mix S b).gather (R.mix S b).trim given_str given_str given_int
      rw [given_str, given_str, given_int, given_int] at w
      have w2 := (wrongA_first mL).symm.trans w
      obtain ⟨r1, r2, r3⟩ := hr2
      refine ⟨true, EB.exm, fun _ a na => ?_, fun e => Bool.noConfusion e⟩
      exact ⟨_, rfl, rfl, rfl, d2, _, _, rfl, r3, rfl, q1 z w2 _ r1⟩
    · intro t g mi p h1 h2 h3 h4 hw H' y s1 ny hy
      rw [given_str] at h1 h2
      rw [given_int] at h3 h4
      cases h1
      cases h2
      cases h3
      cases h4
      rw [given_str, given_str, given_int, given_int] at hw
      exact q2 ((wrongA_first mL).symm.trans hw) H' y s1 ny hy
end
end K09

set_option Elab.async false
set_option linter.all false
set_option maxRecDepth 100000
set_option maxHeartbeats 4000000
/-! Parts of a plan, drawn; rules apart from the pool. -/
namespace L2
open PySem PySem.Spec PyProof.Rows
theorem Pool.away {H : Hp} {a b : Addr} {o : HO} (P : Pool H a) (h : H b = Option.some o) (n : ∀ (c i : Int), o ≠ .lst [.int c, .int i]) : del H a b = Option.some o := L2.del_at (fun e => by
  obtain ⟨m, i, h1, _⟩ := P
  rw [e, h1] at h
  exact n m i (Option.some.inj h).symm) h
theorem strs_awayA (zs : List Str) (c i : Int) : HO.lst (zs.map V.str) ≠ .lst [.int c, .int i] := fun e => by
  have e := HO.lst.inj e
  cases zs with
  | nil => cases e
  | cons z zs => cases (List.cons.inj e).1
theorem refs_awayA (us : List Addr) (c i : Int) : HO.lst (us.map V.ref) ≠ .lst [.int c, .int i] := fun e => by
  have e := HO.lst.inj e
  cases us with
  | nil => cases e
  | cons z zs => cases (List.cons.inj e).1
theorem pairs_awayA {H : Hp} {ys : List V} {rs : List Pr} (t : Tps H ys rs) (c i : Int) : HO.lst ys ≠ .lst [.int c, .int i] := fun e => by
  have e := HO.lst.inj e
  subst e
  obtain ⟨r, hr⟩ : ∃ r, rs[1]? = some r := ⟨_, List.getElem?_eq_getElem (by rw [← t.1]; show 1 < 2; decide)⟩
  obtain ⟨q, hq, _⟩ := t.2 1 (.int i) r rfl hr
  cases hq
theorem RuleOf.awayA {H : Hp} {CR C x a : Addr} {R : RuleD} (P : Pool H a) (h : RuleOf H CR C x R) : RuleOf (del H a) CR C x R := by
  obtain ⟨c, r, l, d, ys, us, at'⟩ := h
  obtain ⟨⟨dx, h1⟩, ⟨dc, p, h2, h3⟩, h4, h5, h6, h7, us2, h8, h9⟩ := at'
  refine ⟨c, r, l, d, ys, us, ⟨dx, P.away h1 (fun _ _ e => nomatch e)⟩, ⟨dc, p, P.away h2 (fun _ _ e => nomatch e), P.away h3 (strs_awayA _)⟩, P.away h4 (pairs_awayA h5), ⟨h5.1, fun j y q e1 e2 => ?_⟩, P.away h6 (refs_awayA _), Paired.mono (fun u l e => P.away e (strs_awayA _)) h7, us2, P.away h8 (fun _ _ e => nomatch e), Paired.mono (fun u z e => P.away e (strs_awayA _)) h9⟩
  obtain ⟨t, e, h⟩ := h5.2 j y q e1 e2
  exact ⟨t, e, P.away h (fun _ _ e => nomatch e)⟩
theorem del_upd_self {G : Hp} {g : Addr} {o : HO} : del (upd G g o) g = del G g := by
  funext b
  by_cases e : b = g
  · subst e
    rw [del_same, del_same]
  · rw [del_ne e, del_ne e, upd_ne e]
def kept {α : Type} : List α → List Bool → List α
  | a :: as, b :: bs => if b then a :: kept as bs else kept as bs
  | _, _ => []
theorem kept_snoc {α : Type} : ∀ {as : List α} {bs : List Bool} {a : α} {b : Bool}, as[bs.length]? = some a → kept as (bs ++ [b]) = kept as bs ++ (if b then [a] else [])
  | [], _, _, _, h => by simp at h
  | x :: as, [], a, b, h => by
    have e : x = a := by simpa using h
    subst e
    cases b <;> cases as <;> rfl
  | x :: as, c :: bs, a, b, h => by
    have ih := kept_snoc (as := as) (bs := bs) (a := a) (b := b) (by simpa using h)
    cases c
    · show kept as (bs ++ [b]) = kept as bs ++ _
      exact ih
    · show x :: kept as (bs ++ [b]) = x :: kept as bs ++ _
      rw [ih]
      rfl
theorem kept_sub {α : Type} : ∀ (as : List α) (bs : List Bool), (kept as bs).Sublist as
  | [], bs => by cases bs <;> exact List.nil_sublist _
  | _ :: _, [] => List.nil_sublist _
  | a :: as, b :: bs => by
    cases b
    · exact (kept_sub as bs).cons a
    · exact (kept_sub as bs).cons_cons a
theorem valV_out {κ : Type} [DecidableEq κ] : ∀ {kvs : List (κ × V)} {k : κ}, k ∉ kvs.map (·.1) → valV kvs k = none
  | [], _, _ => rfl
  | p :: r, k, h => by
    rw [List.map_cons, List.mem_cons] at h
    rw [valV_neg (fun e => h (.inl e.symm))]
    exact valV_out fun m => h (.inr m)
theorem kept_val {κ : Type} [DecidableEq κ] : ∀ {as : List (κ × V)} {bs : List Bool} {i : Nat} {k : κ} {v : V} {b : Bool}, (as.map (·.1)).Nodup → as[i]? = some (k, v) → bs[i]? = some b → valV (kept as bs) k = if b then some v else none
  | [], _, _, _, _, _, _, h, _ => by simp at h
  | _ :: _, [], _, _, _, _, _, _, h => by simp at h
  | p :: as, c :: bs, 0, k, v, b, nd, h1, h2 => by
    have e1 : p = (k, v) := by simpa using h1
    have e2 : c = b := by simpa using h2
    subst e1 e2
    rw [List.map_cons, List.nodup_cons] at nd
    cases c
    · show valV (kept as bs) k = none
      exact valV_out fun m => nd.1 (((kept_sub as bs).map (fun q : κ × V => q.1)).subset m)
    · show valV ((k, v) :: kept as bs) k = some v
      rw [valV_pos rfl]
  | p :: as, c :: bs, i + 1, k, v, b, nd, h1, h2 => by
    rw [List.map_cons, List.nodup_cons] at nd
    have ih := kept_val (as := as) (bs := bs) (i := i) (k := k) (v := v) (b := b) nd.2 (by simpa using h1) (by simpa using h2)
    have ne : p.1 ≠ k := fun e => nd.1 (by rw [e]; exact List.mem_map.mpr ⟨(k, v), List.mem_of_getElem? (by simpa using h1), rfl⟩)
    cases c
    · exact ih
    · show valV (p :: kept as bs) k = _
      rw [valV_neg ne]
      exact ih
/-- the sixP parts by name -/
def sixP (t : Str) (r : Addr) (g : Str) (m : Int) (l : Addr) (p : Int) : List (Key × V) := [(.inr "turn", .str t), (.inr "reads", .ref r), (.inr "gather", .str g), (.inr "trim", .int m), (.inr "lists", .ref l), (.inr "prizes", .int p)]
theorem sixP_nd {t : Str} {r : Addr} {g : Str} {m : Int} {l : Addr} {p : Int} : ((sixP t r g m l p).map (·.1)).Nodup := by
  show ([Sum.inr "turn", Sum.inr "reads", Sum.inr "gather", Sum.inr "trim", Sum.inr "lists", Sum.inr "prizes"] : List Key).Nodup
  decide +kernel
theorem getD_str {b : Bool} {x y : Str} : (if b then some (.str x) else none : Option V).getD (.str y) = .str (if b then x else y) := by cases b <;> rfl
theorem getD_int {b : Bool} {x y : Int} : (if b then some (.int x) else none : Option V).getD (.int y) = .int (if b then x else y) := by cases b <;> rfl
theorem getD_ref {b : Bool} {x y : Addr} : (if b then some (.ref x) else none : Option V).getD (.ref y) = .ref (if b then x else y) := by cases b <;> rfl
theorem planT_nd {w : Addr} {m : Int} {t : Str} {tr : Int} {l r : Addr} {ga : Str} {pr : Int} : ((planT w m t tr l r ga pr).map (·.1)).Nodup := by
  show ([Sum.inr "people", Sum.inr "most", Sum.inr "turn", Sum.inr "trim", Sum.inr "lists", Sum.inr "reads", Sum.inr "gather", Sum.inr "prizes"] : List Key).Nodup
  decide +kernel
/-- what is due: the drawn parts of the one, the others of the other -/
theorem due_parts {w l r l2 r2 : Addr} {R S : RuleD} {b1 b2 b3 b4 b5 b6 : Bool} :
    ((planAK w l r R).map fun kv => (kv.1, (valV (kept (sixP S.turn r2 S.gather S.trim l2 S.prizes) [b1, b2, b3, b4, b5, b6]) kv.1).getD kv.2)) = planAK w (if b5 then l2 else l) (if b2 then r2 else r) (R.mix S ⟨b1, b2, b5, b3, b4, b6⟩) := by
  have nd := sixP_nd (t := S.turn) (r := r2) (g := S.gather) (m := S.trim) (l := l2) (p := S.prizes)
  have k1 := kept_val (bs := [b1, b2, b3, b4, b5, b6]) (i := 0) (b := b1) nd rfl rfl
  have k2 := kept_val (bs := [b1, b2, b3, b4, b5, b6]) (i := 1) (b := b2) nd rfl rfl
  have k3 := kept_val (bs := [b1, b2, b3, b4, b5, b6]) (i := 2) (b := b3) nd rfl rfl
  have k4 := kept_val (bs := [b1, b2, b3, b4, b5, b6]) (i := 3) (b := b4) nd rfl rfl
  have k5 := kept_val (bs := [b1, b2, b3, b4, b5, b6]) (i := 4) (b := b5) nd rfl rfl
  have k6 := kept_val (bs := [b1, b2, b3, b4, b5, b6]) (i := 5) (b := b6) nd rfl rfl
  have out : ∀ k : Key, k ∉ ([Sum.inr "turn", Sum.inr "reads", Sum.inr "gather", Sum.inr "trim", Sum.inr "lists", Sum.inr "prizes"] : List Key) → valV (kept (sixP S.turn r2 S.gather S.trim l2 S.prizes) [b1, b2, b3, b4, b5, b6]) k = none := fun k hk => valV_out fun m => hk (((kept_sub _ _).map (fun q : Key × V => q.1)).subset m)
  have ins : ∀ z : Str, z ∉ (["turn", "reads", "gather", "trim", "lists", "prizes"] : List Str) → (Sum.inr z : Key) ∉ ([Sum.inr "turn", Sum.inr "reads", Sum.inr "gather", Sum.inr "trim", Sum.inr "lists", Sum.inr "prizes"] : List Key) := fun z hz h => by
    simp only [List.mem_cons, List.not_mem_nil, or_false] at h
    refine hz ?_
    simp only [List.mem_cons, List.not_mem_nil, or_false]
    rcases h with h | h | h | h | h | h <;> rw [Sum.inr.inj h] <;> simp
  have k7 := out (.inr "people") (ins _ (by decide +kernel))
  have k8 := out (.inr "most") (ins _ (by decide +kernel))
  show [(_, _), (_, _), (_, _), (_, _), (_, _), (_, _), (_, _), (_, _)] = _
  rw [k1, k2, k3, k4, k5, k6, k7, k8, getD_str, getD_int, getD_ref, getD_ref, getD_str, getD_int]
  rfl
end L2

set_option Elab.async false
set_option linter.all false
set_option maxRecDepth 100000
set_option maxHeartbeats 4000000
/-! list(zip(a list, a tuple)). -/
namespace L2
open PySem PySem.Spec PyProof.Rows
section
variable {prog : Program} {w : World} {A : Around} {E : Value → Shared → Prop} {s : Shared} {z TI TO i1 i2 : Addr} {fp1 fp2 : List Addr} {n1 n2 i : Nat} {P1 P2 : Nat → Value → Prop} {St1 St2 : Nat → Heap → Prop} {T : Addr} {f : Bool} {oT : Obj}
theorem zipH_next_item {Q : Value → Shared → Prop} (S : ZipSep2 z TI TO i1 i2 fp1 fp2) (D1 : Draws prog w A i1 fp1 n1 P1 St1) (D2 : Draws prog w A i2 fp2 n2 P2 St2)
    (hz : IsZipHeld s.heap z TI TO T f) (hT : s.heap.get? T = some oT) (hTI : IsTupOf2 s.heap TI (.ref i1) (.ref i2)) (st1 : St1 i s.heap) (st2 : St2 i s.heap) (hlt1 : i < n1) (hlt2 : i < n2)
    (hQ : ∀ x1 x2 h' tk, P1 i x1 → P2 i x2 → IsZipHeld h' z TI TO T true → St1 (i + 1) h' → St2 (i + 1) h' → IsTupOf2 h' s.heap.objs.size x1 x2 → h'.objs.size = s.heap.objs.size + 1 →
      (∀ c o, c ≠ z → c ≠ i1 → c ≠ i2 → s.heap.get? c = some o → h'.get? c = some o) → Q (.ref s.heap.objs.size) { s with heap := h', toks := tk }) :
    wpAny (model prog w) A (Builtin.«zip.__next__» ⟨[.ref z], []⟩) (fun fin s' => ∃ v, fin = .done (.ret v) ∧ Q v s') E s := by
  obtain ⟨hp, g, d, tk0, os⟩ := s
  show wpAny _ _ (field (.ref z) 2 >>= _) _ _ _
  refine wpAny_bind (wpAny_field hz rfl (x := .bool false) rfl ?_)
  show wpAny _ _ (field (.ref z) 3 >>= _) _ _ _
  refine wpAny_bind (wpAny_field hz rfl (x := .ref TI) rfl ?_)
  refine wpAny_bind (wpAny_seqItems hTI rfl ?_)
  show wpAny _ _ (Builtin.SmallTypes.ownedTupleIsFree (.ref z) >>= _) _ _ _
  refine wpAny_bind (wpAny_tupleHeld_zip hz hT fun h₁ hz₁ hs₁ => ?_)
  replace hs₁ : Heap.SameBut z hp h₁ := hs₁
  simp only [Bool.false_eq_true, if_false]
  refine wpAny_bind ?_
  rw [← Array.forIn_toList]
  simp only [List.forIn_cons, List.forIn_nil]
  refine wpAny_bind (wpAny_bind (wpAny_holding ?_))
  show wpAny _ _ (Builtin.SmallTypes.nextOf (.ref i1) >>= _) _ _ ⟨h₁, g, d, tk0, os⟩
  refine wpAny_bind (D1.item i _ _ _ hlt1 (D1.over st1 hs₁ S.zf1) fun x1 p1 tk1 hx1 sn1 hp1 => wpAny_pure ?_)
  replace hp1 : Heap.SameBut i1 h₁ p1 := hp1
  refine wpAny_pure ?_
  refine wpAny_bind (wpAny_bind (wpAny_holding ?_))
  show wpAny _ _ (Builtin.SmallTypes.nextOf (.ref i2) >>= _) _ _ ⟨p1, g, d, tk1, os⟩
  refine wpAny_bind (D2.item i _ _ _ hlt2 (D2.over (D2.over st2 hs₁ S.zf2) hp1 S.sep1_2) fun x2 p2 tk2 hx2 sn2 hp2 => wpAny_pure ?_)
  replace hp2 : Heap.SameBut i2 p1 p2 := hp2
  refine wpAny_pure (wpAny_pure ?_)
  show wpAny _ _ (newTuple [x1, x2] >>= _) _ _ ⟨p2, g, d, tk2, os⟩
  refine wpAny_bind (wpAny_newTuple ?_)
  have hsz : p2.objs.size = hp.objs.size := by rw [hp2.1, hp1.1, hs₁.1]
  have hz2 : IsZipHeld p2 z TI TO T true := hp2.extBut _ _ S.zi2 (hp1.extBut _ _ S.zi1 hz₁)
  have up : ∀ c o, p2.get? c = some o → (p2.push { cls := .type "tuple", data := .seq #[x1, x2] }).get? c = some o := fun c o e => Heap.get?_push_of_some _ e
  refine wpAny_pure ⟨_, rfl, ?_⟩
  show Q (.ref p2.objs.size) ⟨p2.push { cls := .type "tuple", data := .seq #[x1, x2] }, g, d, tk2, os⟩
  have hp : IsTupOf2 (p2.push { cls := .type "tuple", data := .seq #[x1, x2] }) p2.objs.size x1 x2 := Heap.get?_push_size _ rfl
  have hz4 : (p2.push { cls := .type "tuple", data := .seq #[x1, x2] }).objs.size = p2.objs.size + 1 := Heap.size_push ..
  have f1 : St1 (i + 1) (p2.push { cls := .type "tuple", data := .seq #[x1, x2] }) := D1.frame _ _ _ (D1.over sn1 hp2 S.sep2_1) fun b _ o e => up b o e
  have f2 : St2 (i + 1) (p2.push { cls := .type "tuple", data := .seq #[x1, x2] }) := D2.frame _ _ _ sn2 fun b _ o e => up b o e
  generalize p2.push { cls := .type "tuple", data := .seq #[x1, x2] } = p3 at up hp hz4 f1 f2
  rw [hsz] at hp hz4 ⊢
  exact hQ x1 x2 p3 tk2 hx1 hx2 (up _ _ hz2) f1 f2 hp hz4 fun c o c1 c2 c3 e => up _ _ (hp2.extBut _ _ c3 (hp1.extBut _ _ c2 (hs₁.extBut _ _ c1 e)))
theorem zipH_next_end {Q : Fin → Shared → Prop} (S : ZipSep2 z TI TO i1 i2 fp1 fp2) (D1 : Draws prog w A i1 fp1 n1 P1 St1) (D2 : Draws prog w A i2 fp2 n2 P2 St2)
    (hz : IsZipHeld s.heap z TI TO T f) (hT : s.heap.get? T = some oT) (hTI : IsTupOf2 s.heap TI (.ref i1) (.ref i2)) (st1 : St1 i s.heap) (st2 : St2 i s.heap) (hle1 : i ≤ n1) (hle2 : i ≤ n2) (hend : i = n1 ∨ i = n2)
    (hE : ∀ h' tk e, (∀ c o, c ≠ z → c ≠ i1 → c ≠ i2 → s.heap.get? c = some o → h'.get? c = some o) → (∃ o, h'.get? e = some o ∧ o.cls = .type "StopIteration") → E (.ref e) { s with heap := h', toks := tk }) :
    wpAny (model prog w) A (Builtin.«zip.__next__» ⟨[.ref z], []⟩) Q E s := by
  obtain ⟨hp, g, d, tk0, os⟩ := s
  show wpAny _ _ (field (.ref z) 2 >>= _) _ _ _
  refine wpAny_bind (wpAny_field hz rfl (x := .bool false) rfl ?_)
  show wpAny _ _ (field (.ref z) 3 >>= _) _ _ _
  refine wpAny_bind (wpAny_field hz rfl (x := .ref TI) rfl ?_)
  refine wpAny_bind (wpAny_seqItems hTI rfl ?_)
  show wpAny _ _ (Builtin.SmallTypes.ownedTupleIsFree (.ref z) >>= _) _ _ _
  refine wpAny_bind (wpAny_tupleHeld_zip hz hT fun h₁ hz₁ hs₁ => ?_)
  replace hs₁ : Heap.SameBut z hp h₁ := hs₁
  simp only [Bool.false_eq_true, if_false]
  refine wpAny_bind ?_
  rw [← Array.forIn_toList]
  simp only [List.forIn_cons, List.forIn_nil]
  refine wpAny_bind (wpAny_bind (wpAny_holding ?_))
  show wpAny _ _ (Builtin.SmallTypes.nextOf (.ref i1) >>= _) _ _ ⟨h₁, g, d, tk0, os⟩
  by_cases hlt1 : i < n1
  · refine wpAny_bind (D1.item i _ _ _ hlt1 (D1.over st1 hs₁ S.zf1) fun x1 p1 tk1 hx1 sn1 hp1 => wpAny_pure ?_)
    replace hp1 : Heap.SameBut i1 h₁ p1 := hp1
    have hi2 : i = n2 := by omega
    refine wpAny_pure ?_
    refine wpAny_bind (wpAny_bind (wpAny_holding ?_))
    show wpAny _ _ (Builtin.SmallTypes.nextOf (.ref i2) >>= _) _ _ ⟨p1, g, d, tk1, os⟩
    refine wpAny_bind (D2.done ⟨p1, g, d, tk1, os⟩ _ _ (by rw [← hi2]; exact D2.over (D2.over st2 hs₁ S.zf2) hp1 S.sep1_2) fun q e hq he => ?_)
    replace hq : Heap.ExtBut i2 p1 q := hq
    exact hE q tk1 e (fun c o cz c1 c2 x => hq _ _ c2 (hp1.extBut _ _ c1 (hs₁.extBut _ _ cz x))) he
  · have hi1 : i = n1 := by omega
    refine wpAny_bind (D1.done ⟨h₁, g, d, tk0, os⟩ _ _ (by rw [← hi1]; exact D1.over st1 hs₁ S.zf1) fun q e hq he => ?_)
    replace hq : Heap.ExtBut i1 h₁ q := hq
    exact hE q tk0 e (fun c o cz c1 c2 x => hq _ _ c1 (hs₁.extBut _ _ cz x)) he
/-- a zip, before its first turn or with a tuple out -/
def ZipSt (h : Heap) (z TI TO : Addr) : Prop := (IsZip h z TI TO .none ∧ ∃ x y, IsTupOf2 h TO x y) ∨ ∃ T f oT, IsZipHeld h z TI TO T f ∧ h.get? T = some oT ∧ T ≠ z
theorem zipA_item {Q : Option Value → Shared → Prop} (S : ZipSep2 z TI TO i1 i2 fp1 fp2) (D1 : Draws prog w A.in1 i1 fp1 n1 P1 St1) (D2 : Draws prog w A.in1 i2 fp2 n2 P2 St2)
    (hz : ZipSt s.heap z TI TO) (hTI : IsTupOf2 s.heap TI (.ref i1) (.ref i2)) (st1 : St1 i s.heap) (st2 : St2 i s.heap) (hlt1 : i < n1) (hlt2 : i < n2)
    (hQ : ∀ x1 x2 h' tk T f, P1 i x1 → P2 i x2 → IsZipHeld h' z TI TO T f → (∃ oT, h'.get? T = some oT) → T ≠ z → St1 (i + 1) h' → St2 (i + 1) h' → IsTupOf2 h' s.heap.objs.size x1 x2 → h'.objs.size = s.heap.objs.size + 1 →
      (∀ c o, c ≠ z → c ≠ TO → c ≠ i1 → c ≠ i2 → s.heap.get? c = some o → h'.get? c = some o) → Q (some (.ref s.heap.objs.size)) { s with heap := h', toks := tk }) :
    wpAny (model prog w) A (pyNext (.ref z)) Q E s := by
  rcases hz with ⟨hz, x, y, hTO⟩ | ⟨T, f, oT, hz, hT, nT⟩
  · refine wpAny_pyNext_zipD2_item S D1 D2 hz hTI hTO st1 st2 hlt1 hlt2 fun x1 x2 h' tk y1 y2 b1 b2 d1 d2 b5 b6 b7 => ?_
    exact hQ x1 x2 h' tk s.heap.objs.size false y1 y2 b1 ⟨_, b5⟩ (Nat.ne_of_gt (Heap.lt_size hz)) d1 d2 b5 b6 b7
  · have hTy : s.TypeIs (.ref z) "zip" := ⟨_, hz, rfl⟩
    unfold pyNext
    refine wpAny_bind (wpAny_attempt (wpAny_callSpecial?_slot (name := Str.ofString "__next__") hTy F.slot_zip_next
      (wpAny_call_entry F.slot_zip_next hTy F.entry_zip_next
        (zipH_next_item S D1 D2 hz hT hTI st1 st2 hlt1 hlt2 fun x1 x2 h' tk y1 y2 b1 d1 d2 b5 b6 b7 => wpAny_pure ?_) (F.args_zip_next_1 _))))
    have tl : ∃ oT, h'.get? T = some oT := by
      by_cases e1 : T = i1
      · subst e1
        exact D1.live _ _ d1
      · by_cases e2 : T = i2
        · subst e2
          exact D2.live _ _ d2
        · exact ⟨_, b7 _ _ nT e1 e2 hT⟩
    exact hQ x1 x2 h' tk T true y1 y2 b1 tl nT d1 d2 b5 b6 fun c o c1 _ c3 c4 e => b7 c o c1 c3 c4 e
theorem zipA_end {Q : Option Value → Shared → Prop} (S : ZipSep2 z TI TO i1 i2 fp1 fp2) (D1 : Draws prog w A.in1 i1 fp1 n1 P1 St1) (D2 : Draws prog w A.in1 i2 fp2 n2 P2 St2)
    (hz : ZipSt s.heap z TI TO) (hTI : IsTupOf2 s.heap TI (.ref i1) (.ref i2)) (st1 : St1 i s.heap) (st2 : St2 i s.heap) (hle1 : i ≤ n1) (hle2 : i ≤ n2) (hend : i = n1 ∨ i = n2)
    (hQ : ∀ h' tk, (∀ c o, c ≠ z → c ≠ TO → c ≠ i1 → c ≠ i2 → s.heap.get? c = some o → h'.get? c = some o) → Q none { s with heap := h', toks := tk }) :
    wpAny (model prog w) A (pyNext (.ref z)) Q E s := by
  rcases hz with ⟨hz, x, y, hTO⟩ | ⟨T, f, oT, hz, hT, nT⟩
  · exact wpAny_pyNext_zipD2_end S D1 D2 hz hTI hTO st1 st2 hle1 hle2 hend hQ
  · have hTy : s.TypeIs (.ref z) "zip" := ⟨_, hz, rfl⟩
    unfold pyNext
    refine wpAny_bind (wpAny_attempt (wpAny_callSpecial?_slot (name := Str.ofString "__next__") hTy F.slot_zip_next
      (wpAny_call_entry F.slot_zip_next hTy F.entry_zip_next (zipH_next_end S D1 D2 hz hT hTI st1 st2 hle1 hle2 hend fun h' tk e hk he => ?_) (F.args_zip_next_1 _))))
    obtain ⟨o, ho, hc⟩ := he
    refine wpAny_bind (wpAny_isInstance (T := "StopIteration") (b := true) ⟨o, ho, hc⟩ isSubtype_stop ?_)
    exact wpAny_pure (hQ _ _ fun c o c1 _ c3 c4 e => hk c o c1 c3 c4 e)
theorem nolen_zip : typeLookup (.type "zip") "__len__" = pure none := by rw [typeLookup_type, builtinLookup_eq_fast]; kernel_rfl
theorem nohint_zip : typeLookup (.type "zip") "__length_hint__" = pure none := by rw [typeLookup_type, builtinLookup_eq_fast]; kernel_rfl
theorem hint_zip {Q : Bool → Shared → Prop} (hT : s.TypeIs (.ref z) "zip") (h : Q true s) : wpAny (model prog w) A (Builtin.List.listLengthHint (.ref z)) Q E s := by
  unfold Builtin.List.listLengthHint
  refine wpAny_bind (wpAny_specialOf hT nolen_zip ?_)
  show wpAny _ A (specialOf (Value.ref z) (Str.ofString "__length_hint__") >>= _) _ _ _
  refine wpAny_bind (wpAny_specialOf hT nohint_zip ?_)
  exact wpAny_pure h
end

def PairsL (H : Hp) (ts : List Addr) (ps : List (V × V)) : Prop := Paired (fun t p => H t = some (.tup [p.1, p.2])) ts ps
theorem PairsL.mono {H G : Hp} {ts : List Addr} {ps : List (V × V)} (h : PairsL H ts ps) (k : ∀ t x y, H t = some (.tup [x, y]) → G t = some (.tup [x, y])) : PairsL G ts ps := Paired.mono (fun _ _ e => k _ _ _ e) h
section
variable {X : Cx} {pins : List (Addr × Obj)} {σ : St} {A A1 : Around}
/-- how the cells of the zip stand -/
structure ZipRun (X : Cx) (pins : List (Addr × Obj)) (H : Hp) (h : Heap) (z TI TO i1 i2 a b : Addr) (i : Nat) : Prop where
  fp : ∀ c ∈ zipFp z TI TO i1 i2, FpOk X pins H c ∧ c < h.objs.size
  zip : ZipSt h z TI TO
  ti : IsTupOf2 h TI (.ref i1) (.ref i2)
  one : h.IsListIter i1 a i
  two : h.IsTupleIter i2 b i
theorem ZipSt.ty {s : Shared} {z TI TO : Addr} (h : ZipSt s.heap z TI TO) : s.TypeIs (.ref z) "zip" := by
  rcases h with ⟨h, _⟩ | ⟨_, _, _, h, _⟩ <;> exact ⟨_, h, rfl⟩
theorem ZipRun.but {H G : Hp} {h h' : Heap} {z TI TO i1 i2 a b q : Addr} {i : Nat} {oq : Obj} (r : ZipRun X pins H h z TI TO i1 i2 a b i) (nq : ∀ c ∈ zipFp z TI TO i1 i2, c ≠ q) (sb : ∀ c o, c ≠ q → h.get? c = some o → h'.get? c = some o) (sz : h.objs.size ≤ h'.objs.size) (lq : h'.get? q = some oq)
    (hG : ∀ c ∈ zipFp z TI TO i1 i2, G c = none) : ZipRun X pins G h' z TI TO i1 i2 a b i := by
  have m : ∀ {c}, (c = z ∨ c = TI ∨ c = TO ∨ c = i1 ∨ c = i2) → c ≠ q := fun e => nq _ (zipFp_mem.mpr e)
  refine ⟨fun c hc => ⟨⟨hG c hc, (r.fp c hc).1.2⟩, Nat.lt_of_lt_of_le (r.fp c hc).2 sz⟩, ?_, sb _ _ (m (.inr (.inl rfl))) r.ti, r.one.at fun o e => sb _ _ (m (.inr (.inr (.inr (.inl rfl))))) e, r.two.at fun o e => sb _ _ (m (.inr (.inr (.inr (.inr rfl))))) e⟩
  rcases r.zip with ⟨hz, x, y, hTO⟩ | ⟨T, f, oT, hz, hT, nT⟩
  · exact .inl ⟨sb _ _ (m (.inl rfl)) hz, x, y, sb _ _ (m (.inr (.inr (.inl rfl)))) hTO⟩
  · by_cases e : T = q
    · subst e
      exact .inr ⟨T, f, _, sb _ _ (m (.inl rfl)) hz, lq, nT⟩
    · exact .inr ⟨T, f, oT, sb _ _ (m (.inl rfl)) hz, sb _ _ e hT, nT⟩
theorem take_snocP {α : Type} {l : List α} {i : Nat} {x : α} (h : l[i]? = some x) : l.take (i + 1) = l.take i ++ [x] := by
  rw [List.take_add_one, h]
  rfl
theorem zip_fill {q z TI TO i1 i2 a b : Addr} {xs ys : List V} {H0 : Hp} {Rs : Result → Shared → Prop} (hh : A1.in1.handled = none) (na : a ≠ i1) (nb : b ≠ i2) (S : ZipSep2 z TI TO i1 i2 [i1, a] [i2, b])
    (qa : H0 a = some (.lst xs)) (qb : H0 b = some (.tup ys)) (aq : a ≠ q) (bq : b ≠ q) (hsz : xs.length < sizeLine)
    (fin : ∀ H2 s2 ts, Inv X pins σ H2 s2 → H2 q = some (.lst (ts.map V.ref)) → PairsL H2 ts (xs.zip ys) → (∀ c o, c ≠ q → H0 c = some o → H2 c = some o) → Rs (.ok (.ret .none)) s2) :
    ∀ (k i : Nat) (H : Hp) (s : Shared) (ts : List Addr), i + k = (xs.zip ys).length → Inv X pins σ H s → ZipRun X pins H s.heap z TI TO i1 i2 a b i → H q = some (.lst (ts.map V.ref)) → PairsL H ts ((xs.zip ys).take i) → (∀ c o, c ≠ q → H0 c = some o → H c = some o) →
      codeAny (model X.prog X.w) A1 (.builtin "list.extend.loop" ⟨[.ref q, .ref z, .none], []⟩) Rs s := by
  intro k
  have zl : (xs.zip ys).length = min xs.length ys.length := List.length_zip
  have hh1 : A1.in1.in1.handled = none := hh
  induction k with
  | zero =>
    intro i H s ts hi I R hq hp hk
    have ei : i = (xs.zip ys).length := hi
    rw [ei, List.take_length] at hp
    refine codeAny_builtin PySem.F.entry_extend_loop ?_
    rw [Around.under_plainId PySem.F.plain_extend_loop _]
    obtain ⟨its, rv, p, _⟩ := I.list (SqL.of (hk _ _ aq qa))
    obtain ⟨its2, rv2, p2, _⟩ := I.tuple (SqT.of (hk _ _ bq qb))
    have l1 : xs.length = its.toArray.size := by rw [rv.length, List.size_toArray]
    have l2 : ys.length = its2.toArray.size := by rw [rv2.length, List.size_toArray]
    have notin : ∀ {c : Addr}, c ∉ zipFp z TI TO i1 i2 → c ≠ z ∧ c ≠ TO ∧ c ≠ i1 ∧ c ≠ i2 := fun n => ⟨fun e => n (zipFp_mem.mpr (.inl e)), fun e => n (zipFp_mem.mpr (.inr (.inr (.inl e)))), fun e => n (zipFp_mem.mpr (.inr (.inr (.inr (.inl e))))), fun e => n (zipFp_mem.mpr (.inr (.inr (.inr (.inr e)))))⟩
    show wpAny _ A1.in1 (pyNext (.ref z) >>= _) _ _ s
    refine wpAny_bind (zipA_end (i := i) S (Draws.list (prog := X.prog) (w := X.w) (A := A1.in1.in1) hh1 i1 a na its.toArray) (Draws.tuple (prog := X.prog) (w := X.w) (A := A1.in1.in1) hh1 i2 b nb its2.toArray) R.zip R.ti ⟨R.one, p.isList⟩ ⟨R.two, p2⟩ (by omega) (by omega) (by omega) fun h' tk hk' => ?_)
    refine wpAny_pure (fin H _ ts (I.turnedL (t' := tk) (ch := zipFp z TI TO i1 i2) (fun c o n e => hk' c o (notin n).1 (notin n).2.1 (notin n).2.2.1 (notin n).2.2.2 e) fun c hc => (R.fp c hc).1) hq hp hk)
  | succ k ih =>
    intro i H s ts hi I R hq hp hk
    have lt : i < (xs.zip ys).length := by omega
    refine codeAny_builtin PySem.F.entry_extend_loop ?_
    rw [Around.under_plainId PySem.F.plain_extend_loop _]
    obtain ⟨its, rv, p, _⟩ := I.list (SqL.of (hk _ _ aq qa))
    obtain ⟨its2, rv2, p2, _⟩ := I.tuple (SqT.of (hk _ _ bq qb))
    have hx := List.getElem?_eq_getElem (l := xs) (i := i) (by omega)
    have hy := List.getElem?_eq_getElem (l := ys) (i := i) (by omega)
    have hxy : (xs.zip ys)[i]? = some (xs[i]'(by omega), ys[i]'(by omega)) := by
      rw [List.getElem?_eq_getElem lt, List.getElem_zip]
    generalize xs[i]'(by omega) = x at hx hxy
    generalize ys[i]'(by omega) = y at hy hxy
    obtain ⟨u, hu, ru⟩ := rv.get hx
    obtain ⟨u2, hu2, ru2⟩ := rv2.get hy
    have lt1 := (List.getElem?_eq_some_iff.mp hu).1
    have lt2 := (List.getElem?_eq_some_iff.mp hu2).1
    have notin : ∀ {c : Addr}, c ∉ zipFp z TI TO i1 i2 → c ≠ z ∧ c ≠ TO ∧ c ≠ i1 ∧ c ≠ i2 := fun n => ⟨fun e => n (zipFp_mem.mpr (.inl e)), fun e => n (zipFp_mem.mpr (.inr (.inr (.inl e)))), fun e => n (zipFp_mem.mpr (.inr (.inr (.inr (.inl e))))), fun e => n (zipFp_mem.mpr (.inr (.inr (.inr (.inr e)))))⟩
    show wpAny _ A1.in1 (pyNext (.ref z) >>= _) _ _ s
    refine wpAny_bind (zipA_item (i := i) S (Draws.list (prog := X.prog) (w := X.w) (A := A1.in1.in1) hh1 i1 a na its.toArray) (Draws.tuple (prog := X.prog) (w := X.w) (A := A1.in1.in1) hh1 i2 b nb its2.toArray) R.zip R.ti ⟨R.one, p.isList⟩ ⟨R.two, p2⟩ (by simpa using lt1) (by simpa using lt2) fun v1 v2 h' tk T f q1 q2 z' hTl nT s1 s2 hT hsz' hk' => ?_)
    have ev1 : v1 = u := by
      have : its[i]? = some v1 := by simpa using q1
      rw [hu] at this
      exact (Option.some.inj this).symm
    have ev2 : v2 = u2 := by
      have : its2[i]? = some v2 := by simpa using q2
      rw [hu2] at this
      exact (Option.some.inj this).symm
    subst ev1 ev2
    have free : H s.heap.objs.size = none := I.hok.fresh (Nat.le_refl _)
    have new : ObjOk X.prog X.w (upd H s.heap.objs.size (.tup [x, y])) h' s.heap.objs.size (.tup [x, y]) :=
      ⟨by show 2 ≤ sizeLine; decide, [v1, v2], .cons ru (.cons ru2 .nil), ⟨_, hT, rfl, _, rfl⟩⟩
    have I1 : Inv X pins σ (upd H s.heap.objs.size (.tup [x, y])) { s with heap := h', toks := tk } :=
      I.turnedNew (t' := tk) (ch := zipFp z TI TO i1 i2) (fun c o n e => hk' c o (notin n).1 (notin n).2.1 (notin n).2.2.1 (notin n).2.2.2 e) (fun c hc => (R.fp c hc).1) (Nat.le_refl _) new
    have qn : q ≠ s.heap.objs.size := ne_of_none hq free
    have hq1 : upd H s.heap.objs.size (.tup [x, y]) q = some (.lst (ts.map V.ref)) := by rw [upd_ne qn]; exact hq
    obtain ⟨_, its3, c3, r3, len3, e3⟩ := I1.lstM hq1
    have lts : ts.length = i := by
      have := Paired.length hp
      rw [List.length_take] at this
      omega
    have l3 : its3.length = i := by rw [← r3.length, List.length_map]; exact lts
    refine wpAny_bind (m := updateSeq q (·.push (Value.ref s.heap.objs.size))) (wpAny_updateSeq (s := { s with heap := h', toks := tk }) e3 rfl ?_ (by rw [List.size_toArray]; omega) (by show (its3.toArray.push _).size ≤ sizeLine + 1; rw [Array.size_push, List.size_toArray]; omega))
    have I2 := I1.lset (f := (·.push (Value.ref s.heap.objs.size))) (its' := its3 ++ [Value.ref s.heap.objs.size]) (ys := ts.map V.ref ++ [V.ref s.heap.objs.size]) (t' := tk) hq1 e3 (by simp) (r3.append (.cons rfl .nil)) (by rw [List.length_append, List.length_singleton, List.length_map]; omega)
    have lq := Heap.get?_update_self (Obj.mapSeq (·.push (Value.ref s.heap.objs.size))) e3 rfl
    have sb := Heap.SameBut.update h' q (Obj.mapSeq (·.push (Value.ref s.heap.objs.size)))
    refine wpAny_pure ⟨plainId_quiet PySem.F.plain_extend_loop _, ih (i + 1) _ _ (ts ++ [s.heap.objs.size]) (by omega) I2 ?_ ?_ ?_ fun c o c1 e => ?_⟩
    · have fpn : ∀ c ∈ zipFp z TI TO i1 i2, c ≠ q ∧ c ≠ s.heap.objs.size := fun c hc => by
        refine ⟨fun e => ?_, Nat.ne_of_lt (R.fp c hc).2⟩
        have h0 := (R.fp c hc).1.1
        rw [e, hq] at h0
        cases h0
      have R1 : ZipRun X pins (upd H s.heap.objs.size (.tup [x, y])) h' z TI TO i1 i2 a b (i + 1) := by
        obtain ⟨oT, hoT⟩ := hTl
        refine ⟨fun c hc => ⟨⟨by rw [upd_ne (fpn c hc).2]; exact (R.fp c hc).1.1, (R.fp c hc).1.2⟩, by rw [hsz']; exact Nat.lt_succ_of_lt (R.fp c hc).2⟩, .inr ⟨T, f, oT, z', hoT, nT⟩, hk' _ _ S.TIz S.TITO S.TIi1 S.TIi2 R.ti, s1.1, s2.1⟩
      refine R1.but (fun c hc => (fpn c hc).1) (fun c o n e => sb.extBut c o n e) (Nat.le_of_eq sb.1.symm) lq fun c hc => ?_
      rw [upd_ne (fpn c hc).1, upd_ne (fpn c hc).2]
      exact (R.fp c hc).1.1
    · rw [upd_same, List.map_append]
      rfl
    · rw [take_snocP hxy]
      have tq : ∀ {t : Addr} {o : List V}, H t = some (.tup o) → t ≠ q := fun e z => by
        rw [z, hq] at e
        cases e
      refine Paired.snoc (hp.mono fun t x y e => ?_) ?_
      · rw [upd_ne (tq e), upd_ne (ne_of_none e free)]
        exact e
      · rw [upd_ne (Ne.symm qn), upd_same]
    · have := hk _ _ c1 e
      rw [upd_ne c1, upd_ne (ne_of_none this free)]
      exact this
/-- room is made in an empty list -/
theorem touch_ownH {s : Shared} {H : Hp} {q : Addr} {E' : Value → Shared → Prop} {Q : Unit → Shared → Prop} (I : Inv X pins σ H s) (hq : H q = some (.lst [])) (h : ∀ h2 tk, Inv X pins σ H { s with heap := h2, toks := tk } → Heap.SameBut q s.heap h2 → Q () { s with heap := h2, toks := tk }) :
    wpAny (model X.prog X.w) A (updateSeq q (·.push .none) >>= fun _ => updateSeq q (·.pop)) Q E' s := by
  obtain ⟨_, its, c, r, _, e⟩ := I.lstM hq
  cases r
  have one : 1 ≤ sizeLine := by rw [sizeLine_eq]; decide
  have I1 := I.lset (f := (·.push Value.none)) (its' := [Value.none]) (ys := [.non]) (t' := s.toks) hq e (by simp) (.cons rfl .nil) one
  refine wpAny_bind (wpAny_updateSeq e rfl ?_)
  obtain ⟨_, its2, c2, r2, _, e2⟩ := I1.lstM upd_same
  obtain ⟨v, rfl, _⟩ := vals1 r2
  have I2 := I1.lset (f := (·.pop)) (its := [v]) (its' := []) (ys := []) (t' := s.toks) upd_same e2 (by rfl) .nil (Nat.zero_le _)
  have us : upd H q (.lst []) = H := by
    funext b
    by_cases e : b = q
    · rw [e, upd_same, hq]
    · rw [upd_ne e]
  rw [upd_upd, us] at I2
  have b1 := Heap.SameBut.update s.heap q (Obj.mapSeq (·.push Value.none))
  have b2 := Heap.SameBut.update (s.heap.update q (Obj.mapSeq (·.push Value.none))) q (Obj.mapSeq (·.pop))
  exact wpAny_updateSeq e2 rfl (h _ _ I2 ⟨b2.1.trans b1.1, fun b n => (b2.2 b n).trans (b1.2 b n)⟩) one (Nat.zero_le _)
theorem call_listZ {s : Shared} {H : Hp} {z TI TO i1 i2 a b : Addr} {xs ys : List V} {Q : VK} (hh : X.A.handled = none) (na : a ≠ i1) (nb : b ≠ i2) (S : ZipSep2 z TI TO i1 i2 [i1, a] [i2, b]) (I : Inv X pins σ H s) (R : ZipRun X pins H s.heap z TI TO i1 i2 a b 0) (hz : IsZip s.heap z TI TO .none)
    (qa : H a = some (.lst xs)) (qb : H b = some (.tup ys)) (hsz : xs.length < sizeLine)
    (h : ∀ G q ts, Same H G → H q = none → G q = some (.lst (ts.map V.ref)) → PairsL G ts (xs.zip ys) → Q (.ref q) G) :
    wpAny (model X.prog X.w) X.A (call (.type "list") [.ref z]) (EP X pins σ Q) X.xe s := by
  refine callType_codes (Q₁ := fun o s1 => o = .ref s.heap.objs.size ∧ s1 = { s with heap := s.heap.push { cls := .type "list", data := .seq #[] } }) PySem.F.called_list (PySem.F.typeCall_list_1 _) PySem.F.entry_list_init (code_list_new _ ⟨rfl, rfl⟩) fun o s1 h1 => ?_
  obtain ⟨rfl, rfl⟩ := h1
  have there : (s.heap.push { cls := .type "list", data := .seq #[] }).get? s.heap.objs.size = some { cls := .type "list", data := .seq #[] } := Heap.get?_push_size _ rfl
  refine ⟨⟨_, there, rfl⟩, PySem.F.args_list_init_2 _ _, ?_⟩
  have nq : H s.heap.objs.size = none := I.hok.fresh (Nat.le_refl _)
  have old : ∀ b o, H b = some o → upd H s.heap.objs.size (.lst []) b = some o := same_new nq
  have nz : ∀ c ∈ zipFp z TI TO i1 i2, c ≠ s.heap.objs.size := fun c hc => Nat.ne_of_lt (R.fp c hc).2
  show wpAny _ _ (Builtin.List.listItems (.ref s.heap.objs.size) >>= fun zz => updateSeq s.heap.objs.size (fun _ => #[]) >>= fun _ => letGo zz.toList.reverse >>= fun _ => Builtin.List.listExtendWith (.ref s.heap.objs.size) (.ref z) .none) _ _ _
  refine wpAny_bind (m := Builtin.List.listItems _) ?_
  have I1 : Inv X pins σ (upd H s.heap.objs.size (.lst [])) { s with heap := s.heap.push { cls := .type "list", data := .seq #[] } } := I.lnew (its := []) (t' := s.toks) .nil (Nat.zero_le _)
  have hG : ∀ c ∈ zipFp z TI TO i1 i2, upd H s.heap.objs.size (.lst []) c = none := fun c hc => by
    rw [upd_ne (nz c hc)]
    exact (R.fp c hc).1.1
  have R1 : ZipRun X pins (upd H s.heap.objs.size (.lst [])) (s.heap.push { cls := .type "list", data := .seq #[] }) z TI TO i1 i2 a b 0 :=
    R.but nz (fun c o _ e => Heap.get?_push_of_some _ e) (by rw [Heap.size_push]; omega) there hG
  unfold Builtin.List.listItems
  refine wpAny_bind (wpAny_seqItems there rfl (wpAny_pure (wpAny_bind (wpAny_updateSeq there rfl (wpAny_bind (wpAny_letGo ?_))))))
  have I2 := I1.lset (f := fun _ => #[]) (its := []) (its' := []) (ys := []) (t' := s.toks) upd_same there rfl .nil (Nat.zero_le _)
  rw [upd_upd] at I2
  have lq := Heap.get?_update_self (Obj.mapSeq (fun _ => #[])) there rfl
  have sb := Heap.SameBut.update (s.heap.push { cls := .type "list", data := .seq #[] }) s.heap.objs.size (Obj.mapSeq (fun _ => #[]))
  have R2 := R1.but nz (fun c o n e => sb.extBut c o n e) (Nat.le_of_eq sb.1.symm) lq hG
  have hz0 := sb.extBut _ _ (nz z (zipFp_mem.mpr (.inl rfl))) (Heap.get?_push_of_some { cls := .type "list", data := .seq #[] } hz)
  generalize (s.heap.push { cls := .type "list", data := .seq #[] }).update s.heap.objs.size (Obj.mapSeq (fun _ => #[])) = h2 at I2 R2 hz0
  generalize hQ : s.heap.objs.size = q at *
  have qz : q ≠ z := Ne.symm (nz z (zipFp_mem.mpr (.inl rfl)))
  unfold Builtin.List.listExtendWith
  refine wpAny_bind (wpAny_typeOf (T := "zip") (R2.zip.ty (s := { s with heap := h2 })) ?_)
  have g1 : Builtin.List.listSameRef (.ref q) (.ref z) = false := by simp [Builtin.List.listSameRef, qz]
  have g2 : (Value.type "zip" == Value.type "list" || Value.type "zip" == Value.type "tuple") = false := by decide
  refine PySem.W.KFB.if_not (by rw [g1]; exact g2) ?_
  refine wpAny_bind (wpAny_pyIter_zip hz0 ?_)
  refine wpAny_bind (wpAny_holding (hint_zip (R2.zip.ty (s := { s with heap := h2 })) ?_))
  refine wpAny_ite_split (fun _ => ?_) (fun zz => absurd rfl zz)
  refine wpAny_bind (wpAny_rule ?_)
  refine wpAny_bind (touch_ownH I2 upd_same fun h3 tk I3 sb3 => ?_)
  obtain ⟨_, _, _, _, _, e9⟩ := I3.lstM upd_same
  have R3 := R2.but nz (fun c o n e => sb3.extBut c o n e) (Nat.le_of_eq sb3.1.symm) e9 hG
  have aq : a ≠ q := ne_of_none qa nq
  have bq : b ≠ q := ne_of_none qb nq
  refine wpAny_pure ⟨plainId_quiet PySem.F.plain_extend_loop _, zip_fill (A1 := X.A.in1) (H0 := H) (Rs := wants (fun r s2 => r = .none ∧ EP X pins σ Q (.ref q) s2) X.xe) hh na nb S qa qb aq bq hsz (fun G s4 ts I4 hq4 hp4 hk4 => ?_) (xs.zip ys).length 0 _ _ [] (Nat.zero_add _) I3 R3 upd_same .nil fun c o _ e => old c o e⟩
  exact ⟨rfl, .ref q, G, I4, rfl, h G q ts (fun c o e => hk4 c o (ne_of_none e nq) e) nq hq4 hp4⟩
def tListZip (ta : TA) : TE := fun σ H Q => ta σ H fun vs H1 => ∃ a b xs ys, vs = [.ref a, .ref b] ∧ H1 a = some (.lst xs) ∧ H1 b = some (.tup ys) ∧ xs.length < sizeLine ∧ ∀ G q ts, Same H1 G → H1 q = none → G q = some (.lst (ts.map V.ref)) → PairsL G ts (xs.zip ys) → Q (.ref q) G
/-- list(zip(a list, a tuple)) -/
theorem pe_listZip {e e2 : Expr} {ta : TA} {p p2 pos pos2 : Pos} (hc : X.calm = true) (hgl : Gl X "list") (hml : X.mg "list" = none) (hg : Gl X "zip") (hm : X.mg "zip" = none) (ha : PA X [e, e2] ta)
    (hs : starEach [e, e2] X.env = (false, eval e X.env) :: starEach [e2] X.env := by rfl) (hpl : (backTo pos2 (starEach [e2] X.env)).any (·.1) = false := by rfl)
    (hst : starEach [.Call (.Name "zip" p2) [e, e2] [] pos2] X.env = (false, eval (.Call (.Name "zip" p2) [e, e2] [] pos2) X.env) :: starEach [] X.env := by rfl) :
    PE X (.Call (.Name "list" p) [.Call (.Name "zip" p2) [e, e2] [] pos2] [] pos) (tListZip ta) := by
  refine ⟨fun pins s σ H Q I h => ?_⟩
  refine wpAny_Call_Name_kw (ld_blt I hgl hml boot_list ?_)
  refine PyProof.Rows.callWith_type1 ?_ hst rfl
  rw [hst]
  show wpAny _ _ (spliced ((false, eval (.Call (.Name "zip" p2) [e, e2] [] pos2) X.env) :: backTo pos (starEach [] X.env))) _ _ s
  refine Calls.spliced_cons ?_
  refine Call_ (ld_blt I hg hm PyProof.Rows.boot_zip (PyProof.Rows.callWith_type1 (thn (ha.run pos2 pins s σ H _ I h) fun us s1 ⟨vs, H1, I1, r1, q1⟩ => ?_) hs hpl))
  obtain ⟨a, b, xs, ys, rfl, hqx, hqy, hsz, q⟩ := q1
  cases r1 with
  | cons ra rr =>
    cases rr with
    | cons rb rr =>
      cases rr
      cases ra
      cases rb
      obtain ⟨its, rv, p1, _⟩ := I1.list (SqL.of hqx)
      obtain ⟨its2, rv2, p2, _⟩ := I1.tuple (SqT.of hqy)
      obtain ⟨o2, ho2, _⟩ := id p2
      have la : a < s1.heap.objs.size := p1.lt
      have lb : b < s1.heap.objs.size := Heap.lt_size ho2
      refine zip_begins2 (begins_list a its.toArray) (begins_tuple b its2.toArray) p1.isList p2 fun h' hz hTI hTO h1 h2 hsz' hk => Calls.spliced_nil ?_
      have I2 : Inv X pins σ H1 { s1 with heap := h' } := I1.kept (t' := s1.toks) hk
      have S : ZipSep2 (s1.heap.objs.size + 4) (s1.heap.objs.size + 2) (s1.heap.objs.size + 3) s1.heap.objs.size (s1.heap.objs.size + 1) [s1.heap.objs.size, a] [s1.heap.objs.size + 1, b] := zip_sep2 (fp1 := [a]) (fp2 := [b]) (fun c e => by rw [List.mem_singleton.mp e]; exact la) (fun c e => by rw [List.mem_singleton.mp e]; exact lb)
      refine call_listZ (s := { s1 with heap := h' }) (I1.ok.hd hc) (Nat.ne_of_lt la) (Nat.ne_of_lt (Nat.lt_succ_of_lt lb)) S I2 ⟨fun c hm2 => ?_, .inl ⟨hz, _, _, hTO⟩, hTI, ⟨_, h1, rfl, rfl⟩, ⟨_, h2, rfl, rfl⟩⟩ hz hqx hqy hsz q
      have up : s1.heap.objs.size ≤ c ∧ ∃ o, h'.get? c = some o := by
        rcases zipFp_mem.mp hm2 with e | e | e | e | e <;> rw [e]
        · exact ⟨Nat.le_add_right _ _, _, hz⟩
        · exact ⟨Nat.le_add_right _ _, _, hTI⟩
        · exact ⟨Nat.le_add_right _ _, _, hTO⟩
        · exact ⟨Nat.le_refl _, _, h1⟩
        · exact ⟨Nat.le_succ _, _, h2⟩
      obtain ⟨u1, o, u2⟩ := up
      exact ⟨I1.fpOk u1 (I1.hok.fresh u1), Heap.lt_size u2⟩
end
end L2

set_option Elab.async false
set_option linter.all false
set_option maxRecDepth 100000
set_option maxHeartbeats 4000000
/-! dict(zip(a list of keys, a list)). -/
namespace L2
open PySem PySem.Spec PyProof.Rows
section
variable {X : Cx}
theorem kv_zip (P : Program) (w0 : World) : ∀ {ks : List Key} {ys : List V} {us ws : List Value}, Vals (ks.map kV) us → Vals ys ws → ks.length = ys.length →
    KV (ks.zip ys) (ks.zip ws) ∧ ∀ (i : Nat) (key v : Value), us[i]? = some key → ws[i]? = some v → ∃ k, (ks.zip ws)[i]? = some (k, v) ∧ keyIs k key = true
  | [], [], _, _, .nil, .nil, _ => ⟨.nil, fun i key v h => by simp at h⟩
  | [], _ :: _, _, _, _, _, h => by cases h
  | _ :: _, [], _, _, _, _, h => by cases h
  | k :: ks, y :: ys, _, _, .cons ru tu, .cons rw tw, h => by
    obtain ⟨h1, h2⟩ := kv_zip P w0 tu tw (Nat.succ.inj h)
    refine ⟨.cons ⟨rfl, rw⟩ h1, fun i key v e1 e2 => ?_⟩
    cases i with
    | zero =>
      have e1 := Option.some.inj e1
      have e2 := Option.some.inj e2
      subst e1 e2
      exact ⟨k, rfl, kV_is (P := P) (w := w0) ru⟩
    | succ i =>
      obtain ⟨k', a, b⟩ := h2 i key v (by simpa using e1) (by simpa using e2)
      exact ⟨k', by simpa using a, b⟩
def tDictZip (ta : TA) : TE := fun σ H Q => ta σ H fun vs H1 => ∃ (a b : Addr) (ks : List Key) (ys : List V), vs = [.ref a, .ref b] ∧ H1 a = some (.lst (ks.map kV)) ∧ H1 b = some (.lst ys) ∧ ks.length = ys.length ∧ ∀ p, H1 p = none → Q (.ref p) (upd H1 p (.dK (mergeK [] (ks.zip ys))))
/-- dict(zip(a list of keys, a list)) -/
theorem pe_dictZip {e e2 : Expr} {ta : TA} {p p2 pos pos2 : Pos} (hc : X.calm = true) (hgl : Gl X "dict") (hml : X.mg "dict" = none) (hg : Gl X "zip") (hm : X.mg "zip" = none) (ha : PA X [e, e2] ta)
    (hb : bootBuiltins "dict" = some (.type "dict") := by decide +kernel)
    (hs : starEach [e, e2] X.env = (false, eval e X.env) :: starEach [e2] X.env := by rfl) (hpl : (backTo pos2 (starEach [e2] X.env)).any (·.1) = false := by rfl)
    (hst : starEach [.Call (.Name "zip" p2) [e, e2] [] pos2] X.env = (false, eval (.Call (.Name "zip" p2) [e, e2] [] pos2) X.env) :: starEach [] X.env := by rfl) :
    PE X (.Call (.Name "dict" p) [.Call (.Name "zip" p2) [e, e2] [] pos2] [] pos) (tDictZip ta) := by
  refine ⟨fun pins s σ H Q I h => ?_⟩
  refine wpAny_Call_Name_kw (ld_blt I hgl hml hb ?_)
  refine PyProof.Rows.callWith_type1 ?_ hst rfl
  rw [hst]
  show wpAny _ _ (spliced ((false, eval (.Call (.Name "zip" p2) [e, e2] [] pos2) X.env) :: backTo pos (starEach [] X.env))) _ _ s
  refine Calls.spliced_cons ?_
  refine Call_ (ld_blt I hg hm PyProof.Rows.boot_zip (PyProof.Rows.callWith_type1 (thn (ha.run pos2 pins s σ H _ I h) fun us s1 ⟨vs, H1, I1, r1, q1⟩ => ?_) hs hpl))
  obtain ⟨a, b, ks, ys, rfl, hqx, hqy, hsz, q⟩ := q1
  cases r1 with
  | cons ra rr =>
    cases rr with
    | cons rb rr =>
      cases rr
      cases ra
      cases rb
      obtain ⟨its, rv, p1, l1⟩ := I1.list (SqL.of hqx)
      obtain ⟨its2, rv2, p2, l2⟩ := I1.list (SqL.of hqy)
      have la : a < s1.heap.objs.size := p1.lt
      have lb : b < s1.heap.objs.size := p2.lt
      refine zip_begins2 (begins_list a its.toArray) (begins_list b its2.toArray) p1.isList p2.isList fun h' hz hTI hTO h1 h2 hsz' hk => Calls.spliced_nil ?_
      obtain ⟨kv, kis⟩ := kv_zip X.prog X.w rv rv2 hsz
      have e1 : its.length = ks.length := by
        have := rv.length
        rw [List.length_map] at this
        exact this.symm
      have e2 : its2.length = ys.length := rv2.length.symm
      have len : (ks.zip its2).length = min its.toArray.size its2.toArray.size := by
        rw [List.length_zip]
        simp [e1]
      have hD : ZipApart (s1.heap.objs.size + 4) (s1.heap.objs.size + 2) (s1.heap.objs.size + 3) s1.heap.objs.size (s1.heap.objs.size + 1) a b := by
        have la' : @LT.lt Nat _ a s1.heap.objs.size := la
        have lb' : @LT.lt Nat _ b s1.heap.objs.size := lb
        constructor <;> (refine fun e => ?_; have e' : @Eq Nat _ _ := e; omega)
      refine PySem.call_dict_pairs (knd := mixKind X.prog X.w) (kvs := ks.zip its2) (PairArg.zip (s1.heap.objs.size + 4) (s1.heap.objs.size + 2) (s1.heap.objs.size + 3) s1.heap.objs.size (s1.heap.objs.size + 1) a b hD its.toArray its2.toArray) (I1.ok.hd hc) ⟨hz, hTI, ⟨_, _, hTO⟩, ⟨_, h1, rfl, rfl⟩, ⟨_, h2, rfl, rfl⟩, p1.isList.at fun o e => hk _ _ e, p2.isList.at fun o e => hk _ _ e⟩ ⟨len, fun i key v r => kis i key v (by simpa using r.1) (by simpa using r.2)⟩ ?_ fun h2' tk hd' hk2 => ?_
      · rw [← len, List.length_zip, e2]
        omega
      · have old : ∀ b o, s1.heap.get? b = some o → h2'.get? b = some o := fun c o ec => by
          have lc : @LT.lt Nat _ c s1.heap.objs.size := Heap.lt_size ec
          refine hk2 c o (fun m => ?_) (hk _ _ ec)
          simp only [List.mem_cons, List.not_mem_nil, or_false] at m
          rcases m with m | m | m | m <;> (have m' : @Eq Nat _ _ := m; omega)
        have big : s1.heap.objs.size ≤ h'.objs.size := by omega
        have hmm : (h'.objs.size == sysModules) = false := beq_eq_false_iff_ne.mpr (by
          have : @LT.lt Nat _ sysModules s1.heap.objs.size := I1.big
          refine fun e => ?_
          have e' : @Eq Nat _ _ := e
          omega)
        have hlen : (mergeK [] (ks.zip ys)).length ≤ sizeLine := by
          refine Nat.le_trans (length_mergeK (ks.zip ys) []) ?_
          rw [List.length_nil, Nat.zero_add, List.length_zip]
          omega
        have J := I1.laid (t' := tk) (a := h'.objs.size) (o := .dK (mergeK [] (ks.zip ys))) old big (show ObjOk X.prog X.w _ _ _ (.dK (mergeK [] (ks.zip ys))) from ⟨hlen, hmm, merged [] (ks.zip its2), KV.merge kv .nil, hd'⟩)
        exact ⟨.ref h'.objs.size, upd H1 h'.objs.size (.dK (mergeK [] (ks.zip ys))), J, rfl, q _ (I1.hok.fresh big)⟩
end
end L2

set_option Elab.async false
set_option linter.all false
set_option maxRecDepth 100000
set_option maxHeartbeats 4000000
namespace K09
open PySem PySem.Spec PyProof.Rows L2
section
variable {P : Program} {w : World} {K : PySem.W.Frag} {mg : Str → Option Value} {base : Heap} {C CR CB : Addr}
def spLaw (K : PySem.W.Frag) : Sp := fun vs H Q _ => ∃ (a : Addr) (ns : List Int), vs = [.ref a] ∧ SqL K H a (ns.map V.int) ∧ ns.length ≤ 63 ∧ ∀ H', Q (.bl true) H'
abbrev lawN : List Str := ["_law_script", "_law_names", "_law_k", "_law_pool", "_law_plan_here", "_law_later", "_law_names_of", "_law_one", "_law_two", "_law_members", "_law_pair", "_law_rule", "_law_step", "_law_parts", "_law_part", "_law_due", "_law_wrong", "_law_found"]
def names6 : List Str := ["turn", "reads", "gather", "trim", "lists", "prizes"]
def menu4 : List Str := ["plain", "plain", "centred", "placed"]
theorem ok_law {fA fO fD fP fLp fM fCh fW fL fEq : Addr} {fd dO dD dP dLp dM dCh dW dL dEq : FuncData} {ds : List Value} (F : Fun K "law" "law" sLaw fA fd)
    (GO : FnOk P w K mg base CX0 1 fO dO ["_law_script", "_law_k"] (spOpened K)) (kO : PySem.W.keepIn K (.ref fO) = true) (bO : Binds K dO ["_law_script", "_law_k"] []) (gO : mg "_law_opened" = some (.ref fO))
    (GD : FnOk P w K mg base CX0 1 fD dD ["_law_pool", "_law_many"] spDraw) (kD : PySem.W.keepIn K (.ref fD) = true) (bD : Binds K dD ["_law_pool", "_law_many"] []) (gD : mg "_law_draw" = some (.ref fD))
    (GP : FnOk P w K mg base CX0 3 fP dP ["_law_pool", "_law_least", "_law_many", "_law_top", "_law_menu"] spPlan) (kP : PySem.W.keepIn K (.ref fP) = true) (bP : Binds K dP ["_law_pool", "_law_least", "_law_many", "_law_top", "_law_menu"] []) (gP : mg "_law_plan" = some (.ref fP))
    (GLp : FnOk P w K mg base CX0 1 fLp dLp ["_law_people_here"] (spLawPairs K)) (kLp : PySem.W.keepIn K (.ref fLp) = true) (bLp : Binds K dLp ["_law_people_here"] []) (gLp : mg "_law_pairs" = some (.ref fLp))
    (GM : FnOk P w K mg base CX0 6 fM dM ["_law_plan_here"] (spMadeA C CR)) (kM : PySem.W.keepIn K (.ref fM) = true) (bM : Binds K dM ["_law_plan_here"] []) (gM : mg "_law_made" = some (.ref fM))
    (clR : Cls K CR) (mCh : Meth K CR "changed" fCh) (GCh : FnOk P w K mg base (L2.CX P w) 6 fCh dCh chPs (spChanged K C CR CB)) (bCh : Binds K dCh chPs ds) (vCh : Vals (chKws.map (·.2)) ds)
    (GW : FnOk P w K mg base CX0 2 fW dW ["_law_plan_here"] spFirstWrong) (kW : PySem.W.keepIn K (.ref fW) = true) (bW : Binds K dW ["_law_plan_here"] []) (gW : mg "_law_first_wrong" = some (.ref fW))
    (GL : FnOk P w K mg base CX0 7 fL dL ["_law_rule", "_law_parts"] (spChangedA C CR)) (kL : PySem.W.keepIn K (.ref fL) = true) (bL : Binds K dL ["_law_rule", "_law_parts"] []) (gL : mg "_law_changed" = some (.ref fL))
    (hsEq : PySem.W.findIn K (.ref CR) "__eq__" = some (some (.ref fEq))) (hnEq : PySem.W.findIn K (.ref CR) "__ne__" = some (some (.builtin "object.__ne__"))) (hmO : PySem.W.mroIn K CR (.type "object") = some true) (hfEq : PySem.W.isFn K (.ref fEq) = true)
    (GEq : FnOk P w K mg base CX0 6 fEq dEq ["self", "other"] (spRuleEq C CR)) (bEq : Binds K dEq ["self", "other"] [])
    (zd : mg "dict" = none) (zz : mg "zip" = none) (B : Bt mg) : FnOk P w K mg base CX0 8 fA fd ["_law_script"] (spLaw K) := by
  refine F.ok scLaw (fun vs H Q E h => ?_) (fun cdv A outer s H vs Q E hr h => ?_)
  · obtain ⟨a, ns, rfl, _⟩ := h
    rfl
  · obtain ⟨a, ns, rfl, hS, hlen, q⟩ := h
    have hu65 : (A.deeper (envOfC "law" (defScope sLaw) s.heap.objs.size fA cdv)).units + 65 < cLine := by
      have := hr.un
      omega
    have hu1 : (A.deeper (envOfC "law" (defScope sLaw) s.heap.objs.size fA cdv)).units + 1 < cLine := by omega
    have hu64 : (A.deeper (envOfC "law" (defScope sLaw) s.heap.objs.size fA cdv)).units + 64 < cLine := by omega
    refine ⟨_, pss_cons (ps_set (i := 1) scLaw.nd rfl (.inl rfl) (pe_lst (pa_cons pe_str (pa_cons pe_str (pa_cons pe_str (pa_cons pe_str (pa_cons pe_str (pa_cons pe_str pa_nil))))))))
      (pss_cons (ps_for PassesOwn.never rfl (pi_range1 (by rfl) B.range (pa_cons (pe_callB (call_max2 rfl) (by rfl) B.max (by decide +kernel) (pa_cons pe_int (pa_cons (pe_callB (call_min2 rfl) (by rfl) B.min (by decide +kernel) (pa_cons (pe_callB call_len_seq (by rfl) B.len PySem.boot_len (pa_cons (pv 0) pa_nil)) (pa_cons pe_int pa_nil))) pa_nil))) pa_nil)) (pg_name (i := 2) scLaw.nd rfl (.inl rfl))
        (pss_cons (ps_set (i := 3) scLaw.nd rfl (.inr rfl) (pe_call GO (hr.mono (by decide)) (by rfl) gO kO bO .nil pass0 (pa_cons (pv 0) (pa_cons (pv 2) pa_nil))))
        (pss_cons (ps_set (i := 4) scLaw.nd rfl (.inr rfl) (pe_call GP (hr.mono (by decide)) (by rfl) gP kP bP .nil pass0 (pa_cons (pv 3) (pa_cons pe_int (pa_cons pe_int (pa_cons pe_int (pa_cons (pe_lst (pa_cons pe_str (pa_cons pe_str (pa_cons pe_str (pa_cons pe_str pa_nil))))) pa_nil)))))))
        (pss_cons (ps_set (i := 5) scLaw.nd rfl (.inr rfl) (pe_call GP (hr.mono (by decide)) (by rfl) gP kP bP .nil pass0 (pa_cons (pv 3) (pa_cons (pe_callB call_len_seq (by rfl) B.len PySem.boot_len (pa_cons (pe_dget (by exact hu1) (pv 4) pe_str (fun _ _ => rfl)) pa_nil)) (pa_cons (pe_callB call_len_seq (by rfl) B.len PySem.boot_len (pa_cons (pe_dget (by exact hu1) (pv 4) pe_str (fun _ _ => rfl)) pa_nil)) (pa_cons pe_int (pa_cons (pe_lst (pa_cons pe_str (pa_cons pe_str (pa_cons pe_str (pa_cons pe_str pa_nil))))) pa_nil)))))))
        (pss_cons (ps_set (i := 6) scLaw.nd rfl (.inr rfl) (pe_dictZip rfl (by rfl) zd (by rfl) zz (pa_cons (pe_dget (by exact hu1) (pv 5) pe_str (fun _ _ => rfl)) (pa_cons (pe_dget (by exact hu1) (pv 4) pe_str (fun _ _ => rfl)) pa_nil))))
        (C8.pss_cut (ps_asg (by
            refine' pe_lc (own := [("_law_one", 7), ("_law_two", 8)]) (g := gTup K 2 (gCons (gName 7) (gCons (gName 8) gNil))) (by rfl) scLaw.nd ?k1 (blkOk_by (own := [("_law_one", 7), ("_law_two", 8)]) (N := lawN) (sc := defScope sLaw) (by decide +kernel)) (fun _ _ _ _ _ => by exact pg_tup rfl (pgs_cons (pg_name (i := 7) scLaw.nd rfl (.inl rfl)) (pgs_cons (pg_name (i := 8) scLaw.nd rfl (.inl rfl)) pgs_nil))) (fun _ _ _ _ _ => pts_nil) ?k2
            (case k1 => exact pi_list (pe_dget (by exact hu1) (pv 5) pe_str (fun _ _ => rfl)))
            (case k2 => intro _ _ _ _ _; exact pe_tup (pa_cons (pe_dget (by exact hu1) (pv 6) (pv 7) (fun _ _ => rfl)) (pa_cons (pe_dget (by exact hu1) (pv 6) (pv 8) (fun _ _ => rfl)) pa_nil)))) (pg_sub (pv 5) pe_str (set_dict hu1)))
        (C8.pss_cut (ps_asg (by
            refine' pe_lc (own := [("_law_members", 9)]) (g := gName 9) (by rfl) scLaw.nd ?l1 (blkOk_by (own := [("_law_members", 9)]) (N := lawN) (sc := defScope sLaw) (by decide +kernel)) (fun _ _ _ _ _ => pg_name (i := 9) scLaw.nd rfl (Or.inl rfl)) (fun _ _ _ _ _ => pts_nil) ?l2
            (case l1 => exact pi_seq (pe_dget (by exact hu1) (pv 5) pe_str (fun _ _ => rfl)))
            (case l2 =>
              intro _ _ _ _ _
              refine' pe_lc (own := [("_law_one", 7)]) (wi := iSeq K (tVar 9)) (g := gName 7) (by rfl) scLaw.nd ?l3 (blkOk_by (own := [("_law_one", 7)]) (N := lawN) (by kernel_rfl)) ?l4 ?l5 ?l6
              (case l3 => exact pi_seq (pv 9))
              (case l4 => intro _ _ _ _ _; exact pg_name (i := 7) scLaw.nd rfl (Or.inl rfl))
              (case l5 => intro _ _ _ _ _; exact pts_nil)
              (case l6 => intro _ _ _ _ _; exact pe_dget (by exact hu1) (pv 6) (pv 7) (fun _ _ => rfl)))) (pg_sub (pv 5) pe_str (set_dict hu1)))
        (C8.pss_cut (ps_asg (by
            refine' pe_lc (own := [("_law_pair", 10)]) (g := gName 10) (by rfl) scLaw.nd ?m1 (blkOk_by (own := [("_law_pair", 10)]) (N := lawN) (sc := defScope sLaw) (by decide +kernel)) (fun _ _ _ _ _ => pg_name (i := 10) scLaw.nd rfl (Or.inl rfl)) ?m2 (fun _ _ _ _ _ => by exact pv 10)
            (case m1 => exact pi_seq (pe_call GLp (hr.mono (by decide)) (by rfl) gLp kLp bLp .nil pass0 (pa_cons (pe_dget (by exact hu1) (pv 4) pe_str (fun _ _ => rfl)) pa_nil)))
            (case m2 => intro _ _ _ _ _; exact pts_one (pt_cmpR (r := rInD K) (op_inD (by exact hu65)) (pv 10) (pe_dget (by exact hu1) (pv 5) pe_str (fun _ _ => rfl)) (by rfl)))) (pg_sub (pv 5) pe_str (set_dict hu1)))
        (pss_cons (ps_set (i := 11) scLaw.nd rfl (.inl rfl) (pe_call GM (hr.mono (by decide)) (by rfl) gM kM bM .nil pass0 (pa_cons (pv 4) pa_nil)))
        (pss_cons (ps_if (pt_cmpR (op_neOwn (E := fun _ _ _ => False) hsEq hnEq hmO hfEq GEq (hr.mono (by decide)) bEq pass0) (pe_meth0 (E := fun _ _ _ => False) (pv 11) clR mCh GCh (hr.mono (by decide)) bCh vCh (passes_call LamX.takes0 fun _ _ _ _ z => z)) (pv 11) (nomark _)) (pss_one (ps_ret pe_bl)) pss_nil)
        (C8.pss_cut (ps_for PassesOwn.never rfl (pi_range1 (by rfl) B.range (pa_cons pe_int pa_nil)) (pg_name (i := 12) scLaw.nd rfl (.inl rfl))
          (pss_cons (ps_set (i := 13) scLaw.nd rfl (.inr rfl) (pe_callTy (call_dictP rfl) (by rfl) zd (by decide +kernel) (pa_cons (by
              refine' pe_lc (own := [("_law_part", 14)]) (g := gName 14) (by rfl) scLaw.nd ?n1 (blkOk_by (own := [("_law_part", 14)]) (N := lawN) (sc := defScope sLaw) (by decide +kernel)) (fun _ _ _ _ _ => pg_name (i := 14) scLaw.nd rfl (Or.inl rfl)) ?n2 ?n3
              (case n1 => exact pi_list (pv 1))
              (case n2 => intro _ _ _ _ _; exact pts_one (pt_cmpR op_eq (pe_call GD (Room.mono (by exact hr) (by decide)) (by rfl) gD kD bD .nil pass0 (pa_cons (pv 3) (pa_cons pe_int pa_nil))) pe_int (nomark _)))
              (case n3 => intro _ _ _ _ _; exact pe_tup (pa_cons (pv 14) (pa_cons (pe_dget (by exact hu1) (pv 5) (pv 14) (fun _ _ => rfl)) pa_nil)))) pa_nil)))
          (pss_cons (ps_set (i := 15) scLaw.nd rfl (.inl rfl) (pe_callTy (call_dictP rfl) (by rfl) zd (by decide +kernel) (pa_cons (pe_lock (pe_lc (own := [("_law_part", 14)]) (g := gName 14) (by rfl) scLaw.nd (pi_keys (pv 4)) (blkOk_by (own := [("_law_part", 14)]) (N := lawN) (sc := defScope sLaw) (by decide +kernel))
              (fun _ _ _ _ _ => pg_name (i := 14) scLaw.nd rfl (Or.inl rfl)) (fun _ _ _ _ _ => pts_nil) (fun _ _ _ _ _ => by exact pe_tup (pa_cons (pv 14) (pa_cons (pe_dget2 (by exact hu1) (pv 13) (pv 14) (pe_dget (by exact hu1) (pv 4) (pv 14) (fun _ _ => rfl)) ⟨rfl, rfl, rfl, rfl⟩) pa_nil))))) pa_nil)))
          (pss_cons (ps_par (i := 16) (j := 17) (by rfl) scLaw.nd rfl rfl (by decide) rfl rfl (pa_cons (pe_call GW (hr.mono (by decide)) (by rfl) gW kW bW .nil pass0 (pa_cons (pv 15) pa_nil)) (pa_cons (pe_call GL hr (by rfl) gL kL bL .nil pass0 (pa_cons (pv 11) (pa_cons (pv 13) pa_nil))) pa_nil)) (by rfl))
          (pss_one (ps_if (pt_cut (fun _ H c H2 => c = false ∧ Same H H2) (PW.pt (pw_or (PW.pt (pw_and (pt_cmpR op_notN (pv 16) pe_non (nomark _)) (pw_and1 (pt_cmpR op_ne (pv 17) (pv 16) (nomark _))))) (pw_or1 (PW.pt (pw_and (pt_cmpR op_isN (pv 16) pe_non (nomark _)) (pw_and1 (pt_cmpR (op_neOwn (E := fun _ _ _ => False) hsEq hnEq hmO hfEq GEq (hr.mono (by decide)) bEq pass0) (pv 17) (pe_call GM (hr.mono (by decide)) (by rfl) gM kM bM .nil pass0 (pa_cons (pv 15) pa_nil)) (nomark _))))))))) (pss_one (ps_ret pe_bl)) pss_nil))))))
        (pss_one (ps_if (pt_cmpR (op_neOwn (E := fun _ _ _ => False) hsEq hnEq hmO hfEq GEq (hr.mono (by decide)) bEq pass0) (pv 11) (pe_call GM (hr.mono (by decide)) (by rfl) gM kM bM .nil pass0 (pa_cons (pv 4) pa_nil)) (nomark _)) (pss_one (ps_ret pe_bl)) pss_nil)))))))))))))
      (pss_one (ps_ret pe_bl))), ?_⟩
    refine ⟨(by show 6 ≤ sizeLine; decide), fun nl nnl => ?_⟩
    have s1 : Same H (upd H nl (.lst [.str "turn", .str "reads", .str "gather", .str "trim", .str "lists", .str "prizes"])) := same_new nnl
    have hnl : upd H nl (.lst [.str "turn", .str "reads", .str "gather", .str "trim", .str "lists", .str "prizes"]) nl = some (.lst (names6.map V.str)) := upd_same
    generalize upd H nl (.lst [.str "turn", .str "reads", .str "gather", .str "trim", .str "lists", .str "prizes"]) = H1 at s1 hnl
    have hR := rng_le ((ns.map V.int).length : Int) 5 (by decide)
    refine ⟨_, rfl, a, _, rfl, .inl (sqL_same s1 hS), _, _, rfl, _, _, rfl, _, rfl, by omega, by omega, ?_⟩
    refine for_range (lo := 0) (fun i σ H' => ∃ v2 v3 v4 v5 v6 v7 v8 v9 v10 v11 v12 v13 v14 v15 v16 v17, σ = [some (.ref a), some (.ref nl), v2, v3, v4, v5, v6, v7, v8, v9, v10, v11, v12, v13, v14, v15, v16, v17] ∧ Same H1 H') ⟨_, _, _, _, _, _, _, _, _, _, _, _, _, _, _, _, rfl, Same.refl _⟩ ?_ ?_
    · rintro i σ H2 hi ⟨v2, v3, v4, v5, v6, v7, v8, v9, v10, v11, v12, v13, v14, v15, v16, v17, rfl, sH2⟩
      have hi4 : i ≤ 62 := by omega
      refine ⟨_, rfl, _, rfl, a, ns, i, by simp, sqL_same (s1.trans sH2) hS, hi4, fun H3 po s3 npo P3 => ?_⟩
      refine ⟨_, rfl, (by show 4 ≤ sizeLine; decide), fun tl ntl => ?_⟩
      have s4 : Same H3 (upd H3 tl (.lst [.str "plain", .str "plain", .str "centred", .str "placed"])) := same_new ntl
      have h4 : upd H3 tl (.lst [.str "plain", .str "plain", .str "centred", .str "placed"]) tl = some (.lst (menu4.map V.str)) := upd_same
      have P4 := P3.same s4
      have ntp := P3.ne ntl
      generalize upd H3 tl (.lst [.str "plain", .str "plain", .str "centred", .str "placed"]) = H4 at s4 h4 P4
      refine ⟨po, tl, 1, 5, 10, menu4, rfl, P4, h4, ntp, by decide, by decide, by decide, by decide, by decide, by decide, by decide, by decide, fun H5 g1 R1 ok1 w1 ln1 mn1 t1 m1 m10 P5 sd5 ng1 ng1a gm1 => ?_⟩
      have S5 : Same H2 H5 := same_del npo (s3.trans s4) sd5
      obtain ⟨wo1, l1, r1, us1, ys1, pm1⟩ := gm1
      have pm5 := pm1.same del_le
      refine ⟨_, rfl, _, rfl, g1, _, rfl, pm5.gWords, wo1, _, rfl, .inl (SqL.of pm5.words), _, rfl, g1, _, rfl, pm5.gWords, wo1, _, rfl, .inl (SqL.of pm5.words), (by show 4 ≤ sizeLine; decide), fun tl2 ntl2 => ?_⟩
      have s6 : Same H5 (upd H5 tl2 (.lst [.str "plain", .str "plain", .str "centred", .str "placed"])) := same_new ntl2
      have h6 : upd H5 tl2 (.lst [.str "plain", .str "plain", .str "centred", .str "placed"]) tl2 = some (.lst (menu4.map V.str)) := upd_same
      have P6 := P5.same s6
      have ntp2 := P5.ne ntl2
      generalize upd H5 tl2 (.lst [.str "plain", .str "plain", .str "centred", .str "placed"]) = H6 at s6 h6 P6
      have lz : (R1.zs.map V.str).length = R1.zs.length := List.length_map _
      have one1 := w1.one
      refine ⟨po, tl2, (R1.zs.map V.str).length, (R1.zs.map V.str).length, 10, menu4, rfl, P6, h6, ntp2, by decide, by decide, by decide, by omega, by omega, by omega, by decide, by decide, fun H7 g2 R2 ok2 w2 ln2 mn2 t2 m2 m210 P7 sd7 ng2 ng2a gm2 => ?_⟩
      have ez : R2.zs.length = R1.zs.length := by omega
      obtain ⟨wo2, l2, r2, us2, ys2, pm2⟩ := gm2
      have pmL := pm2.same del_le
      have pm6 := pm1.same (del_mono s6)
      have pm7 := pm6.same sd7
      have pm7' := pm7.same del_le
      refine ⟨_, rfl, g2, _, rfl, pmL.gWords, _, rfl, g1, _, rfl, pm7'.gWords, wo2, wo1, R2.zs.map Sum.inr, R1.zs.map V.str, rfl, ?_, pm7'.words, ?_, fun dn ndn => ?_⟩
      · rw [List.map_map]
        exact pmL.words
      · rw [List.length_map, List.length_map, ez]
      have ndk : (((R2.zs.map (Sum.inr : Str → Key)).zip (R1.zs.map V.str)).map (·.1)).Nodup := by
        rw [List.map_fst_zip (by rw [List.length_map, List.length_map]; omega)]
        exact (nodup_map_inj (fun _ _ e => Sum.inr.inj e)).mpr w2.nd
      rw [merge_nil ndk]
      have s8 : Same H7 (upd H7 dn (.dK ((R2.zs.map (Sum.inr : Str → Key)).zip (R1.zs.map V.str)))) := same_new ndn
      have hdn : upd H7 dn (.dK ((R2.zs.map (Sum.inr : Str → Key)).zip (R1.zs.map V.str))) dn = some (.dK ((R2.zs.map (Sum.inr : Str → Key)).zip (R1.zs.map V.str))) := upd_same
      generalize upd H7 dn (.dK ((R2.zs.map (Sum.inr : Str → Key)).zip (R1.zs.map V.str))) = H8 at s8 hdn
      have nm : ∀ {z : Str}, z ∈ R2.zs → ∀ {G : Hp}, Same H8 G → DGet G dn (.str z) (some (.str (ren R2.zs R1.zs z))) := fun hz G sG => dget_of (sG _ _ hdn) (ren_val ez hz)
      have pm8 := pm7.same (del_mono s8)
      have pmL8 := pmL.same s8
      have P8 := P7.same s8
      have hg2 := pmL8.ob
      have ngdn : dn ≠ g2 := fun e => by
        rw [e, pmL.ob] at ndn
        cases ndn
      have cut2 : ∀ {b : Addr} {o : HO}, H8 b = some o → o ≠ .dK (planAK wo2 l2 r2 R2) → del H8 g2 b = some o := fun {b o} e n => del_at (fun z => by rw [z, hg2] at e; exact n (Option.some.inj e).symm) e
      have okL : ∀ p ∈ R2.reads, p.1 ∈ R2.zs ∧ p.2 ∈ R2.zs := fun p hp => pairsOf_mem (ok2.reads.subset hp)
      obtain ⟨f1, f2, f3, f4⟩ := ok2.few
      refine ⟨fun σ G => ∃ (r : Addr) (ys : List V) (v7 v8 : Option V), σ = [some (.ref a), some (.ref nl), some (.int (0 + (i : Int))), some (.ref po), some (.ref g1), some (.ref g2), some (.ref dn), v7, v8, v9, v10, v11, v12, v13, v14, v15, v16, v17] ∧ Same (del H8 g2) (del G g2) ∧ G g2 = some (.dK (planT wo2 R2.m R2.turn R2.trim l2 r R2.gather R2.prizes)) ∧ del G g2 r = some (.lst ys) ∧ Tps (del G g2) ys (R2.reads.map fun p => (ren R2.zs R1.zs p.1, ren R2.zs R1.zs p.2)), ?_, ?_⟩
      · refine ⟨_, rfl, g2, _, rfl, pmL8.gReads, r2, rfl, ⟨_, SqL.of pmL8.rd⟩, fun D nD => ?_⟩
        refine nest_it (walk_list (K := K) (a := r2) (xs := ys2)) (fun j G => Same H8 G ∧ ∃ zs, G D = some (.lst zs) ∧ Tups D G zs ((R2.reads.take j).map fun p => (ren R2.zs R1.zs p.1, ren R2.zs R1.zs p.2))) ⟨same_new nD, [], upd_same, rfl, fun j y q h => by simp at h⟩ (fun j G _ h => SqL.of (h.1 _ _ pmL8.rd)) ?_ ?_
        · rintro j y G0 G hj ⟨sG, zs, hD, tu⟩ ⟨rfl, hy⟩
          obtain ⟨pr, hpr⟩ : ∃ pr, R2.reads[j]? = some pr := ⟨_, List.getElem?_eq_getElem (by rw [← pmL8.tps.1]; exact hj)⟩
          obtain ⟨T, rfl, hT⟩ := pr_get (tps_paired pmL8.tps) hy hpr
          have prm := okL pr (List.mem_of_getElem? hpr)
          refine ⟨T, _, rfl, SqT.of (sG _ _ hT), rfl, _, _, rfl, _, _, rfl, rfl, rfl, ?_⟩
          refine ⟨_, rfl, _, rfl, dn, _, rfl, nm prm.1 sG, _, rfl, _, rfl, dn, _, rfl, nm prm.2 sG, (by show 2 ≤ sizeLine; decide), fun t nt => ?_⟩
          have st := same_new (o := .tup [.str (ren R2.zs R1.zs pr.1), .str (ren R2.zs R1.zs pr.2)]) nt
          refine ⟨_, st _ _ hD, ?_, same_at (sG.trans st) nD, _, upd_same, ?_⟩
          · rw [tu.1, List.length_map, List.length_take]
            exact small1000 (by omega)
          · rw [take_snocG hpr, List.map_append]
            have nt2 : t ≠ D := fun e => by
              rw [e, hD] at nt
              cases nt
            exact (((tu.but (But.of_same st)).add nt2 upd_same).but But.upd)
        · rintro G ⟨sG, zs, hD, tu⟩
          rw [pmL8.tps.1, List.take_length] at tu
          refine ⟨_, rfl, g2, _, rfl, DPut.k (k := .inr "reads") (sG _ _ hg2) (by show 8 < sizeLine; decide), ?_⟩
          have nDg : D ≠ g2 := fun e => by
            rw [e, hg2] at nD
            cases nD
          refine ⟨D, zs, _, _, rfl, ?_, upd_same, ?_, ?_⟩
          · rw [del_upd_self]
            exact del_mono sG
          · rw [del_upd_self]
            exact del_at nDg hD
          · rw [del_upd_self]
            refine ⟨tu.1, fun j y q e1 e2 => ?_⟩
            obtain ⟨t, e, n, h⟩ := tu.2 j y q e1 e2
            refine ⟨t, e, del_at (fun z => ?_) h⟩
            rw [z, sG _ _ hg2] at h
            cases h
      rintro σ G9 ⟨r3, ys3, v7', v8', rfl, sd9, hg9, hr3, tp3⟩
      have pm82 : PlanAt (del2 H8 po g2) g1 wo1 l1 r1 us1 ys1 R1 := by
        have h := pm6.same (H2 := del2 H8 po g2)
        refine h (fun b o e => ?_)
        have e2 : del2 H6 po g2 b = some o := by
          unfold del2
          rw [del_free_eq (del_none ng2)]
          exact e
        exact del2_mono (sd7.trans (del_mono s8)) _ _ e2
      have pm8g : PlanAt (del H8 g2) g1 wo1 l1 r1 us1 ys1 R1 := pm82.same (del_mono del_le)
      have lsub : ∀ k ∈ R2.lists, ∀ z ∈ k, z ∈ R2.zs := ok2.lists.parts.mem
      refine ⟨fun σ G => ∃ (l : Addr) (us : List Addr) (v7 v8 v9 : Option V), σ = [some (.ref a), some (.ref nl), some (.int (0 + (i : Int))), some (.ref po), some (.ref g1), some (.ref g2), some (.ref dn), v7, v8, v9, v10, v11, v12, v13, v14, v15, v16, v17] ∧ Same (del G9 g2) (del G g2) ∧ G g2 = some (.dK (planT wo2 R2.m R2.turn R2.trim l r3 R2.gather R2.prizes)) ∧ del G g2 l = some (.lst (us.map V.ref)) ∧ Rows (del G g2) us (R2.lists.map fun k => k.map (ren R2.zs R1.zs)), ?_, ?_⟩
      · have hl9 := sd9 _ _ (cut2 pmL8.ls (fun e => nomatch e))
        have rows9 : Rows (del G9 g2) us2 R2.lists := Paired.mono (F := fun u (k : List Str) => H8 u = some (.lst (k.map V.str))) (F' := fun u (k : List Str) => del G9 g2 u = some (.lst (k.map V.str))) (fun u k e => sd9 _ _ (cut2 e (fun e => nomatch e))) pmL8.rows
        have hdn9 := del_of (sd9 _ _ (del_at ngdn hdn))
        refine ⟨_, rfl, g2, _, rfl, dget_of hg9 rfl, l2, us2.map V.ref, rfl, .inl (SqL.of (del_of hl9)), fun J ji D nD => ?_⟩
        have lus := rows9.length
        refine lc_new ji (F := fun H y l => ∃ u, y = V.ref u ∧ H u = some (.lst (l.map V.str))) (ds := R2.lists.map fun k => some (k.map (ren R2.zs R1.zs))) (by rw [List.length_map, List.length_map, lus]) (by rw [List.length_map]; omega) nD
          (fun acc G G2 y l hD ny b fy => ?_) (fun _ => rfl) (fun j y o G N M hy ho s3 nDG kN kM => ?_) (fun G zs2 s3 hD hys => ?_)
        · obtain ⟨u, rfl, hu⟩ := fy
          exact ⟨u, rfl, b _ _ (fun e => ny (by rw [e])) hu⟩
        · rw [List.getElem?_map] at hy ho
          obtain ⟨u, hu, rfl⟩ := Option.map_eq_some_iff.mp hy
          obtain ⟨row, hrow, rfl⟩ := Option.map_eq_some_iff.mp ho
          have hul := s3 _ _ (del_of (pr_get rows9 hu hrow))
          have rin := List.mem_of_getElem? hrow
          have rl := (ok2.lists.sub row rin).length_le
          refine rd_yes ⟨_, rfl, u, _, rfl, .inl (SqL.of hul), fun J2 ji2 D2 nD2 => ?_⟩
          refine lc_fm ji2 (os := row.map fun z => some (V.str (ren R2.zs R1.zs z))) (by rw [List.length_map, List.length_map]) (by rw [List.length_map]; omega) nD2 (fun _ => rfl) (fun j y o2 G3 N3 M3 hy ho2 s4 kN3 kM3 => ?_) (fun G3 s4 hD3 => ?_)
          · rw [List.getElem?_map] at hy ho2
            obtain ⟨z, hz, rfl⟩ := Option.map_eq_some_iff.mp hy
            rw [hz] at ho2
            have e2 := Option.some.inj ho2
            exact rd_yes ⟨_, rfl, _, rfl, dn, _, rfl, dget_of (s4 _ _ (s3 _ _ hdn9)) (ren_val ez (lsub row rin z (List.mem_of_getElem? hz))), kN3 _ _ e2.symm (Same.refl _)⟩
          · rw [fm_some] at hD3
            refine kN _ _ _ rfl s4 (fun e => ?_) ⟨D2, rfl, ?_⟩
            · have e2 : D2 = D := V.ref.inj e
              rw [e2] at nD2
              exact nDG nD2
            · rw [hD3, List.map_map]
              rfl
        have e0 : ((R2.lists.map fun k => some (k.map (ren R2.zs R1.zs))).filterMap id) = R2.lists.map fun k => k.map (ren R2.zs R1.zs) := fm_some _ _
        rw [e0] at hys
        obtain ⟨us3, rfl, hus3⟩ := rows_of hys
        have hg3 := s3 _ _ hg9
        refine ⟨_, rfl, g2, _, rfl, DPut.k (k := .inr "lists") hg3 (by show 8 < sizeLine; decide), ?_⟩
        have nDg : D ≠ g2 := fun e => by
          rw [e, hg9] at nD
          cases nD
        refine ⟨D, us3, _, _, _, rfl, ?_, upd_same, ?_, ?_⟩
        · rw [del_upd_self]
          exact del_mono s3
        · rw [del_upd_self]
          exact del_at nDg hD
        · rw [del_upd_self]
          refine Paired.mono (fun u k e => del_at (fun z => ?_) e) hus3
          rw [z, hg3] at e
          cases e
      rintro σ G10 ⟨l3, us3, v7, v8, v9', rfl, sd10, hg10, hl3, rows3⟩
      have hr10 := sd10 _ _ hr3
      have tp10 := tp3.same sd10
      have pm10 := (pm8g.same (sd9.trans sd10)).same del_le
      refine ⟨fun σ G => ∃ (r : Addr) (ys : List V) (v10 : Option V), σ = [some (.ref a), some (.ref nl), some (.int (0 + (i : Int))), some (.ref po), some (.ref g1), some (.ref g2), some (.ref dn), v7, v8, v9', v10, v11, v12, v13, v14, v15, v16, v17] ∧ Same (del G10 g2) (del G g2) ∧ G g2 = some (.dK (planT wo2 R2.m R2.turn R2.trim l3 r R2.gather R2.prizes)) ∧ del G g2 r = some (.lst ys) ∧ Tps (del G g2) ys (pick R1.zs (R2.reads.map fun p => (ren R2.zs R1.zs p.1, ren R2.zs R1.zs p.2))), ?_, ?_⟩
      · refine ⟨_, rfl, g1, _, rfl, pm10.gWords, wo1, R1.zs, rfl, pm10.words, w1.most, fun H3 pl ys4 s3 npl hpl tys => ⟨pl, ys4, rfl, .inl (SqL.of hpl), fun J ji D nD => ?_⟩⟩
        have z8 := w1.most
        have ly : ys4.length ≤ 64 := by
          rw [tys.1]
          exact pairs_len (zs := R1.zs) (ys := R1.zs) (by omega) (by omega)
        have okM : ∀ p ∈ (R2.reads.map fun p => (ren R2.zs R1.zs p.1, ren R2.zs R1.zs p.2)), PyData.strOk p.1 = true ∧ PyData.strOk p.2 = true := fun p hp => by
          obtain ⟨q0, hq0, rfl⟩ := List.mem_map.mp hp
          have m := okL q0 hq0
          have mm : ∀ z ∈ R2.zs, ren R2.zs R1.zs z ∈ R1.zs := fun z hz => by
            have : ren R2.zs R1.zs z ∈ R2.zs.map (ren R2.zs R1.zs) := List.mem_map.mpr ⟨z, hz, rfl⟩
            rwa [ren_map ez w2.nd] at this
          exact ⟨w1.ok _ (mm _ m.1), w1.ok _ (mm _ m.2)⟩
        refine lc_fm ji (os := (ys4.zip (pairsOf R1.zs)).map fun q => if decide (q.2 ∈ (R2.reads.map fun p => (ren R2.zs R1.zs p.1, ren R2.zs R1.zs p.2))) = true then some q.1 else none) (by rw [List.length_map, List.length_zip, tys.1, Nat.min_self]) (by omega) nD (fun _ => rfl) (fun j y o G4 N M hy ho sG kN kM => ?_) (fun G4 sG hD => ?_)
        · rw [List.getElem?_map] at ho
          obtain ⟨⟨y2, pr⟩, hq, eo⟩ := Option.map_eq_some_iff.mp ho
          obtain ⟨hq1, hq2⟩ := List.getElem?_zip_eq_some.mp hq
          dsimp only at hq1 hq2 eo
          rw [hy] at hq1
          obtain rfl := Option.some.inj hq1
          obtain ⟨t', rfl, ht'⟩ := pr_get (tps_paired tys) hy hq2
          have ht3 := sG _ _ ht'
          have pmm := pairsOf_mem (List.mem_of_getElem? hq2)
          have s34 := s3.trans sG
          refine ⟨_, rfl, _, rfl, g2, _, rfl, dget_of (s34 _ _ hg10) rfl, L2.pairD pr, (R2.reads.map fun p => (ren R2.zs R1.zs p.1, ren R2.zs R1.zs p.2)).map L2.pairD, dp_pair ht3, .lst (SqL.of (s34 _ _ (del_of hr10))) ((tp10.same del_le).same s34).dp, shaped_pairD (w1.ok _ pmm.1) (w1.ok _ pmm.2), shaped_pairs okM, _, rfl, ?_⟩
          rw [any_pairs]
          cases h1 : decide (pr ∈ (R2.reads.map fun p => (ren R2.zs R1.zs p.1, ren R2.zs R1.zs p.2))) with
          | true =>
            rw [if_pos h1] at eo
            exact iteT ⟨_, rfl, kN _ _ eo.symm (Same.refl _)⟩
          | false =>
            rw [if_neg (by rw [h1]; decide)] at eo
            exact iteF (kM _ eo.symm (Same.refl _))
        · rw [fm_if (fun q : V × Pr => decide (q.2 ∈ (R2.reads.map fun p => (ren R2.zs R1.zs p.1, ren R2.zs R1.zs p.2)))) (fun q => q.1)] at hD
          have kept := zip_filter (fun q : Pr => decide (q ∈ (R2.reads.map fun p => (ren R2.zs R1.zs p.1, ren R2.zs R1.zs p.2)))) (tps_paired tys)
          have s34 := s3.trans sG
          have hg4 := s34 _ _ hg10
          have nDg : D ≠ g2 := fun e => by
            rw [e, s3 _ _ hg10] at nD
            cases nD
          refine ⟨_, rfl, g2, _, rfl, DPut.k (k := .inr "reads") hg4 (by show 8 < sizeLine; decide), ?_⟩
          refine ⟨D, ((ys4.zip (pairsOf R1.zs)).filter fun q => decide (q.2 ∈ (R2.reads.map fun p => (ren R2.zs R1.zs p.1, ren R2.zs R1.zs p.2)))).map (fun q => q.1), _, rfl, ?_, upd_same, ?_, ?_⟩
          · rw [del_upd_self]
            exact del_mono s34
          · rw [del_upd_self]
            exact del_at nDg hD
          · rw [del_upd_self]
            refine paired_tps (Paired.mono (fun y pr h => ?_) kept)
            obtain ⟨t', e2, h'⟩ := h
            refine ⟨t', e2, del_at (fun z => ?_) (sG _ _ h')⟩
            have h4 := sG _ _ h'
            rw [z, hg4] at h4
            cases h4
      rintro σ G11 ⟨r4, ys4, v10', rfl, sd11, hg11, hr4, tp4⟩
      have sdX := (sd9.trans sd10).trans sd11
      have P11 : Pool G11 po := by
        obtain ⟨g0, q0, h0, hb⟩ := P8
        exact ⟨g0, q0, del_of (sdX _ _ (del_at (Ne.symm ng2a) h0)), hb⟩
      have SX : Same (del H6 po) (del G11 po) := fun b o e => by
        have e2 : del2 H6 po g2 b = some o := by
          unfold del2
          rw [del_free_eq (del_none ng2)]
          exact e
        have e3 := del2_mono (sd7.trans (del_mono s8)) _ _ e2
        have n1 : b ≠ g2 := del_some e3
        have n2 : b ≠ po := del_some e
        exact del_at n2 (del_of (sdX _ _ (del_at n1 (del2_of e3))))
      have pmP := pm6.same SX
      have hnl6 := s6 _ _ (S5 _ _ (sH2 _ _ hnl))
      have nlpo : nl ≠ po := fun e => by
        have := sH2 _ _ hnl
        rw [e, npo] at this
        cases this
      have hnlP := SX _ _ (del_at nlpo hnl6)
      have hg2P := del_at ng2a hg11
      have hl3P := P11.away (del_of (sd11 _ _ hl3)) (refs_awayA _)
      have rows3P : Rows (del G11 po) us3 (R2.lists.map fun k => k.map (ren R2.zs R1.zs)) := Paired.mono (F := fun u (k : List Str) => del G10 g2 u = some (.lst (k.map V.str))) (F' := fun u (k : List Str) => del G11 po u = some (.lst (k.map V.str))) (fun u k e => P11.away (del_of (sd11 _ _ e)) (strs_awayA _)) rows3
      have hr4P := P11.away (del_of hr4) (pairs_awayA tp4)
      have tp4P : Tps (del G11 po) ys4 (pick R1.zs (R2.reads.map fun p => (ren R2.zs R1.zs p.1, ren R2.zs R1.zs p.2))) := ⟨tp4.1, fun j y q e1 e2 => by
        obtain ⟨t, e, h⟩ := tp4.2 j y q e1 e2
        exact ⟨t, e, P11.away (del_of h) (fun _ _ e => nomatch e)⟩⟩
      obtain ⟨tr0, tr3⟩ := trim_bounds ok1
      obtain ⟨tr0', tr3'⟩ := trim_bounds ok2
      have lo1 := ok1.loose w1 tr0 tr3
      have lo2 := ok2.loose w2 tr0' tr3'
      obtain ⟨S, eS⟩ : ∃ S : RuleD, S = ⟨R1.zs, R2.m, R2.turn, R2.gather, R2.trim, R2.prizes, pick R1.zs (R2.reads.map fun p => (ren R2.zs R1.zs p.1, ren R2.zs R1.zs p.2)), R2.lists.map fun k => k.map (ren R2.zs R1.zs)⟩ := ⟨_, rfl⟩
      have loS : S.Loose := by
        rw [eS]
        refine ⟨w1, lo2.turn, lo2.gather, lo2.t0, lo2.t3, lo2.prizes, List.filter_sublist, ?_⟩
        have := straight_map ok2.lists (f := ren R2.zs R1.zs) (inj_of_map (by rw [ren_map ez w2.nd]; exact w1.nd))
        rwa [ren_map ez w2.nd] at this
      have ezS : S.zs = R1.zs := by rw [eS]
      have hg2S : del G11 po g2 = some (.dK (planT wo2 S.m S.turn S.trim l3 r4 S.gather S.prizes)) := by rw [eS]; exact hg2P
      have rowsS : Rows (del G11 po) us3 S.lists := by rw [eS]; exact rows3P
      have tpS : Tps (del G11 po) ys4 S.reads := by rw [eS]; exact tp4P
      clear hg2P rows3P tp4P hl3 rows3 hr4 tp4 hg11 sd11 sd10 sd9 hg10 hr10 tp10 pm10 hr3 tp3 hg9 pm82 pm8g lsub okL cut2 nm pm8 pmL8 hdn ndk s8 pm7 pm7' pmL
      refine ⟨_, rfl, g1, R1, rfl, ⟨wo1, l1, r1, us1, ys1, pmP.same del_le⟩, ok1, w1, m1, by omega, fun H12 x s12 nx hx => ?_⟩
      have alR : Alike R1 R1 := ⟨rfl, rfl, rfl, rfl, rfl, rfl, rfl⟩
      obtain ⟨xc, xr, xl, xd, xys, xus, xat⟩ := id hx
      obtain ⟨xdx, xob⟩ := xat.ob
      have tyN : ∃ T, TyN K H12 V.non T := ⟨"NoneType", .base .non, by decide⟩
      refine ⟨_, rfl, x, xdx, _, rfl, xob, rfl, ?_⟩
      refine ⟨x, R1, .non, .non, .non, .non, .non, .non, true, true, R1.reads, R1.lists, rfl, hx, ok1, tyN, .inl ⟨rfl, rfl, rfl⟩, tyN, tyN, .inl ⟨rfl, rfl, rfl⟩, tyN, fun z hz H' d hr2 => ?_, fun t g mi p e1 e2 e3 e4 hw H13 y s13 ny hy => ?_⟩
      · have w2' := hz R1.turn R1.gather R1.trim (if_pos rfl) (if_pos rfl) (if_pos rfl)
        have gn : ∀ v : V, given .non v = v := fun v => if_pos rfl
        rw [gn, gn, gn, gn, ok1.turn, ok1.gather, ok1.trim, ok1.prizes, ok1.full] at w2'
        cases w2'
      have gn : ∀ v : V, given .non v = v := fun v => if_pos rfl
      rw [gn] at e1 e2 e3 e4
      cases e1
      cases e2
      cases e3
      cases e4
      have hy : RuleOf H13 CR C y R1 := hy
      obtain ⟨yc, yr, yl, yd, yys, yus, yat⟩ := id hy
      obtain ⟨ydx, yob⟩ := yat.ob
      refine ⟨_, rfl, y, _, x, _, _, _, rfl, rfl, yob, s13 _ _ xob, y, x, R1, R1, rfl, hy, hx.same s13, ok1, ok1, alR, fun H14 s14 => ⟨_, rfl, _, rfl, ?_⟩⟩
      rw [decide_eq_true rfl]
      refine iteF ?_
      have s1114 := (s12.trans s13).trans s14
      have hx14 := hx.same (s13.trans s14)
      have P14 := P11.same s1114
      have hxA := hx14.awayA P14
      have pmA := pmP.same (del_mono s1114)
      have hnlA := del_mono s1114 _ _ hnlP
      have hg2A := del_mono s1114 _ _ hg2S
      have hl3A := del_mono s1114 _ _ hl3P
      have rowsA := rowsS.same (del_mono s1114)
      have hr4A := del_mono s1114 _ _ hr4P
      have tpA := tpS.same (del_mono s1114)
      have S14 : ∀ {G : Hp}, Same (del H14 po) (del G po) → Same H1 G := fun {G} sd => sH2.trans (same_del npo (S5.trans s6) ((SX.trans (del_mono s1114)).trans sd))
      clear pmP hnlP hg2S hl3P rowsS hr4P tpS hy yat yob xat xob hx tyN
      refine ⟨fun σ G => ∃ v12 v13 v14 v15 v16 v17, σ = [some (.ref a), some (.ref nl), some (.int (0 + (i : Int))), some (.ref po), some (.ref g1), some (.ref g2), some (.ref dn), v7, v8, v9', v10', some (.ref x), v12, v13, v14, v15, v16, v17] ∧ Pool G po ∧ Same (del H14 po) (del G po), ?_, ?_⟩
      · refine ⟨_, rfl, by decide, by decide, ?_⟩
        refine for_range (lo := 0) (fun j σ G => ∃ v12 v13 v14 v15 v16 v17, σ = [some (.ref a), some (.ref nl), some (.int (0 + (i : Int))), some (.ref po), some (.ref g1), some (.ref g2), some (.ref dn), v7, v8, v9', v10', some (.ref x), v12, v13, v14, v15, v16, v17] ∧ Pool G po ∧ Same (del H14 po) (del G po)) ⟨_, _, _, _, _, _, rfl, P14, Same.refl _⟩ ?_ (fun σ G h => h)
        rintro j σ G hj ⟨v12, v13, v14, v15, v16, v17, rfl, PG, sdG⟩
        have hnlG := sdG _ _ hnlA
        have hg2G := sdG _ _ hg2A
        refine ⟨_, rfl, nl, rfl, ⟨_, SqL.of (del_of hnlG)⟩, fun D nD => ?_⟩
        have nDp := PG.ne nD
        have key : ∀ (j : Nat) (z : Str), names6[j]? = some z → ∃ v, (sixP S.turn r4 S.gather S.trim l3 S.prizes)[j]? = some (.inr z, v) ∧ valV (planT wo2 S.m S.turn S.trim l3 r4 S.gather S.prizes) (.inr z) = some v := fun j z h => by
          match j, h with
          | 0, h => cases h; exact ⟨_, rfl, rfl⟩
          | 1, h => cases h; exact ⟨_, rfl, rfl⟩
          | 2, h => cases h; exact ⟨_, rfl, rfl⟩
          | 3, h => cases h; exact ⟨_, rfl, rfl⟩
          | 4, h => cases h; exact ⟨_, rfl, rfl⟩
          | 5, h => cases h; exact ⟨_, rfl, rfl⟩
          | j + 6, h => cases h
        refine nest_it (walk_list (K := K) (a := nl) (xs := names6.map V.str)) (fun j Gj => Pool Gj po ∧ Same (del G po) (del Gj po) ∧ ∃ (us : List Addr) (bs : List Bool), bs.length = j ∧ Gj D = some (.lst (us.map V.ref)) ∧ NamedAt (del Gj po) us (kept (sixP S.turn r4 S.gather S.trim l3 S.prizes) bs)) ⟨PG.same (same_new nD), del_mono (same_new nD), [], [], rfl, upd_same, .nil⟩ (fun j Gj _ h => SqL.of (del_of (h.2.1 _ _ hnlG))) ?_ ?_
        · rintro j2 y G0 G1 hj2 ⟨P0, sd0, us, bs, lb, hD, hus⟩ ⟨rfl, hy⟩
          rw [List.getElem?_map] at hy
          obtain ⟨z, hz, rfl⟩ := Option.map_eq_some_iff.mp hy
          obtain ⟨v, kv1, kv2⟩ := key j2 z hz
          have us6 : us.length ≤ 6 := by
            rw [Paired.length hus]
            exact ((kept_sub _ _).length_le)
          refine ⟨rfl, _, rfl, po, 3, rfl, P0, by decide, by decide, fun r G2 r0 r1 P2 b2 => ⟨rfl, _, rfl, ?_⟩⟩
          have hD2 := b2 _ _ nDp hD
          have sd2 := sd0.trans (del_but b2)
          have hus2 : NamedAt (del G2 po) us (kept (sixP S.turn r4 S.gather S.trim l3 S.prizes) bs) := Paired.mono (fun u kv e => del_but b2 _ _ e) hus
          refine ite2 (fun c => ?_) (fun c => ?_)
          · refine ⟨_, rfl, _, rfl, _, rfl, g2, _, rfl, dget_of (del_of (sd2 _ _ hg2G)) kv2, (by show 2 ≤ sizeLine; decide), fun t nt => ?_⟩
            have st := same_new (o := .tup [.str z, v]) nt
            have ntD : t ≠ D := fun e => by
              rw [e, hD2] at nt
              cases nt
            refine ⟨_, st _ _ hD2, ?_, (P2.same st).put nDp, del_upd (sd2.trans (del_mono st)) nD, us ++ [t], bs ++ [true], by rw [List.length_append, lb]; rfl, by rw [upd_same, List.map_append]; rfl, ?_⟩
            · rw [List.length_map]
              exact small1000 (by omega)
            · rw [kept_snoc (by rw [lb]; exact kv1)]
              refine Paired.snoc (Paired.mono (fun u kv e => ?_) hus2) ?_
              · refine del_at (del_some e) ?_
                have e2 := st _ _ (del_of e)
                rw [upd_ne (fun z => by rw [z, st _ _ hD2] at e2; cases e2)]
                exact e2
              · refine del_at (P2.ne nt) ?_
                rw [upd_ne ntD, upd_same]
                rfl
          · refine ⟨P2, sd2, us, bs ++ [false], by rw [List.length_append, lb]; rfl, hD2, ?_⟩
            rw [kept_snoc (by rw [lb]; exact kv1)]
            show NamedAt _ us (_ ++ [])
            rw [List.append_nil]
            exact hus2
        rintro G1 ⟨P1, sd1, us, bs, lb, hD, hus⟩
        obtain ⟨b1, b2, b3, b4, b5, b6, rfl⟩ : ∃ b1 b2 b3 b4 b5 b6, bs = [b1, b2, b3, b4, b5, b6] := by
          match bs, lb with
          | [b1, b2, b3, b4, b5, b6], _ => exact ⟨_, _, _, _, _, _, rfl⟩
        have ndK : ((kept (sixP S.turn r4 S.gather S.trim l3 S.prizes) [b1, b2, b3, b4, b5, b6]).map (·.1)).Nodup := sixP_nd.sublist ((kept_sub _ _).map _)
        refine ⟨D, us, _, rfl, SqL.of hD, NamedAt.sq (Paired.mono (fun _ _ e => del_of e) hus), fun d nd => ?_⟩
        rw [merge_nil ndK]
        have s2 : Same G1 (upd G1 d (.dK (kept (sixP S.turn r4 S.gather S.trim l3 S.prizes) [b1, b2, b3, b4, b5, b6]))) := same_new nd
        have hd : upd G1 d (.dK (kept (sixP S.turn r4 S.gather S.trim l3 S.prizes) [b1, b2, b3, b4, b5, b6])) d = some (.dK (kept (sixP S.turn r4 S.gather S.trim l3 S.prizes) [b1, b2, b3, b4, b5, b6])) := upd_same
        generalize upd G1 d (.dK (kept (sixP S.turn r4 S.gather S.trim l3 S.prizes) [b1, b2, b3, b4, b5, b6])) = G2 at s2 hd
        have P2 := P1.same s2
        have sdG2 := (sdG.trans sd1).trans (del_mono s2)
        have pmG2 := pmA.same sdG2
        have pm2' := pmG2.same del_le
        have ndg1 : d ≠ g1 := fun e => by
          have := (sdG.trans sd1) _ _ pmA.ob
          rw [← e] at this
          rw [del_of this] at nd
          cases nd
        clear hD hus sd1
        refine ⟨g1, _, pm2'.ob, trivial, fun od => ?_⟩
        have dL : upd G2 g1 (.frz od (.dK (planAK wo1 l1 r1 R1))) g1 = some (.frz od (.dK (planAK wo1 l1 r1 R1))) := upd_same
        have un : ∀ {G' : Hp}, Same (upd G2 g1 (.frz od (.dK (planAK wo1 l1 r1 R1)))) G' → Same G2 (upd G' g1 (.dK (planAK wo1 l1 r1 R1))) := fun s => unlock_same pm2'.ob s
        have hdL : upd G2 g1 (.frz od (.dK (planAK wo1 l1 r1 R1))) d = some (.dK (kept (sixP S.turn r4 S.gather S.trim l3 S.prizes) [b1, b2, b3, b4, b5, b6])) := by
          rw [upd_ne ndg1]
          exact hd
        generalize upd G2 g1 (.frz od (.dK (planAK wo1 l1 r1 R1))) = GL0 at dL un hdL
        have nd8 : ((planAK wo1 l1 r1 R1).map (·.1)).Nodup := planT_nd
        refine ⟨_, rfl, g1, od, rfl, .inl ⟨_, dL, fun D nD => ?_⟩⟩
        refine nest_it (walk_keys (d := g1) (o := od) (kvs := planAK wo1 l1 r1 R1)) (fun i G => Same GL0 G ∧ ∃ us : List Addr, G D = some (.lst (us.map V.ref)) ∧ NamedAt G us (((planAK wo1 l1 r1 R1).take i).map fun kv => (kv.1, (valV (kept (sixP S.turn r4 S.gather S.trim l3 S.prizes) [b1, b2, b3, b4, b5, b6]) kv.1).getD kv.2))) ⟨same_new nD, [], upd_same, .nil⟩ (fun i G _ h => h.1 _ _ dL) ?_ ?_
        · rintro i2 y G0 G hi2 ⟨sG, us, hD, hus⟩ ⟨rfl, k, x2, hk, rfl⟩
          refine ⟨rfl, _, rfl, _, rfl, d, rfl, .inl ⟨_, .inl (sG _ _ hdL)⟩, _, rfl, _, rfl, _, rfl, g1, _, rfl, .inl ⟨_, k, .inr ⟨_, sG _ _ dL⟩, rfl, (valV_at nd8 hk).symm⟩, _, .inl ⟨_, k, .inl (sG _ _ hdL), rfl, rfl⟩, (by show 2 ≤ sizeLine; decide), fun t nt => ?_⟩
          have st := same_new (o := .tup [kV k, (valV (kept (sixP S.turn r4 S.gather S.trim l3 S.prizes) [b1, b2, b3, b4, b5, b6]) k).getD x2]) nt
          refine ⟨_, st _ _ hD, ?_, fun b o e => ?_, us ++ [t], ?_, ?_⟩
          · rw [List.length_map, hus.length, List.length_map, List.length_take]
            exact small1000 (by
              have l8 : (planAK wo1 l1 r1 R1).length = 8 := rfl
              omega)
          · rw [upd_ne (ne_of_none e nD)]
            exact st _ _ (sG _ _ e)
          · rw [upd_same, List.map_append]
            rfl
          · rw [take_snocG hk, List.map_append]
            refine Paired.snoc (Paired.mono (fun u kv e => ?_) hus) ?_
            · rw [upd_ne (ne_of e hD (fun z => nomatch z)), upd_ne (ne_of_none e nt)]
              exact e
            · rw [upd_ne (ne_of_none hD nt).symm, upd_same]
        rintro G3 ⟨sG3, us, hD, hus⟩
        rw [List.take_length] at hus
        have dp := due_parts (w := wo1) (l := l1) (r := r1) (l2 := l3) (r2 := r4) (R := R1) (S := S) (b1 := b1) (b2 := b2) (b3 := b3) (b4 := b4) (b5 := b5) (b6 := b6)
        rw [dp] at hus
        refine ⟨sG3 _ _ dL, ?_⟩
        have U := un sG3
        have nDg : D ≠ g1 := (ne_of_none dL nD).symm
        have up : ∀ {b : Addr} {xs : List V}, G3 b = some (.tup xs) → upd G3 g1 (.dK (planAK wo1 l1 r1 R1)) b = some (.tup xs) := fun e => by
          rw [upd_ne (ne_of e (sG3 _ _ dL) (fun z => nomatch z))]
          exact e
        refine ⟨D, us, _, rfl, SqL.of (by rw [upd_ne nDg]; exact hD), NamedAt.sq (Paired.mono (fun _ _ e => up e) hus), fun p np => ?_⟩
        rw [merge_nil (kvs := planAK wo1 (if b5 then l3 else l1) (if b2 then r4 else r1) (R1.mix S ⟨b1, b2, b5, b3, b4, b6⟩)) planT_nd]
        generalize upd G3 g1 (.dK (planAK wo1 l1 r1 R1)) = G4 at U np
        have s5 := same_new (o := .dK (planAK wo1 (if b5 then l3 else l1) (if b2 then r4 else r1) (R1.mix S ⟨b1, b2, b5, b3, b4, b6⟩))) np
        have hp := upd_same (H := G4) (a := p) (o := .dK (planAK wo1 (if b5 then l3 else l1) (if b2 then r4 else r1) (R1.mix S ⟨b1, b2, b5, b3, b4, b6⟩)))
        generalize upd G4 p (.dK (planAK wo1 (if b5 then l3 else l1) (if b2 then r4 else r1) (R1.mix S ⟨b1, b2, b5, b3, b4, b6⟩))) = G5 at s5 hp
        have s25 := U.trans s5
        have pm5' := pm2'.same s25
        have hd5 := s25 _ _ hd
        have sdG5 := sdG2.trans (del_mono s25)
        have hl35 := del_of (sdG5 _ _ hl3A)
        have rows5 : Rows G5 us3 S.lists := (rowsA.same sdG5).same del_le
        have hr45 := del_of (sdG5 _ _ hr4A)
        have tp5 : Tps G5 ys4 S.reads := (tpA.same sdG5).same del_le
        have hx5 := (hxA.same sdG5).same del_le
        have P5' := P2.same s25
        obtain ⟨bb, ebb⟩ : ∃ bb : Gv, bb = ⟨b1, b2, b5, b3, b4, b6⟩ := ⟨_, rfl⟩
        have loM := mix_loose (b := bb) lo1 loS ezS
        have pmD : PlanOf G5 p (R1.mix S bb) := by
          refine ⟨wo1, if b5 then l3 else l1, if b2 then r4 else r1, if b5 then us3 else us1, if b2 then ys4 else ys1, ?_, ?_, ?_, ?_, ?_, ?_⟩
          · rw [ebb]
            exact hp
          · exact pm5'.words
          · cases b5
            · exact pm5'.ls
            · exact hl35
          · rw [ebb]
            cases b5
            · exact pm5'.rows
            · exact rows5
          · cases b2
            · exact pm5'.rd
            · exact hr45
          · rw [ebb]
            cases b2
            · exact pm5'.tps
            · exact tp5
        refine ⟨_, rfl, p, R1.mix S bb, rfl, pmD, loM, fun G6 s6' => ?_⟩
        have ndS := sixP_nd (t := S.turn) (r := r4) (g := S.gather) (m := S.trim) (l := l3) (p := S.prizes)
        have pD : PartsD G6 d l3 r4 us3 ys4 S bb := by
          rw [ebb]
          exact ⟨⟨_, s6' _ _ hd5, kept_val (i := 0) ndS rfl rfl, kept_val (i := 1) ndS rfl rfl, kept_val (i := 4) ndS rfl rfl, kept_val (i := 2) ndS rfl rfl, kept_val (i := 3) ndS rfl rfl, kept_val (i := 5) ndS rfl rfl⟩, s6' _ _ hl35, rows5.same s6', s6' _ _ hr45, tp5.same s6'⟩
        have sdG6 := sdG5.trans (del_mono s6')
        refine ⟨_, rfl, _, rfl, x, d, l3, r4, us3, ys4, R1, S, bb, rfl, hx5.same s6', ok1, lo1, pD, loS, ezS, fun z hz G7 s7 => ⟨_, _, rfl, ?_⟩, fun wn G7 y s7 ny hy => ⟨_, _, rfl, ?_⟩⟩
        · rw [hz]
          refine ⟨⟨_, rfl, rfl, _, rfl, iteT ⟨_, rfl, _, rfl, rfl, _, rfl, ?_⟩⟩, ?_⟩
          · have e : (!decide (V.str z = optV (some z))) = false := by
              rw [show optV (some z) = V.str z from rfl, decide_eq_true rfl]
              rfl
            rw [e]
            exact iteF ⟨_, rfl, rfl, _, rfl, iteF ⟨rfl, Same.refl _⟩⟩
          rintro c G8 ⟨rfl, s8'⟩
          exact iteF ⟨_, _, _, _, _, _, rfl, P5'.same ((s6'.trans s7).trans s8'), sdG6.trans (del_mono (s7.trans s8'))⟩
        · rw [wn]
          refine ⟨⟨_, rfl, rfl, _, rfl, iteF ?_⟩, ?_⟩
          · have okM := loose_ok loM wn
            have alM : Alike (R1.mix S bb) (R1.mix S bb) := ⟨rfl, rfl, rfl, rfl, rfl, rfl, rfl⟩
            refine iteF ⟨_, rfl, rfl, _, rfl, iteT ⟨_, rfl, _, rfl, p, R1.mix S bb, rfl, pmD.same (s6'.trans s7), okM, loM.words, m1, (by show R1.m ≤ 10; omega), fun G8 z2 s8' nz2 hz2 => ?_⟩⟩
            obtain ⟨yc, yr, yl, yd, yys, yus, yat⟩ := id (hy.same s8')
            obtain ⟨ydx, yob⟩ := yat.ob
            obtain ⟨zc, zr, zl, zd, zys, zus, zat⟩ := id hz2
            obtain ⟨zdx, zob⟩ := zat.ob
            refine ⟨y, _, z2, _, _, _, rfl, rfl, yob, zob, y, z2, R1.mix S bb, R1.mix S bb, rfl, hy.same s8', hz2, okM, okM, alM, fun G9 s9' => ⟨_, rfl, _, rfl, ?_⟩⟩
            rw [decide_eq_true rfl]
            exact ⟨rfl, s8'.trans s9'⟩
          rintro c G8 ⟨rfl, s8'⟩
          exact iteF ⟨_, _, _, _, _, _, rfl, P5'.same ((s6'.trans s7).trans s8'), sdG6.trans (del_mono (s7.trans s8'))⟩
      rintro σ G ⟨v12, v13, v14, v15, v16, v17, rfl, PG, sdG⟩
      have hxG := (hxA.same sdG).same del_le
      obtain ⟨xc, xr, xl, xd, xys, xus, xat⟩ := id hxG
      obtain ⟨xdx, xob⟩ := xat.ob
      refine ⟨_, rfl, _, rfl, g1, R1, rfl, ⟨wo1, l1, r1, us1, ys1, (pmA.same sdG).same del_le⟩, ok1, w1, m1, by omega, fun H15 z s15 nz hz => ?_⟩
      obtain ⟨zc, zr, zl, zd, zys, zus, zat⟩ := id hz
      obtain ⟨zdx, zob⟩ := zat.ob
      refine ⟨x, _, z, _, _, _, rfl, rfl, s15 _ _ xob, zob, x, z, R1, R1, rfl, hxG.same s15, hz, ok1, ok1, alR, fun H16 s16 => ⟨_, rfl, _, rfl, ?_⟩⟩
      rw [decide_eq_true rfl]
      refine iteF ?_
      exact ⟨_, _, _, _, _, _, _, _, _, _, _, _, _, _, _, _, rfl, (S14 sdG).trans (s15.trans s16)⟩
    · rintro σ H' _
      exact q H'
end
end K09

set_option Elab.async false
set_option linter.all false
set_option maxRecDepth 100000
set_option maxHeartbeats 4000000
namespace K09
open PySem PySem.Spec PyProof.Rows L2
section
variable {K : PySem.W.Frag}
theorem vals_app : ∀ {xs ys : List V} {us ws : List Value}, Vals xs us → Vals ys ws → Vals (xs ++ ys) (us ++ ws)
  | _, _, _, _, .nil, h => h
  | _, _, _, _, .cons r t, h => .cons r (vals_app t h)
theorem vals_take : ∀ (n : Nat) {xs : List V} {us : List Value}, Vals xs us → Vals (xs.take n) (us.take n)
  | 0, _, _, _ => by rw [List.take_zero, List.take_zero]; exact .nil
  | n + 1, _, _, .nil => .nil
  | n + 1, _, _, .cons r t => .cons r (vals_take n t)
theorem vals_drop : ∀ (n : Nat) {xs : List V} {us : List Value}, Vals xs us → Vals (xs.drop n) (us.drop n)
  | 0, _, _, h => h
  | n + 1, _, _, .nil => .nil
  | n + 1, _, _, .cons r t => vals_drop n t
theorem kb_rule {f : Addr} {fd : FuncData} (F : FunD K "__init__" "Rule.__init__" (defArgs sRuleInit) (defBody sRuleInit) (defScope sRuleInit) [] ruKws f fd) : ∃ g : List Value → List Value → List Value, KBn K fd ruPs 2 ruKs g (fun vs zs => vs ++ zs) := by
  obtain ⟨mv, h⟩ := F.kbinds0 2 ruKs [] (ps := ruPs) (fun us mv ws => us ++ ws) (by decide) (fun q h => by cases h) (fun r1 _ r3 => vals_app r1 r3) (fun D doc pm an cdv ct us mv ws l1 l2 l3 => match us, ws, l1, l3 with
    | [_, _], [_, _, _, _, _, _], _, _ => rfl)
  exact ⟨_, h⟩
end
section
variable {P : Program} {w : World} {K : PySem.W.Frag} {mg : Str → Option Value} {base : Heap} {C : Addr}
abbrev sLwList : Stmt := sList
theorem ok_needCrowd {f : Addr} {fd : FuncData} (F : Fun K "need_crowd" "need_crowd" sNeedCrowd f fd) (gC : mg "Crowd" = some (.ref C)) (k1 : PySem.W.kitOne K (.ref C) (.ref C) = some true) (io : IsOwn K C) (T : Tx mg) : FnOk P w K mg base CX0 1 f fd ["crowd"] (spNeedCrowd C) := by
  refine F.ok scNeedCrowd (fun vs H Q E h => ?_) (fun cdv A outer s H vs Q E hr h => ?_)
  · obtain ⟨c, zs, m, rfl, _⟩ := h
    rfl
  · obtain ⟨c, zs, m, rfl, ⟨dx, l, hx, hl⟩, q⟩ := h
    refine ⟨_, pss_one (ps_if (pt_not (pt_val (pe_callB call_isi (by rfl) T.isi (by decide +kernel) (pa_cons (pv 0) (pa_cons (pe_glob (v := .ref C) (by rfl) gC rfl) pa_nil))))) pss_never pss_nil), ?_⟩
    exact ⟨_, rfl, .ref c, .ref C, _, _, _, rfl, .own C, io.ty hx, k1, _, rfl, iteF q⟩
end
end K09

set_option Elab.async false
set_option linter.all false
set_option maxRecDepth 100000
set_option maxHeartbeats 4000000
namespace K09
open PySem PySem.Spec PyProof.Rows L2
theorem all_mk {l : PySem.W.OpenLaw} {w : World} {K : PySem.W.Frag} {h : Heap} {mg : Str → Option Value} {fa fIsInteger fIsIntegerWithin fIsWord fArePeople fNeedCrowd fIsTurn fAreReads fIsGather fIsTrim fAreLists fListsInOrder fIsShortOfReaders fPartsButReads fIsLikeButForReads fOpened fDraw fPick fPeople fPairs fParted fUnlike fReaders fLwList fPlan fMade fFirstWrong fChanged fLaw CMarksError CBadCrowd fBadCrowdInit CBadRule fBadRuleInit CCrowd fCrowdInit fCrowdLen fCrowdContains fCrowdEq fCrowdPairs fCrowdIsPair fCrowdPeople pCrowdPeople CRule fRuleInit DRuleInit fRuleEq fRuleChanged DRuleChanged fRuleReads pRuleReads fRuleLists pRuleLists TTURNS TGATHERS TGATHERS_OF_TURNED_ROWS : Addr} (X : K.In h) (G : h.Ns mainGlobals mg) (hfa : mg "law" = some (.ref fa))
    {ocIsInteger kVIsInteger dcIsInteger pmIsInteger cdIsInteger ctIsInteger : Value} {odIsInteger anIsInteger : Option Addr} {slIsInteger : Array (Option Value)}
    {ocIsIntegerWithin kVIsIntegerWithin dcIsIntegerWithin pmIsIntegerWithin cdIsIntegerWithin ctIsIntegerWithin : Value} {odIsIntegerWithin anIsIntegerWithin : Option Addr} {slIsIntegerWithin : Array (Option Value)}
    {ocIsWord kVIsWord dcIsWord pmIsWord cdIsWord ctIsWord : Value} {odIsWord anIsWord : Option Addr} {slIsWord : Array (Option Value)}
    {ocArePeople kVArePeople dcArePeople pmArePeople cdArePeople ctArePeople : Value} {odArePeople anArePeople : Option Addr} {slArePeople : Array (Option Value)}
    {ocNeedCrowd kVNeedCrowd dcNeedCrowd pmNeedCrowd cdNeedCrowd ctNeedCrowd : Value} {odNeedCrowd anNeedCrowd : Option Addr} {slNeedCrowd : Array (Option Value)}
    {ocIsTurn kVIsTurn dcIsTurn pmIsTurn cdIsTurn ctIsTurn : Value} {odIsTurn anIsTurn : Option Addr} {slIsTurn : Array (Option Value)}
    {ocAreReads kVAreReads dcAreReads pmAreReads cdAreReads ctAreReads : Value} {odAreReads anAreReads : Option Addr} {slAreReads : Array (Option Value)}
    {ocIsGather kVIsGather dcIsGather pmIsGather cdIsGather ctIsGather : Value} {odIsGather anIsGather : Option Addr} {slIsGather : Array (Option Value)}
    {ocIsTrim kVIsTrim dcIsTrim pmIsTrim cdIsTrim ctIsTrim : Value} {odIsTrim anIsTrim : Option Addr} {slIsTrim : Array (Option Value)}
    {ocAreLists kVAreLists dcAreLists pmAreLists cdAreLists ctAreLists : Value} {odAreLists anAreLists : Option Addr} {slAreLists : Array (Option Value)}
    {ocListsInOrder kVListsInOrder dcListsInOrder pmListsInOrder cdListsInOrder ctListsInOrder : Value} {odListsInOrder anListsInOrder : Option Addr} {slListsInOrder : Array (Option Value)}
    {ocIsShortOfReaders kVIsShortOfReaders dcIsShortOfReaders pmIsShortOfReaders cdIsShortOfReaders ctIsShortOfReaders : Value} {odIsShortOfReaders anIsShortOfReaders : Option Addr} {slIsShortOfReaders : Array (Option Value)}
    {ocPartsButReads kVPartsButReads dcPartsButReads pmPartsButReads cdPartsButReads ctPartsButReads : Value} {odPartsButReads anPartsButReads : Option Addr} {slPartsButReads : Array (Option Value)}
    {ocIsLikeButForReads kVIsLikeButForReads dcIsLikeButForReads pmIsLikeButForReads cdIsLikeButForReads ctIsLikeButForReads : Value} {odIsLikeButForReads anIsLikeButForReads : Option Addr} {slIsLikeButForReads : Array (Option Value)}
    {ocOpened kVOpened dcOpened pmOpened cdOpened ctOpened : Value} {odOpened anOpened : Option Addr} {slOpened : Array (Option Value)}
    {ocDraw kVDraw dcDraw pmDraw cdDraw ctDraw : Value} {odDraw anDraw : Option Addr} {slDraw : Array (Option Value)}
    {ocPick kVPick dcPick pmPick cdPick ctPick : Value} {odPick anPick : Option Addr} {slPick : Array (Option Value)}
    {ocPeople kVPeople dcPeople pmPeople cdPeople ctPeople : Value} {odPeople anPeople : Option Addr} {slPeople : Array (Option Value)}
    {ocPairs kVPairs dcPairs pmPairs cdPairs ctPairs : Value} {odPairs anPairs : Option Addr} {slPairs : Array (Option Value)}
    {ocParted kVParted dcParted pmParted cdParted ctParted : Value} {odParted anParted : Option Addr} {slParted : Array (Option Value)}
    {ocUnlike kVUnlike dcUnlike pmUnlike cdUnlike ctUnlike : Value} {odUnlike anUnlike : Option Addr} {slUnlike : Array (Option Value)}
    {ocReaders kVReaders dcReaders pmReaders cdReaders ctReaders : Value} {odReaders anReaders : Option Addr} {slReaders : Array (Option Value)}
    {ocLwList kVLwList dcLwList pmLwList cdLwList ctLwList : Value} {odLwList anLwList : Option Addr} {slLwList : Array (Option Value)}
    {ocPlan kVPlan dcPlan pmPlan cdPlan ctPlan : Value} {odPlan anPlan : Option Addr} {slPlan : Array (Option Value)}
    {ocMade kVMade dcMade pmMade cdMade ctMade : Value} {odMade anMade : Option Addr} {slMade : Array (Option Value)}
    {ocFirstWrong kVFirstWrong dcFirstWrong pmFirstWrong cdFirstWrong ctFirstWrong : Value} {odFirstWrong anFirstWrong : Option Addr} {slFirstWrong : Array (Option Value)}
    {ocChanged kVChanged dcChanged pmChanged cdChanged ctChanged : Value} {odChanged anChanged : Option Addr} {slChanged : Array (Option Value)}
    {ocLaw kVLaw dcLaw pmLaw cdLaw ctLaw : Value} {odLaw anLaw : Option Addr} {slLaw : Array (Option Value)}
    {nmBadCrowd qBadCrowd : Str} {NBadCrowd : Addr} {bsBadCrowd : List Value} {snBadCrowd : List Str} {subBadCrowd : List Value} {abBadCrowd : Bool} {colBadCrowd : Option Bool} {ddBadCrowd : Option Addr} {m0BadCrowd m1BadCrowd m2BadCrowd m3BadCrowd m5BadCrowd : Option Value}
    {ocBadCrowdInit kVBadCrowdInit dcBadCrowdInit pmBadCrowdInit cdBadCrowdInit ctBadCrowdInit : Value} {odBadCrowdInit anBadCrowdInit : Option Addr} {slBadCrowdInit : Array (Option Value)}
    {nmBadRule qBadRule : Str} {NBadRule : Addr} {bsBadRule : List Value} {snBadRule : List Str} {subBadRule : List Value} {abBadRule : Bool} {colBadRule : Option Bool} {ddBadRule : Option Addr} {m0BadRule m1BadRule m2BadRule m3BadRule m5BadRule : Option Value}
    {ocBadRuleInit kVBadRuleInit dcBadRuleInit pmBadRuleInit cdBadRuleInit ctBadRuleInit : Value} {odBadRuleInit anBadRuleInit : Option Addr} {slBadRuleInit : Array (Option Value)}
    {ocCrowdInit kVCrowdInit dcCrowdInit pmCrowdInit cdCrowdInit ctCrowdInit : Value} {odCrowdInit anCrowdInit : Option Addr} {slCrowdInit : Array (Option Value)}
    {ocCrowdLen kVCrowdLen dcCrowdLen pmCrowdLen cdCrowdLen ctCrowdLen : Value} {odCrowdLen anCrowdLen : Option Addr} {slCrowdLen : Array (Option Value)}
    {ocCrowdContains kVCrowdContains dcCrowdContains pmCrowdContains cdCrowdContains ctCrowdContains : Value} {odCrowdContains anCrowdContains : Option Addr} {slCrowdContains : Array (Option Value)}
    {ocCrowdEq kVCrowdEq dcCrowdEq pmCrowdEq cdCrowdEq ctCrowdEq : Value} {odCrowdEq anCrowdEq : Option Addr} {slCrowdEq : Array (Option Value)}
    {ocCrowdPairs kVCrowdPairs dcCrowdPairs pmCrowdPairs cdCrowdPairs ctCrowdPairs : Value} {odCrowdPairs anCrowdPairs : Option Addr} {slCrowdPairs : Array (Option Value)}
    {ocCrowdIsPair kVCrowdIsPair dcCrowdIsPair pmCrowdIsPair cdCrowdIsPair ctCrowdIsPair : Value} {odCrowdIsPair anCrowdIsPair : Option Addr} {slCrowdIsPair : Array (Option Value)}
    {restCrowdPeople : List Value}
    {ocCrowdPeople kVCrowdPeople dcCrowdPeople pmCrowdPeople cdCrowdPeople ctCrowdPeople : Value} {odCrowdPeople anCrowdPeople : Option Addr} {slCrowdPeople : Array (Option Value)}
    {ocRuleInit dcRuleInit pmRuleInit cdRuleInit ctRuleInit : Value} {odRuleInit anRuleInit : Option Addr} {slRuleInit : Array (Option Value)}
    {tRuleInit_turn : Tok}
    {tRuleInit_gather : Tok}
    {tRuleInit_trim : Tok}
    {tRuleInit_prizes : Tok}
    {ocRuleEq kVRuleEq dcRuleEq pmRuleEq cdRuleEq ctRuleEq : Value} {odRuleEq anRuleEq : Option Addr} {slRuleEq : Array (Option Value)}
    {ocRuleChanged dcRuleChanged pmRuleChanged cdRuleChanged ctRuleChanged : Value} {odRuleChanged anRuleChanged : Option Addr} {slRuleChanged : Array (Option Value)}
    {restRuleReads : List Value}
    {ocRuleReads kVRuleReads dcRuleReads pmRuleReads cdRuleReads ctRuleReads : Value} {odRuleReads anRuleReads : Option Addr} {slRuleReads : Array (Option Value)}
    {restRuleLists : List Value}
    {ocRuleLists kVRuleLists dcRuleLists pmRuleLists cdRuleLists ctRuleLists : Value} {odRuleLists anRuleLists : Option Addr} {slRuleLists : Array (Option Value)}
    {t_LETTERS : Tok}
    {t_LONGEST : Tok}
    {t_MOST_PEOPLE : Tok}
    {t_GREATEST_MARK : Tok}
    {t_GREATEST_TRIM : Tok}
    {t_MOST_PRIZES : Tok}
    {odTURNS : Option Addr} {nTURNS : Nat} {slTURNS : Array (Option Value)} {tTURNS0 tTURNS1 tTURNS2 : Tok}
    {odGATHERS : Option Addr} {nGATHERS : Nat} {slGATHERS : Array (Option Value)} {tGATHERS0 tGATHERS1 tGATHERS2 tGATHERS3 tGATHERS4 tGATHERS5 : Tok}
    {odGATHERS_OF_TURNED_ROWS : Option Addr} {nGATHERS_OF_TURNED_ROWS : Nat} {slGATHERS_OF_TURNED_ROWS : Array (Option Value)} {tGATHERS_OF_TURNED_ROWS0 tGATHERS_OF_TURNED_ROWS1 : Tok}
    
    (aIsInteger : PySem.W.nsIn K mainGlobals "is_integer" = some (some (.ref fIsInteger)))
    (lIsInteger : K.lookup fIsInteger = some ⟨ocIsInteger, odIsInteger, .func (PySem.W.fnOf "is_integer" "is_integer" (defArgs sIsInteger) (defBody sIsInteger) (defScope sIsInteger) .none kVIsInteger dcIsInteger pmIsInteger anIsInteger cdIsInteger ctIsInteger), slIsInteger⟩)
    (cIsInteger : PySem.W.codeIn K cdIsInteger "is_integer" = true)
    (kIsInteger : PySem.W.keepIn K (.ref fIsInteger) = true)
    (aIsIntegerWithin : PySem.W.nsIn K mainGlobals "is_integer_within" = some (some (.ref fIsIntegerWithin)))
    (lIsIntegerWithin : K.lookup fIsIntegerWithin = some ⟨ocIsIntegerWithin, odIsIntegerWithin, .func (PySem.W.fnOf "is_integer_within" "is_integer_within" (defArgs sIsIntegerWithin) (defBody sIsIntegerWithin) (defScope sIsIntegerWithin) .none kVIsIntegerWithin dcIsIntegerWithin pmIsIntegerWithin anIsIntegerWithin cdIsIntegerWithin ctIsIntegerWithin), slIsIntegerWithin⟩)
    (cIsIntegerWithin : PySem.W.codeIn K cdIsIntegerWithin "is_integer_within" = true)
    (kIsIntegerWithin : PySem.W.keepIn K (.ref fIsIntegerWithin) = true)
    (aIsWord : PySem.W.nsIn K mainGlobals "is_word" = some (some (.ref fIsWord)))
    (lIsWord : K.lookup fIsWord = some ⟨ocIsWord, odIsWord, .func (PySem.W.fnOf "is_word" "is_word" (defArgs sIsWord) (defBody sIsWord) (defScope sIsWord) .none kVIsWord dcIsWord pmIsWord anIsWord cdIsWord ctIsWord), slIsWord⟩)
    (cIsWord : PySem.W.codeIn K cdIsWord "is_word" = true)
    (kIsWord : PySem.W.keepIn K (.ref fIsWord) = true)
    (aArePeople : PySem.W.nsIn K mainGlobals "are_people" = some (some (.ref fArePeople)))
    (lArePeople : K.lookup fArePeople = some ⟨ocArePeople, odArePeople, .func (PySem.W.fnOf "are_people" "are_people" (defArgs sArePeople) (defBody sArePeople) (defScope sArePeople) .none kVArePeople dcArePeople pmArePeople anArePeople cdArePeople ctArePeople), slArePeople⟩)
    (cArePeople : PySem.W.codeIn K cdArePeople "are_people" = true)
    (kArePeople : PySem.W.keepIn K (.ref fArePeople) = true)
    (aNeedCrowd : PySem.W.nsIn K mainGlobals "need_crowd" = some (some (.ref fNeedCrowd)))
    (lNeedCrowd : K.lookup fNeedCrowd = some ⟨ocNeedCrowd, odNeedCrowd, .func (PySem.W.fnOf "need_crowd" "need_crowd" (defArgs sNeedCrowd) (defBody sNeedCrowd) (defScope sNeedCrowd) .none kVNeedCrowd dcNeedCrowd pmNeedCrowd anNeedCrowd cdNeedCrowd ctNeedCrowd), slNeedCrowd⟩)
    (cNeedCrowd : PySem.W.codeIn K cdNeedCrowd "need_crowd" = true)
    (kNeedCrowd : PySem.W.keepIn K (.ref fNeedCrowd) = true)
    (aIsTurn : PySem.W.nsIn K mainGlobals "is_turn" = some (some (.ref fIsTurn)))
    (lIsTurn : K.lookup fIsTurn = some ⟨ocIsTurn, odIsTurn, .func (PySem.W.fnOf "is_turn" "is_turn" (defArgs sIsTurn) (defBody sIsTurn) (defScope sIsTurn) .none kVIsTurn dcIsTurn pmIsTurn anIsTurn cdIsTurn ctIsTurn), slIsTurn⟩)
    (cIsTurn : PySem.W.codeIn K cdIsTurn "is_turn" = true)
    (kIsTurn : PySem.W.keepIn K (.ref fIsTurn) = true)
    (aAreReads : PySem.W.nsIn K mainGlobals "are_reads" = some (some (.ref fAreReads)))
    (lAreReads : K.lookup fAreReads = some ⟨ocAreReads, odAreReads, .func (PySem.W.fnOf "are_reads" "are_reads" (defArgs sAreReads) (defBody sAreReads) (defScope sAreReads) .none kVAreReads dcAreReads pmAreReads anAreReads cdAreReads ctAreReads), slAreReads⟩)
    (cAreReads : PySem.W.codeIn K cdAreReads "are_reads" = true)
    (kAreReads : PySem.W.keepIn K (.ref fAreReads) = true)
    (aIsGather : PySem.W.nsIn K mainGlobals "is_gather" = some (some (.ref fIsGather)))
    (lIsGather : K.lookup fIsGather = some ⟨ocIsGather, odIsGather, .func (PySem.W.fnOf "is_gather" "is_gather" (defArgs sIsGather) (defBody sIsGather) (defScope sIsGather) .none kVIsGather dcIsGather pmIsGather anIsGather cdIsGather ctIsGather), slIsGather⟩)
    (cIsGather : PySem.W.codeIn K cdIsGather "is_gather" = true)
    (kIsGather : PySem.W.keepIn K (.ref fIsGather) = true)
    (aIsTrim : PySem.W.nsIn K mainGlobals "is_trim" = some (some (.ref fIsTrim)))
    (lIsTrim : K.lookup fIsTrim = some ⟨ocIsTrim, odIsTrim, .func (PySem.W.fnOf "is_trim" "is_trim" (defArgs sIsTrim) (defBody sIsTrim) (defScope sIsTrim) .none kVIsTrim dcIsTrim pmIsTrim anIsTrim cdIsTrim ctIsTrim), slIsTrim⟩)
    (cIsTrim : PySem.W.codeIn K cdIsTrim "is_trim" = true)
    (kIsTrim : PySem.W.keepIn K (.ref fIsTrim) = true)
    (aAreLists : PySem.W.nsIn K mainGlobals "are_lists" = some (some (.ref fAreLists)))
    (lAreLists : K.lookup fAreLists = some ⟨ocAreLists, odAreLists, .func (PySem.W.fnOf "are_lists" "are_lists" (defArgs sAreLists) (defBody sAreLists) (defScope sAreLists) .none kVAreLists dcAreLists pmAreLists anAreLists cdAreLists ctAreLists), slAreLists⟩)
    (cAreLists : PySem.W.codeIn K cdAreLists "are_lists" = true)
    (kAreLists : PySem.W.keepIn K (.ref fAreLists) = true)
    (aListsInOrder : PySem.W.nsIn K mainGlobals "lists_in_order" = some (some (.ref fListsInOrder)))
    (lListsInOrder : K.lookup fListsInOrder = some ⟨ocListsInOrder, odListsInOrder, .func (PySem.W.fnOf "lists_in_order" "lists_in_order" (defArgs sListsInOrder) (defBody sListsInOrder) (defScope sListsInOrder) .none kVListsInOrder dcListsInOrder pmListsInOrder anListsInOrder cdListsInOrder ctListsInOrder), slListsInOrder⟩)
    (cListsInOrder : PySem.W.codeIn K cdListsInOrder "lists_in_order" = true)
    (kListsInOrder : PySem.W.keepIn K (.ref fListsInOrder) = true)
    (aIsShortOfReaders : PySem.W.nsIn K mainGlobals "is_short_of_readers" = some (some (.ref fIsShortOfReaders)))
    (lIsShortOfReaders : K.lookup fIsShortOfReaders = some ⟨ocIsShortOfReaders, odIsShortOfReaders, .func (PySem.W.fnOf "is_short_of_readers" "is_short_of_readers" (defArgs sIsShortOfReaders) (defBody sIsShortOfReaders) (defScope sIsShortOfReaders) .none kVIsShortOfReaders dcIsShortOfReaders pmIsShortOfReaders anIsShortOfReaders cdIsShortOfReaders ctIsShortOfReaders), slIsShortOfReaders⟩)
    (cIsShortOfReaders : PySem.W.codeIn K cdIsShortOfReaders "is_short_of_readers" = true)
    (kIsShortOfReaders : PySem.W.keepIn K (.ref fIsShortOfReaders) = true)
    (aPartsButReads : PySem.W.nsIn K mainGlobals "parts_but_reads" = some (some (.ref fPartsButReads)))
    (lPartsButReads : K.lookup fPartsButReads = some ⟨ocPartsButReads, odPartsButReads, .func (PySem.W.fnOf "parts_but_reads" "parts_but_reads" (defArgs sPartsButReads) (defBody sPartsButReads) (defScope sPartsButReads) .none kVPartsButReads dcPartsButReads pmPartsButReads anPartsButReads cdPartsButReads ctPartsButReads), slPartsButReads⟩)
    (cPartsButReads : PySem.W.codeIn K cdPartsButReads "parts_but_reads" = true)
    (kPartsButReads : PySem.W.keepIn K (.ref fPartsButReads) = true)
    (aIsLikeButForReads : PySem.W.nsIn K mainGlobals "is_like_but_for_reads" = some (some (.ref fIsLikeButForReads)))
    (lIsLikeButForReads : K.lookup fIsLikeButForReads = some ⟨ocIsLikeButForReads, odIsLikeButForReads, .func (PySem.W.fnOf "is_like_but_for_reads" "is_like_but_for_reads" (defArgs sIsLikeButForReads) (defBody sIsLikeButForReads) (defScope sIsLikeButForReads) .none kVIsLikeButForReads dcIsLikeButForReads pmIsLikeButForReads anIsLikeButForReads cdIsLikeButForReads ctIsLikeButForReads), slIsLikeButForReads⟩)
    (cIsLikeButForReads : PySem.W.codeIn K cdIsLikeButForReads "is_like_but_for_reads" = true)
    (kIsLikeButForReads : PySem.W.keepIn K (.ref fIsLikeButForReads) = true)
    (aOpened : PySem.W.nsIn K mainGlobals "_law_opened" = some (some (.ref fOpened)))
    (lOpened : K.lookup fOpened = some ⟨ocOpened, odOpened, .func (PySem.W.fnOf "_law_opened" "_law_opened" (defArgs sOpened) (defBody sOpened) (defScope sOpened) .none kVOpened dcOpened pmOpened anOpened cdOpened ctOpened), slOpened⟩)
    (cOpened : PySem.W.codeIn K cdOpened "_law_opened" = true)
    (kOpened : PySem.W.keepIn K (.ref fOpened) = true)
    (aDraw : PySem.W.nsIn K mainGlobals "_law_draw" = some (some (.ref fDraw)))
    (lDraw : K.lookup fDraw = some ⟨ocDraw, odDraw, .func (PySem.W.fnOf "_law_draw" "_law_draw" (defArgs sDraw) (defBody sDraw) (defScope sDraw) .none kVDraw dcDraw pmDraw anDraw cdDraw ctDraw), slDraw⟩)
    (cDraw : PySem.W.codeIn K cdDraw "_law_draw" = true)
    (kDraw : PySem.W.keepIn K (.ref fDraw) = true)
    (aPick : PySem.W.nsIn K mainGlobals "_law_pick" = some (some (.ref fPick)))
    (lPick : K.lookup fPick = some ⟨ocPick, odPick, .func (PySem.W.fnOf "_law_pick" "_law_pick" (defArgs sPick) (defBody sPick) (defScope sPick) .none kVPick dcPick pmPick anPick cdPick ctPick), slPick⟩)
    (cPick : PySem.W.codeIn K cdPick "_law_pick" = true)
    (kPick : PySem.W.keepIn K (.ref fPick) = true)
    (aPeople : PySem.W.nsIn K mainGlobals "_law_people" = some (some (.ref fPeople)))
    (lPeople : K.lookup fPeople = some ⟨ocPeople, odPeople, .func (PySem.W.fnOf "_law_people" "_law_people" (defArgs sPeople) (defBody sPeople) (defScope sPeople) .none kVPeople dcPeople pmPeople anPeople cdPeople ctPeople), slPeople⟩)
    (cPeople : PySem.W.codeIn K cdPeople "_law_people" = true)
    (kPeople : PySem.W.keepIn K (.ref fPeople) = true)
    (aPairs : PySem.W.nsIn K mainGlobals "_law_pairs" = some (some (.ref fPairs)))
    (lPairs : K.lookup fPairs = some ⟨ocPairs, odPairs, .func (PySem.W.fnOf "_law_pairs" "_law_pairs" (defArgs sPairs) (defBody sPairs) (defScope sPairs) .none kVPairs dcPairs pmPairs anPairs cdPairs ctPairs), slPairs⟩)
    (cPairs : PySem.W.codeIn K cdPairs "_law_pairs" = true)
    (kPairs : PySem.W.keepIn K (.ref fPairs) = true)
    (aParted : PySem.W.nsIn K mainGlobals "_law_parted" = some (some (.ref fParted)))
    (lParted : K.lookup fParted = some ⟨ocParted, odParted, .func (PySem.W.fnOf "_law_parted" "_law_parted" (defArgs sParted) (defBody sParted) (defScope sParted) .none kVParted dcParted pmParted anParted cdParted ctParted), slParted⟩)
    (cParted : PySem.W.codeIn K cdParted "_law_parted" = true)
    (kParted : PySem.W.keepIn K (.ref fParted) = true)
    (aUnlike : PySem.W.nsIn K mainGlobals "_law_unlike" = some (some (.ref fUnlike)))
    (lUnlike : K.lookup fUnlike = some ⟨ocUnlike, odUnlike, .func (PySem.W.fnOf "_law_unlike" "_law_unlike" (defArgs sUnlike) (defBody sUnlike) (defScope sUnlike) .none kVUnlike dcUnlike pmUnlike anUnlike cdUnlike ctUnlike), slUnlike⟩)
    (cUnlike : PySem.W.codeIn K cdUnlike "_law_unlike" = true)
    (kUnlike : PySem.W.keepIn K (.ref fUnlike) = true)
    (aReaders : PySem.W.nsIn K mainGlobals "_law_readers" = some (some (.ref fReaders)))
    (lReaders : K.lookup fReaders = some ⟨ocReaders, odReaders, .func (PySem.W.fnOf "_law_readers" "_law_readers" (defArgs sReaders) (defBody sReaders) (defScope sReaders) .none kVReaders dcReaders pmReaders anReaders cdReaders ctReaders), slReaders⟩)
    (cReaders : PySem.W.codeIn K cdReaders "_law_readers" = true)
    (kReaders : PySem.W.keepIn K (.ref fReaders) = true)
    (aLwList : PySem.W.nsIn K mainGlobals "_law_list" = some (some (.ref fLwList)))
    (lLwList : K.lookup fLwList = some ⟨ocLwList, odLwList, .func (PySem.W.fnOf "_law_list" "_law_list" (defArgs sLwList) (defBody sLwList) (defScope sLwList) .none kVLwList dcLwList pmLwList anLwList cdLwList ctLwList), slLwList⟩)
    (cLwList : PySem.W.codeIn K cdLwList "_law_list" = true)
    (kLwList : PySem.W.keepIn K (.ref fLwList) = true)
    (aPlan : PySem.W.nsIn K mainGlobals "_law_plan" = some (some (.ref fPlan)))
    (lPlan : K.lookup fPlan = some ⟨ocPlan, odPlan, .func (PySem.W.fnOf "_law_plan" "_law_plan" (defArgs sPlan) (defBody sPlan) (defScope sPlan) .none kVPlan dcPlan pmPlan anPlan cdPlan ctPlan), slPlan⟩)
    (cPlan : PySem.W.codeIn K cdPlan "_law_plan" = true)
    (kPlan : PySem.W.keepIn K (.ref fPlan) = true)
    (aMade : PySem.W.nsIn K mainGlobals "_law_made" = some (some (.ref fMade)))
    (lMade : K.lookup fMade = some ⟨ocMade, odMade, .func (PySem.W.fnOf "_law_made" "_law_made" (defArgs sMade) (defBody sMade) (defScope sMade) .none kVMade dcMade pmMade anMade cdMade ctMade), slMade⟩)
    (cMade : PySem.W.codeIn K cdMade "_law_made" = true)
    (kMade : PySem.W.keepIn K (.ref fMade) = true)
    (aFirstWrong : PySem.W.nsIn K mainGlobals "_law_first_wrong" = some (some (.ref fFirstWrong)))
    (lFirstWrong : K.lookup fFirstWrong = some ⟨ocFirstWrong, odFirstWrong, .func (PySem.W.fnOf "_law_first_wrong" "_law_first_wrong" (defArgs sFirstWrong) (defBody sFirstWrong) (defScope sFirstWrong) .none kVFirstWrong dcFirstWrong pmFirstWrong anFirstWrong cdFirstWrong ctFirstWrong), slFirstWrong⟩)
    (cFirstWrong : PySem.W.codeIn K cdFirstWrong "_law_first_wrong" = true)
    (kFirstWrong : PySem.W.keepIn K (.ref fFirstWrong) = true)
    (aChanged : PySem.W.nsIn K mainGlobals "_law_changed" = some (some (.ref fChanged)))
    (lChanged : K.lookup fChanged = some ⟨ocChanged, odChanged, .func (PySem.W.fnOf "_law_changed" "_law_changed" (defArgs sChanged) (defBody sChanged) (defScope sChanged) .none kVChanged dcChanged pmChanged anChanged cdChanged ctChanged), slChanged⟩)
    (cChanged : PySem.W.codeIn K cdChanged "_law_changed" = true)
    (kChanged : PySem.W.keepIn K (.ref fChanged) = true)
    (aLaw : PySem.W.nsIn K mainGlobals "law" = some (some (.ref fLaw)))
    (lLaw : K.lookup fLaw = some ⟨ocLaw, odLaw, .func (PySem.W.fnOf "law" "law" (defArgs sLaw) (defBody sLaw) (defScope sLaw) .none kVLaw dcLaw pmLaw anLaw cdLaw ctLaw), slLaw⟩)
    (cLaw : PySem.W.codeIn K cdLaw "law" = true)
    (kLaw : PySem.W.keepIn K (.ref fLaw) = true)
    (aMarksError : PySem.W.nsIn K mainGlobals "MarksError" = some (some (.ref CMarksError)))
    (aBadCrowd : PySem.W.nsIn K mainGlobals "BadCrowd" = some (some (.ref CBadCrowd)))
    (gaBadCrowd : PySem.W.findIn K (.ref CBadCrowd) "__getattribute__" = some (some (.builtin "BaseException.__getattribute__")))
    (ggBadCrowd : PySem.W.findIn K (.ref CBadCrowd) "__getattr__" = some none)
    (exBadCrowd : PySem.W.subIn K (.ref CBadCrowd) (.type "BaseException") = some true)
    (hdBadCrowd : PySem.W.hasDictIn K CBadCrowd = true)
    (noBadCrowd : PySem.W.findIn K (.ref CBadCrowd) "part" = some none)
    (ccBadCrowd : PySem.W.findIn K (.ref CBadCrowd) "__class__" = some (some (.builtin "object.__class__")))
    (mrBadCrowd : PySem.W.mroIn K CBadCrowd (.type "object") = some true)
    (spg : PySem.W.specialIn K (.builtin "object.__class__") "__get__" = some (some (.builtin "getset_descriptor.__get__")))
    (tkc : PySem.W.takesIn K (.builtin "object.__class__") = some true)
    (xBadCrowd : K.lookup CBadCrowd = some (excClassObj nmBadCrowd qBadCrowd CBadCrowd NBadCrowd bsBadCrowd (.ref CMarksError :: [.type "ValueError", .type "Exception", .type "BaseException", .type "object"]) true snBadCrowd subBadCrowd abBadCrowd colBadCrowd ddBadCrowd m0BadCrowd m1BadCrowd m2BadCrowd m3BadCrowd m5BadCrowd "ValueError.__new__"))
    (ssBadCrowd : PySem.W.subIn K (.ref CBadCrowd) (.ref CBadCrowd) = some true)
    (saBadCrowd : PySem.W.findIn K (.ref CBadCrowd) "__setattr__" = some (some (.builtin "object.__setattr__")))
    (tyBadCrowd : PySem.W.typeIn K (.ref CBadCrowd) = some (.type "type"))
    (kkBadCrowd : PySem.W.keepIn K (.ref CBadCrowd) = true)
    (iBadCrowd : PySem.W.findIn K (.ref CBadCrowd) "__init__" = some (some (.ref fBadCrowdInit)))
    (tBadCrowd : PySem.W.typeIn K (.ref fBadCrowdInit) = some (.type "function"))
    (lBadCrowdInit : K.lookup fBadCrowdInit = some ⟨ocBadCrowdInit, odBadCrowdInit, .func (PySem.W.fnOf "__init__" "BadCrowd.__init__" (defArgs sBadCrowdInit) (defBody sBadCrowdInit) (defScope sBadCrowdInit) .none kVBadCrowdInit dcBadCrowdInit pmBadCrowdInit anBadCrowdInit cdBadCrowdInit ctBadCrowdInit), slBadCrowdInit⟩)
    (cBadCrowdInit : PySem.W.codeIn K cdBadCrowdInit "BadCrowd.__init__" = true)
    (kBadCrowdInit : PySem.W.keepIn K (.ref fBadCrowdInit) = true)
    (aBadRule : PySem.W.nsIn K mainGlobals "BadRule" = some (some (.ref CBadRule)))
    (gaBadRule : PySem.W.findIn K (.ref CBadRule) "__getattribute__" = some (some (.builtin "BaseException.__getattribute__")))
    (ggBadRule : PySem.W.findIn K (.ref CBadRule) "__getattr__" = some none)
    (exBadRule : PySem.W.subIn K (.ref CBadRule) (.type "BaseException") = some true)
    (hdBadRule : PySem.W.hasDictIn K CBadRule = true)
    (noBadRule : PySem.W.findIn K (.ref CBadRule) "part" = some none)
    (ccBadRule : PySem.W.findIn K (.ref CBadRule) "__class__" = some (some (.builtin "object.__class__")))
    (mrBadRule : PySem.W.mroIn K CBadRule (.type "object") = some true)
    (xBadRule : K.lookup CBadRule = some (excClassObj nmBadRule qBadRule CBadRule NBadRule bsBadRule (.ref CMarksError :: [.type "ValueError", .type "Exception", .type "BaseException", .type "object"]) true snBadRule subBadRule abBadRule colBadRule ddBadRule m0BadRule m1BadRule m2BadRule m3BadRule m5BadRule "ValueError.__new__"))
    (ssBadRule : PySem.W.subIn K (.ref CBadRule) (.ref CBadRule) = some true)
    (saBadRule : PySem.W.findIn K (.ref CBadRule) "__setattr__" = some (some (.builtin "object.__setattr__")))
    (tyBadRule : PySem.W.typeIn K (.ref CBadRule) = some (.type "type"))
    (kkBadRule : PySem.W.keepIn K (.ref CBadRule) = true)
    (iBadRule : PySem.W.findIn K (.ref CBadRule) "__init__" = some (some (.ref fBadRuleInit)))
    (tBadRule : PySem.W.typeIn K (.ref fBadRuleInit) = some (.type "function"))
    (lBadRuleInit : K.lookup fBadRuleInit = some ⟨ocBadRuleInit, odBadRuleInit, .func (PySem.W.fnOf "__init__" "BadRule.__init__" (defArgs sBadRuleInit) (defBody sBadRuleInit) (defScope sBadRuleInit) .none kVBadRuleInit dcBadRuleInit pmBadRuleInit anBadRuleInit cdBadRuleInit ctBadRuleInit), slBadRuleInit⟩)
    (cBadRuleInit : PySem.W.codeIn K cdBadRuleInit "BadRule.__init__" = true)
    (kBadRuleInit : PySem.W.keepIn K (.ref fBadRuleInit) = true)
    (aCrowd : PySem.W.nsIn K mainGlobals "Crowd" = some (some (.ref CCrowd)))
    (pgCrowd : PySem.W.plainGet K CCrowd Str.empty = true)
    (hdCrowd : PySem.W.hasDictIn K CCrowd = true)
    (poCrowd : PySem.W.plainOver K CCrowd = true)
    (saCrowd : PySem.W.findIn K (.ref CCrowd) "__setattr__" = some (some (.builtin "object.__setattr__")))
    (mkCrowd : PySem.W.makesIn K CCrowd = true)
    (kcCrowd : PySem.W.keepIn K (.ref CCrowd) = true)
    (ccCrowd : PySem.W.findIn K (.ref CCrowd) "__class__" = some (some (.builtin "object.__class__")))
    (mrCrowd : PySem.W.mroIn K CCrowd (.type "object") = some true)
    (kitCrowd : PySem.W.kitOne K (.ref CCrowd) (.ref CCrowd) = some true)
    (noCrowd_people : PySem.W.findIn K (.ref CCrowd) "_people" = some none)
    (noCrowdmost : PySem.W.findIn K (.ref CCrowd) "most" = some none)
    (mCrowdInit : PySem.W.findIn K (.ref CCrowd) "__init__" = some (some (.ref fCrowdInit)))
    (isfCrowdInit : PySem.W.isFn K (.ref fCrowdInit) = true)
    (lCrowdInit : K.lookup fCrowdInit = some ⟨ocCrowdInit, odCrowdInit, .func (PySem.W.fnOf "__init__" "Crowd.__init__" (defArgs sCrowdInit) (defBody sCrowdInit) (defScope sCrowdInit) .none kVCrowdInit dcCrowdInit pmCrowdInit anCrowdInit cdCrowdInit ctCrowdInit), slCrowdInit⟩)
    (cCrowdInit : PySem.W.codeIn K cdCrowdInit "Crowd.__init__" = true)
    (kCrowdInit : PySem.W.keepIn K (.ref fCrowdInit) = true)
    (mCrowdLen : PySem.W.findIn K (.ref CCrowd) "__len__" = some (some (.ref fCrowdLen)))
    (isfCrowdLen : PySem.W.isFn K (.ref fCrowdLen) = true)
    (lCrowdLen : K.lookup fCrowdLen = some ⟨ocCrowdLen, odCrowdLen, .func (PySem.W.fnOf "__len__" "Crowd.__len__" (defArgs sCrowdLen) (defBody sCrowdLen) (defScope sCrowdLen) .none kVCrowdLen dcCrowdLen pmCrowdLen anCrowdLen cdCrowdLen ctCrowdLen), slCrowdLen⟩)
    (cCrowdLen : PySem.W.codeIn K cdCrowdLen "Crowd.__len__" = true)
    (kCrowdLen : PySem.W.keepIn K (.ref fCrowdLen) = true)
    (mCrowdContains : PySem.W.findIn K (.ref CCrowd) "__contains__" = some (some (.ref fCrowdContains)))
    (isfCrowdContains : PySem.W.isFn K (.ref fCrowdContains) = true)
    (lCrowdContains : K.lookup fCrowdContains = some ⟨ocCrowdContains, odCrowdContains, .func (PySem.W.fnOf "__contains__" "Crowd.__contains__" (defArgs sCrowdContains) (defBody sCrowdContains) (defScope sCrowdContains) .none kVCrowdContains dcCrowdContains pmCrowdContains anCrowdContains cdCrowdContains ctCrowdContains), slCrowdContains⟩)
    (cCrowdContains : PySem.W.codeIn K cdCrowdContains "Crowd.__contains__" = true)
    (kCrowdContains : PySem.W.keepIn K (.ref fCrowdContains) = true)
    (mCrowdEq : PySem.W.findIn K (.ref CCrowd) "__eq__" = some (some (.ref fCrowdEq)))
    (isfCrowdEq : PySem.W.isFn K (.ref fCrowdEq) = true)
    (lCrowdEq : K.lookup fCrowdEq = some ⟨ocCrowdEq, odCrowdEq, .func (PySem.W.fnOf "__eq__" "Crowd.__eq__" (defArgs sCrowdEq) (defBody sCrowdEq) (defScope sCrowdEq) .none kVCrowdEq dcCrowdEq pmCrowdEq anCrowdEq cdCrowdEq ctCrowdEq), slCrowdEq⟩)
    (cCrowdEq : PySem.W.codeIn K cdCrowdEq "Crowd.__eq__" = true)
    (kCrowdEq : PySem.W.keepIn K (.ref fCrowdEq) = true)
    (mCrowdPairs : PySem.W.findIn K (.ref CCrowd) "pairs" = some (some (.ref fCrowdPairs)))
    (isfCrowdPairs : PySem.W.isFn K (.ref fCrowdPairs) = true)
    (lCrowdPairs : K.lookup fCrowdPairs = some ⟨ocCrowdPairs, odCrowdPairs, .func (PySem.W.fnOf "pairs" "Crowd.pairs" (defArgs sCrowdPairs) (defBody sCrowdPairs) (defScope sCrowdPairs) .none kVCrowdPairs dcCrowdPairs pmCrowdPairs anCrowdPairs cdCrowdPairs ctCrowdPairs), slCrowdPairs⟩)
    (cCrowdPairs : PySem.W.codeIn K cdCrowdPairs "Crowd.pairs" = true)
    (kCrowdPairs : PySem.W.keepIn K (.ref fCrowdPairs) = true)
    (mCrowdIsPair : PySem.W.findIn K (.ref CCrowd) "is_pair" = some (some (.ref fCrowdIsPair)))
    (isfCrowdIsPair : PySem.W.isFn K (.ref fCrowdIsPair) = true)
    (lCrowdIsPair : K.lookup fCrowdIsPair = some ⟨ocCrowdIsPair, odCrowdIsPair, .func (PySem.W.fnOf "is_pair" "Crowd.is_pair" (defArgs sCrowdIsPair) (defBody sCrowdIsPair) (defScope sCrowdIsPair) .none kVCrowdIsPair dcCrowdIsPair pmCrowdIsPair anCrowdIsPair cdCrowdIsPair ctCrowdIsPair), slCrowdIsPair⟩)
    (cCrowdIsPair : PySem.W.codeIn K cdCrowdIsPair "Crowd.is_pair" = true)
    (kCrowdIsPair : PySem.W.keepIn K (.ref fCrowdIsPair) = true)
    (mCrowdPeople : PySem.W.findIn K (.ref CCrowd) "people" = some (some (.ref pCrowdPeople)))
    (pgCrowdPeople : PySem.W.specialIn K (.ref pCrowdPeople) "__get__" = some (some (.builtin "property.__get__")))
    (ptCrowdPeople : PySem.W.takesIn K (.ref pCrowdPeople) = some true)
    (prCrowdPeople : PySem.W.recIn K pCrowdPeople "property" = some (.ref fCrowdPeople :: restCrowdPeople))
    (lCrowdPeople : K.lookup fCrowdPeople = some ⟨ocCrowdPeople, odCrowdPeople, .func (PySem.W.fnOf "people" "Crowd.people" (defArgs sCrowdPeople) (defBody sCrowdPeople) (defScope sCrowdPeople) .none kVCrowdPeople dcCrowdPeople pmCrowdPeople anCrowdPeople cdCrowdPeople ctCrowdPeople), slCrowdPeople⟩)
    (cCrowdPeople : PySem.W.codeIn K cdCrowdPeople "Crowd.people" = true)
    (kCrowdPeople : PySem.W.keepIn K (.ref fCrowdPeople) = true)
    (aRule : PySem.W.nsIn K mainGlobals "Rule" = some (some (.ref CRule)))
    (pgRule : PySem.W.plainGet K CRule Str.empty = true)
    (hdRule : PySem.W.hasDictIn K CRule = true)
    (poRule : PySem.W.plainOver K CRule = true)
    (saRule : PySem.W.findIn K (.ref CRule) "__setattr__" = some (some (.builtin "object.__setattr__")))
    (mkRule : PySem.W.makesIn K CRule = true)
    (kcRule : PySem.W.keepIn K (.ref CRule) = true)
    (ccRule : PySem.W.findIn K (.ref CRule) "__class__" = some (some (.builtin "object.__class__")))
    (mrRule : PySem.W.mroIn K CRule (.type "object") = some true)
    (kitRule : PySem.W.kitOne K (.ref CRule) (.ref CRule) = some true)
    (noRulecrowd : PySem.W.findIn K (.ref CRule) "crowd" = some none)
    (noRuleturn : PySem.W.findIn K (.ref CRule) "turn" = some none)
    (noRulegather : PySem.W.findIn K (.ref CRule) "gather" = some none)
    (noRuletrim : PySem.W.findIn K (.ref CRule) "trim" = some none)
    (noRuleprizes : PySem.W.findIn K (.ref CRule) "prizes" = some none)
    (noRule_reads : PySem.W.findIn K (.ref CRule) "_reads" = some none)
    (noRule_lists : PySem.W.findIn K (.ref CRule) "_lists" = some none)
    (noRule_readers : PySem.W.findIn K (.ref CRule) "_readers" = some none)
    (mRuleInit : PySem.W.findIn K (.ref CRule) "__init__" = some (some (.ref fRuleInit)))
    (isfRuleInit : PySem.W.isFn K (.ref fRuleInit) = true)
    (lRuleInit : K.lookup fRuleInit = some ⟨ocRuleInit, odRuleInit, .func (PySem.W.fnOf "__init__" "Rule.__init__" (defArgs sRuleInit) (defBody sRuleInit) (defScope sRuleInit) .none (.ref DRuleInit) dcRuleInit pmRuleInit anRuleInit cdRuleInit ctRuleInit), slRuleInit⟩)
    (cRuleInit : PySem.W.codeIn K cdRuleInit "Rule.__init__" = true)
    (kRuleInit : PySem.W.keepIn K (.ref fRuleInit) = true)
    (dRuleInit_turn : PySem.W.nsIn K DRuleInit "turn" = some (some (.str "plain" tRuleInit_turn)))
    (dRuleInit_reads : PySem.W.nsIn K DRuleInit "reads" = some (some .none))
    (dRuleInit_gather : PySem.W.nsIn K DRuleInit "gather" = some (some (.str "sum" tRuleInit_gather)))
    (dRuleInit_trim : PySem.W.nsIn K DRuleInit "trim" = some (some (.int 0 tRuleInit_trim)))
    (dRuleInit_lists : PySem.W.nsIn K DRuleInit "lists" = some (some .none))
    (dRuleInit_prizes : PySem.W.nsIn K DRuleInit "prizes" = some (some (.int 0 tRuleInit_prizes)))
    (mRuleEq : PySem.W.findIn K (.ref CRule) "__eq__" = some (some (.ref fRuleEq)))
    (isfRuleEq : PySem.W.isFn K (.ref fRuleEq) = true)
    (lRuleEq : K.lookup fRuleEq = some ⟨ocRuleEq, odRuleEq, .func (PySem.W.fnOf "__eq__" "Rule.__eq__" (defArgs sRuleEq) (defBody sRuleEq) (defScope sRuleEq) .none kVRuleEq dcRuleEq pmRuleEq anRuleEq cdRuleEq ctRuleEq), slRuleEq⟩)
    (cRuleEq : PySem.W.codeIn K cdRuleEq "Rule.__eq__" = true)
    (kRuleEq : PySem.W.keepIn K (.ref fRuleEq) = true)
    (mRuleChanged : PySem.W.findIn K (.ref CRule) "changed" = some (some (.ref fRuleChanged)))
    (isfRuleChanged : PySem.W.isFn K (.ref fRuleChanged) = true)
    (lRuleChanged : K.lookup fRuleChanged = some ⟨ocRuleChanged, odRuleChanged, .func (PySem.W.fnOf "changed" "Rule.changed" (defArgs sRuleChanged) (defBody sRuleChanged) (defScope sRuleChanged) .none (.ref DRuleChanged) dcRuleChanged pmRuleChanged anRuleChanged cdRuleChanged ctRuleChanged), slRuleChanged⟩)
    (cRuleChanged : PySem.W.codeIn K cdRuleChanged "Rule.changed" = true)
    (kRuleChanged : PySem.W.keepIn K (.ref fRuleChanged) = true)
    (dRuleChanged_turn : PySem.W.nsIn K DRuleChanged "turn" = some (some .none))
    (dRuleChanged_reads : PySem.W.nsIn K DRuleChanged "reads" = some (some .none))
    (dRuleChanged_gather : PySem.W.nsIn K DRuleChanged "gather" = some (some .none))
    (dRuleChanged_trim : PySem.W.nsIn K DRuleChanged "trim" = some (some .none))
    (dRuleChanged_lists : PySem.W.nsIn K DRuleChanged "lists" = some (some .none))
    (dRuleChanged_prizes : PySem.W.nsIn K DRuleChanged "prizes" = some (some .none))
    (mRuleReads : PySem.W.findIn K (.ref CRule) "reads" = some (some (.ref pRuleReads)))
    (pgRuleReads : PySem.W.specialIn K (.ref pRuleReads) "__get__" = some (some (.builtin "property.__get__")))
    (ptRuleReads : PySem.W.takesIn K (.ref pRuleReads) = some true)
    (prRuleReads : PySem.W.recIn K pRuleReads "property" = some (.ref fRuleReads :: restRuleReads))
    (lRuleReads : K.lookup fRuleReads = some ⟨ocRuleReads, odRuleReads, .func (PySem.W.fnOf "reads" "Rule.reads" (defArgs sRuleReads) (defBody sRuleReads) (defScope sRuleReads) .none kVRuleReads dcRuleReads pmRuleReads anRuleReads cdRuleReads ctRuleReads), slRuleReads⟩)
    (cRuleReads : PySem.W.codeIn K cdRuleReads "Rule.reads" = true)
    (kRuleReads : PySem.W.keepIn K (.ref fRuleReads) = true)
    (mRuleLists : PySem.W.findIn K (.ref CRule) "lists" = some (some (.ref pRuleLists)))
    (pgRuleLists : PySem.W.specialIn K (.ref pRuleLists) "__get__" = some (some (.builtin "property.__get__")))
    (ptRuleLists : PySem.W.takesIn K (.ref pRuleLists) = some true)
    (prRuleLists : PySem.W.recIn K pRuleLists "property" = some (.ref fRuleLists :: restRuleLists))
    (lRuleLists : K.lookup fRuleLists = some ⟨ocRuleLists, odRuleLists, .func (PySem.W.fnOf "lists" "Rule.lists" (defArgs sRuleLists) (defBody sRuleLists) (defScope sRuleLists) .none kVRuleLists dcRuleLists pmRuleLists anRuleLists cdRuleLists ctRuleLists), slRuleLists⟩)
    (cRuleLists : PySem.W.codeIn K cdRuleLists "Rule.lists" = true)
    (kRuleLists : PySem.W.keepIn K (.ref fRuleLists) = true)
    (kitL : PySem.W.kitOne K (.type "list") (.ref CCrowd) = some false)
    (neR : PySem.W.findIn K (.ref CRule) "__ne__" = some (some (.builtin "object.__ne__")))
    (z_len : PySem.W.nsIn K mainGlobals "len" = some none)
    (z_max : PySem.W.nsIn K mainGlobals "max" = some none)
    (z_min : PySem.W.nsIn K mainGlobals "min" = some none)
    (z_int : PySem.W.nsIn K mainGlobals "int" = some none)
    (z_range : PySem.W.nsIn K mainGlobals "range" = some none)
    (z_isinstance : PySem.W.nsIn K mainGlobals "isinstance" = some none)
    (z_str : PySem.W.nsIn K mainGlobals "str" = some none)
    (z_bool : PySem.W.nsIn K mainGlobals "bool" = some none)
    (z_list : PySem.W.nsIn K mainGlobals "list" = some none)
    (z_tuple : PySem.W.nsIn K mainGlobals "tuple" = some none)
    (z_set : PySem.W.nsIn K mainGlobals "set" = some none)
    (z_all : PySem.W.nsIn K mainGlobals "all" = some none)
    (z_dict : PySem.W.nsIn K mainGlobals "dict" = some none)
    (z_any : PySem.W.nsIn K mainGlobals "any" = some none)
    (z_zip : PySem.W.nsIn K mainGlobals "zip" = some none)
    (z_enumerate : PySem.W.nsIn K mainGlobals "enumerate" = some none)
    (z_LETTERS : PySem.W.nsIn K mainGlobals "LETTERS" = some (some (.str letters t_LETTERS)))
    (z_LONGEST : PySem.W.nsIn K mainGlobals "LONGEST" = some (some (.int 8 t_LONGEST)))
    (z_MOST_PEOPLE : PySem.W.nsIn K mainGlobals "MOST_PEOPLE" = some (some (.int 8 t_MOST_PEOPLE)))
    (z_GREATEST_MARK : PySem.W.nsIn K mainGlobals "GREATEST_MARK" = some (some (.int 10 t_GREATEST_MARK)))
    (z_GREATEST_TRIM : PySem.W.nsIn K mainGlobals "GREATEST_TRIM" = some (some (.int 3 t_GREATEST_TRIM)))
    (z_MOST_PRIZES : PySem.W.nsIn K mainGlobals "MOST_PRIZES" = some (some (.int 8 t_MOST_PRIZES)))
    (aTURNS : PySem.W.nsIn K mainGlobals "TURNS" = some (some (.ref TTURNS)))
    (lkTURNS : K.lookup TTURNS = some ⟨.type "tuple", odTURNS, .seq #[.str "plain" tTURNS0, .str "centred" tTURNS1, .str "placed" tTURNS2] nTURNS, slTURNS⟩)
    (aGATHERS : PySem.W.nsIn K mainGlobals "GATHERS" = some (some (.ref TGATHERS)))
    (lkGATHERS : K.lookup TGATHERS = some ⟨.type "tuple", odGATHERS, .seq #[.str "sum" tGATHERS0, .str "mean" tGATHERS1, .str "median" tGATHERS2, .str "trim" tGATHERS3, .str "least" tGATHERS4, .str "greatest" tGATHERS5] nGATHERS, slGATHERS⟩)
    (aGATHERS_OF_TURNED_ROWS : PySem.W.nsIn K mainGlobals "GATHERS_OF_TURNED_ROWS" = some (some (.ref TGATHERS_OF_TURNED_ROWS)))
    (lkGATHERS_OF_TURNED_ROWS : K.lookup TGATHERS_OF_TURNED_ROWS = some ⟨.type "tuple", odGATHERS_OF_TURNED_ROWS, .seq #[.str "sum" tGATHERS_OF_TURNED_ROWS0, .str "mean" tGATHERS_OF_TURNED_ROWS1] nGATHERS_OF_TURNED_ROWS, slGATHERS_OF_TURNED_ROWS⟩) :
    ∃ fd : FuncData, (∀ (s : Shared) (u : Value), BindsTo s fd ⟨[u], []⟩ [("_law_script", u)]) ∧ ∀ b0 : Heap, K.In b0 → b0.Ns mainGlobals mg → FnOk l.prog w K mg b0 CX0 8 fa fd ["_law_script"] (spLaw K) := by
  have e := hfa.symm.trans (PySem.W.mg_of X G aLaw)
  cases e
  have B : Bt mg := ⟨PySem.W.mg_none_of X G z_len, PySem.W.mg_none_of X G z_max, PySem.W.mg_none_of X G z_min, PySem.W.mg_none_of X G z_int, PySem.W.mg_none_of X G z_range⟩
  have T : Tx mg := ⟨PySem.W.mg_none_of X G z_isinstance, PySem.W.mg_none_of X G z_str, PySem.W.mg_none_of X G z_bool, PySem.W.mg_none_of X G z_list, PySem.W.mg_none_of X G z_tuple, PySem.W.mg_none_of X G z_set, PySem.W.mg_none_of X G z_all, ⟨_, PySem.W.mg_of X G z_LETTERS⟩, ⟨_, PySem.W.mg_of X G z_LONGEST⟩, ⟨_, PySem.W.mg_of X G z_MOST_PEOPLE⟩, ⟨_, PySem.W.mg_of X G z_GREATEST_MARK⟩⟩
  have R : Ru K mg := ⟨⟨_, PySem.W.mg_of X G aTURNS, ⟨_, _, _, lkTURNS, rfl, rfl, (by show 3 ≤ sizeLine; decide), .cons ⟨_, rfl⟩ (.cons ⟨_, rfl⟩ (.cons ⟨_, rfl⟩ (.nil)))⟩⟩, ⟨_, PySem.W.mg_of X G aGATHERS, ⟨_, _, _, lkGATHERS, rfl, rfl, (by show 6 ≤ sizeLine; decide), .cons ⟨_, rfl⟩ (.cons ⟨_, rfl⟩ (.cons ⟨_, rfl⟩ (.cons ⟨_, rfl⟩ (.cons ⟨_, rfl⟩ (.cons ⟨_, rfl⟩ (.nil))))))⟩⟩, ⟨_, PySem.W.mg_of X G aGATHERS_OF_TURNED_ROWS, ⟨_, _, _, lkGATHERS_OF_TURNED_ROWS, rfl, rfl, (by show 2 ≤ sizeLine; decide), .cons ⟨_, rfl⟩ (.cons ⟨_, rfl⟩ (.nil))⟩⟩, ⟨_, PySem.W.mg_of X G z_GREATEST_TRIM⟩, ⟨_, PySem.W.mg_of X G z_MOST_PRIZES⟩, PySem.W.mg_none_of X G z_any⟩
  have FIsInteger := fun_mk (st := sIsInteger) lIsInteger cIsInteger kIsInteger
  have FIsIntegerWithin := fun_mk (st := sIsIntegerWithin) lIsIntegerWithin cIsIntegerWithin kIsIntegerWithin
  have FIsWord := fun_mk (st := sIsWord) lIsWord cIsWord kIsWord
  have FArePeople := fun_mk (st := sArePeople) lArePeople cArePeople kArePeople
  have FNeedCrowd := fun_mk (st := sNeedCrowd) lNeedCrowd cNeedCrowd kNeedCrowd
  have FIsTurn := fun_mk (st := sIsTurn) lIsTurn cIsTurn kIsTurn
  have FAreReads := fun_mk (st := sAreReads) lAreReads cAreReads kAreReads
  have FIsGather := fun_mk (st := sIsGather) lIsGather cIsGather kIsGather
  have FIsTrim := fun_mk (st := sIsTrim) lIsTrim cIsTrim kIsTrim
  have FAreLists := fun_mk (st := sAreLists) lAreLists cAreLists kAreLists
  have FListsInOrder := fun_mk (st := sListsInOrder) lListsInOrder cListsInOrder kListsInOrder
  have FIsShortOfReaders := fun_mk (st := sIsShortOfReaders) lIsShortOfReaders cIsShortOfReaders kIsShortOfReaders
  have FPartsButReads := fun_mk (st := sPartsButReads) lPartsButReads cPartsButReads kPartsButReads
  have FIsLikeButForReads := fun_mk (st := sIsLikeButForReads) lIsLikeButForReads cIsLikeButForReads kIsLikeButForReads
  have FOpened := fun_mk (st := sOpened) lOpened cOpened kOpened
  have FDraw := fun_mk (st := sDraw) lDraw cDraw kDraw
  have FPick := fun_mk (st := sPick) lPick cPick kPick
  have FPeople := fun_mk (st := sPeople) lPeople cPeople kPeople
  have FPairs := fun_mk (st := sPairs) lPairs cPairs kPairs
  have FParted := fun_mk (st := sParted) lParted cParted kParted
  have FUnlike := fun_mk (st := sUnlike) lUnlike cUnlike kUnlike
  have FReaders := fun_mk (st := sReaders) lReaders cReaders kReaders
  have FLwList := fun_mk (st := sLwList) lLwList cLwList kLwList
  have FPlan := fun_mk (st := sPlan) lPlan cPlan kPlan
  have FMade := fun_mk (st := sMade) lMade cMade kMade
  have FFirstWrong := fun_mk (st := sFirstWrong) lFirstWrong cFirstWrong kFirstWrong
  have FChanged := fun_mk (st := sChanged) lChanged cChanged kChanged
  have FBadCrowdInit := fun_mk (st := sBadCrowdInit) lBadCrowdInit cBadCrowdInit kBadCrowdInit
  have FBadRuleInit := fun_mk (st := sBadRuleInit) lBadRuleInit cBadRuleInit kBadRuleInit
  have FCrowdInit := fun_mk (st := sCrowdInit) lCrowdInit cCrowdInit kCrowdInit
  have FCrowdLen := fun_mk (st := sCrowdLen) lCrowdLen cCrowdLen kCrowdLen
  have FCrowdContains := fun_mk (st := sCrowdContains) lCrowdContains cCrowdContains kCrowdContains
  have FCrowdEq := fun_mk (st := sCrowdEq) lCrowdEq cCrowdEq kCrowdEq
  have FCrowdPairs := fun_mk (st := sCrowdPairs) lCrowdPairs cCrowdPairs kCrowdPairs
  have FCrowdIsPair := fun_mk (st := sCrowdIsPair) lCrowdIsPair cCrowdIsPair kCrowdIsPair
  have FCrowdPeople := fun_mk (st := sCrowdPeople) lCrowdPeople cCrowdPeople kCrowdPeople
  have FRuleEq := fun_mk (st := sRuleEq) lRuleEq cRuleEq kRuleEq
  have FRuleReads := fun_mk (st := sRuleReads) lRuleReads cRuleReads kRuleReads
  have FRuleLists := fun_mk (st := sRuleLists) lRuleLists cRuleLists kRuleLists
  have FLaw := fun_mk (st := sLaw) lLaw cLaw kLaw
  have bIsInteger := FIsInteger.binds (ps := ["value"]) fun _ _ _ _ _ _ us hl => match us, hl with | [_], _ => rfl
  have bIsIntegerWithin := FIsIntegerWithin.binds (ps := ["value", "least", "most"]) fun _ _ _ _ _ _ us hl => match us, hl with | [_, _, _], _ => rfl
  have bIsWord := FIsWord.binds (ps := ["value"]) fun _ _ _ _ _ _ us hl => match us, hl with | [_], _ => rfl
  have bArePeople := FArePeople.binds (ps := ["value"]) fun _ _ _ _ _ _ us hl => match us, hl with | [_], _ => rfl
  have bNeedCrowd := FNeedCrowd.binds (ps := ["crowd"]) fun _ _ _ _ _ _ us hl => match us, hl with | [_], _ => rfl
  have bIsTurn := FIsTurn.binds (ps := ["value"]) fun _ _ _ _ _ _ us hl => match us, hl with | [_], _ => rfl
  have bAreReads := FAreReads.binds (ps := ["crowd", "value"]) fun _ _ _ _ _ _ us hl => match us, hl with | [_, _], _ => rfl
  have bIsGather := FIsGather.binds (ps := ["turn", "value"]) fun _ _ _ _ _ _ us hl => match us, hl with | [_, _], _ => rfl
  have bIsTrim := FIsTrim.binds (ps := ["gather", "value"]) fun _ _ _ _ _ _ us hl => match us, hl with | [_, _], _ => rfl
  have bAreLists := FAreLists.binds (ps := ["crowd", "value"]) fun _ _ _ _ _ _ us hl => match us, hl with | [_, _], _ => rfl
  have bListsInOrder := FListsInOrder.binds (ps := ["crowd", "lists"]) fun _ _ _ _ _ _ us hl => match us, hl with | [_, _], _ => rfl
  have bIsShortOfReaders := FIsShortOfReaders.binds (ps := ["readers", "lists", "trim"]) fun _ _ _ _ _ _ us hl => match us, hl with | [_, _, _], _ => rfl
  have bPartsButReads := FPartsButReads.binds (ps := ["rule"]) fun _ _ _ _ _ _ us hl => match us, hl with | [_], _ => rfl
  have bIsLikeButForReads := FIsLikeButForReads.binds (ps := ["rule", "value"]) fun _ _ _ _ _ _ us hl => match us, hl with | [_, _], _ => rfl
  have bOpened := FOpened.binds (ps := ["_law_script", "_law_k"]) fun _ _ _ _ _ _ us hl => match us, hl with | [_, _], _ => rfl
  have bDraw := FDraw.binds (ps := ["_law_pool", "_law_many"]) fun _ _ _ _ _ _ us hl => match us, hl with | [_, _], _ => rfl
  have bPick := FPick.binds (ps := ["_law_pool", "_law_some"]) fun _ _ _ _ _ _ us hl => match us, hl with | [_, _], _ => rfl
  have bPeople := FPeople.binds (ps := ["_law_pool", "_law_many"]) fun _ _ _ _ _ _ us hl => match us, hl with | [_, _], _ => rfl
  have bPairs := FPairs.binds (ps := ["_law_people_here"]) fun _ _ _ _ _ _ us hl => match us, hl with | [_], _ => rfl
  have bParted := FParted.binds (ps := ["_law_pool", "_law_people_here"]) fun _ _ _ _ _ _ us hl => match us, hl with | [_, _], _ => rfl
  have bUnlike := FUnlike.binds (ps := ["_law_some"]) fun _ _ _ _ _ _ us hl => match us, hl with | [_], _ => rfl
  have bReaders := FReaders.binds (ps := ["_law_plan_here", "_law_person"]) fun _ _ _ _ _ _ us hl => match us, hl with | [_, _], _ => rfl
  have bLwList := FLwList.binds (ps := ["_law_plan_here", "_law_person"]) fun _ _ _ _ _ _ us hl => match us, hl with | [_, _], _ => rfl
  have bPlan := FPlan.binds (ps := ["_law_pool", "_law_least", "_law_many", "_law_top", "_law_menu"]) fun _ _ _ _ _ _ us hl => match us, hl with | [_, _, _, _, _], _ => rfl
  have bMade := FMade.binds (ps := ["_law_plan_here"]) fun _ _ _ _ _ _ us hl => match us, hl with | [_], _ => rfl
  have bFirstWrong := FFirstWrong.binds (ps := ["_law_plan_here"]) fun _ _ _ _ _ _ us hl => match us, hl with | [_], _ => rfl
  have bChanged := FChanged.binds (ps := ["_law_rule", "_law_parts"]) fun _ _ _ _ _ _ us hl => match us, hl with | [_, _], _ => rfl
  have bBadCrowdInit := FBadCrowdInit.binds (ps := ["self", "part"]) fun _ _ _ _ _ _ us hl => match us, hl with | [_, _], _ => rfl
  have bBadRuleInit := FBadRuleInit.binds (ps := ["self", "part"]) fun _ _ _ _ _ _ us hl => match us, hl with | [_, _], _ => rfl
  have bCrowdInit := FCrowdInit.binds (ps := ["self", "people", "most"]) fun _ _ _ _ _ _ us hl => match us, hl with | [_, _, _], _ => rfl
  have bCrowdLen := FCrowdLen.binds (ps := ["self"]) fun _ _ _ _ _ _ us hl => match us, hl with | [_], _ => rfl
  have bCrowdContains := FCrowdContains.binds (ps := ["self", "x"]) fun _ _ _ _ _ _ us hl => match us, hl with | [_, _], _ => rfl
  have bCrowdEq := FCrowdEq.binds (ps := ["self", "other"]) fun _ _ _ _ _ _ us hl => match us, hl with | [_, _], _ => rfl
  have bCrowdPairs := FCrowdPairs.binds (ps := ["self"]) fun _ _ _ _ _ _ us hl => match us, hl with | [_], _ => rfl
  have bCrowdIsPair := FCrowdIsPair.binds (ps := ["self", "value"]) fun _ _ _ _ _ _ us hl => match us, hl with | [_, _], _ => rfl
  have bCrowdPeople := FCrowdPeople.binds (ps := ["self"]) fun _ _ _ _ _ _ us hl => match us, hl with | [_], _ => rfl
  have bRuleEq := FRuleEq.binds (ps := ["self", "other"]) fun _ _ _ _ _ _ us hl => match us, hl with | [_, _], _ => rfl
  have bRuleReads := FRuleReads.binds (ps := ["self"]) fun _ _ _ _ _ _ us hl => match us, hl with | [_], _ => rfl
  have bRuleLists := FRuleLists.binds (ps := ["self"]) fun _ _ _ _ _ _ us hl => match us, hl with | [_], _ => rfl
  have FRuleInit : FunD K _ _ (defArgs sRuleInit) (defBody sRuleInit) (defScope sRuleInit) [] ruKws fRuleInit _ := ⟨⟨_, _, _, _, _, _, _, _, _, _, rfl, lRuleInit, cRuleInit, .inl ⟨rfl, rfl⟩, .inr ⟨DRuleInit, rfl, fun q hq => by
      simp only [List.mem_cons, List.not_mem_nil, or_false] at hq
      rcases hq with rfl | rfl | rfl | rfl | rfl | rfl
      · exact ⟨_, dRuleInit_turn, ⟨_, rfl⟩⟩
      · exact ⟨_, dRuleInit_reads, rfl⟩
      · exact ⟨_, dRuleInit_gather, ⟨_, rfl⟩⟩
      · exact ⟨_, dRuleInit_trim, ⟨_, rfl⟩⟩
      · exact ⟨_, dRuleInit_lists, rfl⟩
      · exact ⟨_, dRuleInit_prizes, ⟨_, rfl⟩⟩⟩⟩, kRuleInit⟩
  have FRuleChanged : FunD K _ _ (defArgs sRuleChanged) (defBody sRuleChanged) (defScope sRuleChanged) [] chKws fRuleChanged _ := ⟨⟨_, _, _, _, _, _, _, _, _, _, rfl, lRuleChanged, cRuleChanged, .inl ⟨rfl, rfl⟩, .inr ⟨DRuleChanged, rfl, fun q hq => by
      simp only [List.mem_cons, List.not_mem_nil, or_false] at hq
      rcases hq with rfl | rfl | rfl | rfl | rfl | rfl
      · exact ⟨_, dRuleChanged_turn, rfl⟩
      · exact ⟨_, dRuleChanged_reads, rfl⟩
      · exact ⟨_, dRuleChanged_gather, rfl⟩
      · exact ⟨_, dRuleChanged_trim, rfl⟩
      · exact ⟨_, dRuleChanged_lists, rfl⟩
      · exact ⟨_, dRuleChanged_prizes, rfl⟩⟩⟩, kRuleChanged⟩
  obtain ⟨gR0, bRuleInit⟩ := kb_rule FRuleInit
  obtain ⟨gC0, bRuleChanged6⟩ := kb_changed6 FRuleChanged
  obtain ⟨ds0, vRuleChanged, bRuleChanged⟩ := b_changed0 FRuleChanged
  have ER_BadCrowd : Er K mg "BadCrowd" CBadCrowd := ⟨PySem.W.mg_of X G aBadCrowd, ⟨⟨_, _, _, _, _, _, _, _, _, _, _, _, _, _, _, xBadCrowd, by show PySem.HandSPX.refsVE [.type "ValueError", .type "Exception", .type "BaseException", .type "object"] = true; decide +kernel⟩, saBadCrowd, exBadCrowd, tyBadCrowd, kkBadCrowd⟩, ⟨gaBadCrowd, ggBadCrowd, exBadCrowd, hdBadCrowd⟩, ⟨gaBadCrowd, ggBadCrowd, exBadCrowd, hdBadCrowd, ccBadCrowd, spg, tkc, mrBadCrowd⟩, PySem.W.exm_ref exBadCrowd hdBadCrowd tyBadCrowd ssBadCrowd⟩
  have ER_BadRule : Er K mg "BadRule" CBadRule := ⟨PySem.W.mg_of X G aBadRule, ⟨⟨_, _, _, _, _, _, _, _, _, _, _, _, _, _, _, xBadRule, by show PySem.HandSPX.refsVE [.type "ValueError", .type "Exception", .type "BaseException", .type "object"] = true; decide +kernel⟩, saBadRule, exBadRule, tyBadRule, kkBadRule⟩, ⟨gaBadRule, ggBadRule, exBadRule, hdBadRule⟩, ⟨gaBadRule, ggBadRule, exBadRule, hdBadRule, ccBadRule, spg, tkc, mrBadRule⟩, PySem.W.exm_ref exBadRule hdBadRule tyBadRule ssBadRule⟩
  have clCrowd : Cls K CCrowd := ⟨pgCrowd, hdCrowd, poCrowd, saCrowd⟩
  have ioCrowd : IsOwn K CCrowd := ⟨clCrowd, ccCrowd, spg, tkc, mrCrowd⟩
  have MCrowd : Mk K CCrowd fCrowdInit := ⟨mkCrowd, mCrowdInit, isfCrowdInit, kcCrowd⟩
  have clRule : Cls K CRule := ⟨pgRule, hdRule, poRule, saRule⟩
  have ioRule : IsOwn K CRule := ⟨clRule, ccRule, spg, tkc, mrRule⟩
  have MRule : Mk K CRule fRuleInit := ⟨mkRule, mRuleInit, isfRuleInit, kcRule⟩
  have nA : ∀ n ∈ (["crowd", "turn", "gather", "trim", "prizes", "_reads", "_lists", "_readers"] : List Str), NoAttr K CRule n := fun n hn => by
    simp only [List.mem_cons, List.not_mem_nil, or_false] at hn
    rcases hn with rfl | rfl | rfl | rfl | rfl | rfl | rfl | rfl
    · exact noRulecrowd
    · exact noRuleturn
    · exact noRulegather
    · exact noRuletrim
    · exact noRuleprizes
    · exact noRule_reads
    · exact noRule_lists
    · exact noRule_readers
  have ppCrowdPeople : PropOf K CCrowd "people" pCrowdPeople fCrowdPeople := ⟨mCrowdPeople, pgCrowdPeople, ptCrowdPeople, _, prCrowdPeople⟩
  have ppRuleReads : PropOf K CRule "reads" pRuleReads fRuleReads := ⟨mRuleReads, pgRuleReads, ptRuleReads, _, prRuleReads⟩
  have ppRuleLists : PropOf K CRule "lists" pRuleLists fRuleLists := ⟨mRuleLists, pgRuleLists, ptRuleLists, _, prRuleLists⟩
  have MCrowdPairs : Meth K CCrowd "pairs" fCrowdPairs := ⟨mCrowdPairs, isfCrowdPairs, kCrowdPairs⟩
  have MCrowdIsPair : Meth K CCrowd "is_pair" fCrowdIsPair := ⟨mCrowdIsPair, isfCrowdIsPair, kCrowdIsPair⟩
  have MRuleChanged : Meth K CRule "changed" fRuleChanged := ⟨mRuleChanged, isfRuleChanged, kRuleChanged⟩
  refine ⟨PySem.W.fnOf "law" "law" (defArgs sLaw) (defBody sLaw) (defScope sLaw) .none kVLaw dcLaw pmLaw anLaw cdLaw ctLaw, fun s v => .of_eq rfl, fun b0 _ _ => ?_⟩
  have GA := ok_arePeople (P := l.prog) (w := w) (mg := mg) (base := b0) FArePeople FIsWord bIsWord (PySem.W.mg_of X G aIsWord) B T
  have GN := ok_within (P := l.prog) (w := w) (mg := mg) (base := b0) FIsIntegerWithin FIsInteger bIsInteger (PySem.W.mg_of X G aIsInteger) B T
  have GInt := ok_isInteger (P := l.prog) (w := w) (mg := mg) (base := b0) FIsInteger B T
  have GB := ok_badCrowdInit (P := l.prog) (w := w) (mg := mg) (base := b0) (C := CBadCrowd) FBadCrowdInit
  have GC := ok_crowdNew (P := l.prog) (w := w) (mg := mg) (base := b0) (C := CCrowd) FCrowdInit GA kArePeople bArePeople (PySem.W.mg_of X G aArePeople) GN kIsIntegerWithin bIsIntegerWithin (PySem.W.mg_of X G aIsIntegerWithin) GB bBadCrowdInit iBadCrowd tBadCrowd ER_BadCrowd noBadCrowd clCrowd noCrowd_people noCrowdmost T
  have GPe := ok_crowdPeople (P := l.prog) (w := w) (mg := mg) (base := b0) FCrowdPeople clCrowd noCrowd_people T
  have GLen := ok_crowdLen (P := l.prog) (w := w) (mg := mg) (base := b0) FCrowdLen clCrowd noCrowd_people B
  have GHas := ok_crowdHas (P := l.prog) (w := w) (mg := mg) (base := b0) FCrowdContains clCrowd noCrowd_people T
  have GEq := ok_crowdEq (P := l.prog) (w := w) (mg := mg) (base := b0) FCrowdEq clCrowd noCrowd_people noCrowdmost (PySem.W.mg_of X G aCrowd) kitCrowd kitL ioCrowd T
  have GIs := ok_crowdIsPair (P := l.prog) (w := w) (mg := mg) (base := b0) FCrowdIsPair GHas mCrowdContains isfCrowdContains bCrowdContains B T
  have GPa := ok_crowdPairs (P := l.prog) (w := w) (mg := mg) (base := b0) FCrowdPairs clCrowd noCrowd_people
  have GNC := ok_needCrowd (P := l.prog) (w := w) (mg := mg) (base := b0) FNeedCrowd (PySem.W.mg_of X G aCrowd) kitCrowd ioCrowd T
  have GT := ok_isTurn (P := l.prog) (w := w) (mg := mg) (base := b0) FIsTurn T R
  have GGa := ok_isGather (P := l.prog) (w := w) (mg := mg) (base := b0) FIsGather T R
  have GTr := ok_isTrim (P := l.prog) (w := w) (mg := mg) (base := b0) FIsTrim GN kIsIntegerWithin bIsIntegerWithin (PySem.W.mg_of X G aIsIntegerWithin) GInt kIsInteger bIsInteger (PySem.W.mg_of X G aIsInteger) R
  have GAR := ok_areReads (P := l.prog) (w := w) (mg := mg) (base := b0) FAreReads clCrowd MCrowdIsPair GIs bCrowdIsPair B T
  have GAL := ok_areLists (P := l.prog) (w := w) (mg := mg) (base := b0) FAreLists GHas mCrowdContains isfCrowdContains bCrowdContains GLen mCrowdLen isfCrowdLen bCrowdLen B T
  have GIO := ok_inOrder (P := l.prog) (w := w) (mg := mg) (base := b0) FListsInOrder clCrowd ppCrowdPeople GPe bCrowdPeople
  have GSh := ok_short (P := l.prog) (w := w) (mg := mg) (base := b0) FIsShortOfReaders B (PySem.W.mg_none_of X G z_any)
  have GBR := ok_badRuleInit (P := l.prog) (w := w) (mg := mg) (base := b0) (D := CBadRule) FBadRuleInit
  have GRI := ok_ruleInit (P := l.prog) (w := w) (mg := mg) (base := b0) FRuleInit GNC kNeedCrowd bNeedCrowd (PySem.W.mg_of X G aNeedCrowd) GT kIsTurn bIsTurn (PySem.W.mg_of X G aIsTurn) GAR kAreReads bAreReads (PySem.W.mg_of X G aAreReads) GGa kIsGather bIsGather (PySem.W.mg_of X G aIsGather) GTr kIsTrim bIsTrim (PySem.W.mg_of X G aIsTrim) GAL kAreLists bAreLists (PySem.W.mg_of X G aAreLists) GIO kListsInOrder bListsInOrder (PySem.W.mg_of X G aListsInOrder) GSh kIsShortOfReaders bIsShortOfReaders (PySem.W.mg_of X G aIsShortOfReaders) GN kIsIntegerWithin bIsIntegerWithin (PySem.W.mg_of X G aIsIntegerWithin) GBR bBadRuleInit iBadRule tBadRule ER_BadRule noBadRule clCrowd MCrowdPairs GPa bCrowdPairs ppCrowdPeople GPe bCrowdPeople clRule nA R
  have GRR := ok_ruleReads (P := l.prog) (w := w) (mg := mg) (base := b0) (C := CCrowd) FRuleReads clRule noRule_reads T
  have GRLs := ok_ruleLists (P := l.prog) (w := w) (mg := mg) (base := b0) (C := CCrowd) FRuleLists clRule noRule_lists T
  have GPb := ok_parts (P := l.prog) (w := w) (mg := mg) (base := b0) (C := CCrowd) FPartsButReads clRule nA ppRuleLists GRLs bRuleLists
  have GLk := ok_like (P := l.prog) (w := w) (mg := mg) (base := b0) FIsLikeButForReads GPb kPartsButReads bPartsButReads (PySem.W.mg_of X G aPartsButReads) GEq mCrowdEq isfCrowdEq bCrowdEq (PySem.W.mg_of X G aRule) kitRule ioRule T
  have GREq := ok_ruleEq (P := l.prog) (w := w) (mg := mg) (base := b0) FRuleEq GLk kIsLikeButForReads bIsLikeButForReads (PySem.W.mg_of X G aIsLikeButForReads) clRule ppRuleReads GRR bRuleReads
  have GCh := ok_changed (P := l.prog) (w := w) (mg := mg) (base := b0) FRuleChanged MRule GRI (PySem.W.mg_of X G aRule) bRuleInit clRule nA ppRuleReads GRR bRuleReads ppRuleLists GRLs bRuleLists
  have GOp := ok_opened (P := l.prog) (w := w) (mg := mg) (base := b0) FOpened B
  have GD := ok_draw (P := l.prog) (w := w) (mg := mg) (base := b0) FDraw B
  have GWo := ok_people (P := l.prog) (w := w) (mg := mg) (base := b0) FPeople FDraw bDraw (PySem.W.mg_of X G aDraw) B
  have GPk := ok_pick (P := l.prog) (w := w) (mg := mg) (base := b0) FPick GD kDraw bDraw (PySem.W.mg_of X G aDraw) B
  have GLp := ok_lawPairs (P := l.prog) (w := w) (mg := mg) (base := b0) FPairs
  have GUn := ok_unlike (P := l.prog) (w := w) (mg := mg) (base := b0) FUnlike (PySem.W.mg_none_of X G z_enumerate)
  have GPt := ok_parted (P := l.prog) (w := w) (mg := mg) (base := b0) FParted GD kDraw bDraw (PySem.W.mg_of X G aDraw) GUn kUnlike bUnlike (PySem.W.mg_of X G aUnlike) (PySem.W.mg_none_of X G z_enumerate)
  have GRd := ok_readersA (P := l.prog) (w := w) (mg := mg) (base := b0) FReaders
  have GLi := ok_listA (P := l.prog) (w := w) (mg := mg) (base := b0) FLwList
  have GPl := ok_plan (P := l.prog) (w := w) (mg := mg) (base := b0) FPlan GD kDraw bDraw (PySem.W.mg_of X G aDraw) GWo kPeople bPeople (PySem.W.mg_of X G aPeople) GPk kPick bPick (PySem.W.mg_of X G aPick) GPt kParted bParted (PySem.W.mg_of X G aParted) GRd kReaders bReaders (PySem.W.mg_of X G aReaders) GLi kLwList bLwList (PySem.W.mg_of X G aLwList) GLp kPairs bPairs (PySem.W.mg_of X G aPairs) B (PySem.W.mg_none_of X G z_min)
  have GMa := ok_madeA (P := l.prog) (w := w) (mg := mg) (base := b0) FMade GC MCrowd (PySem.W.mg_of X G aCrowd) bCrowdInit MRule GRI (PySem.W.mg_of X G aRule) bRuleInit T
  have GFW := ok_firstWrong (P := l.prog) (w := w) (mg := mg) (base := b0) FFirstWrong GRd kReaders bReaders (PySem.W.mg_of X G aReaders) B
  have GCl := ok_changedA (P := l.prog) (w := w) (mg := mg) (base := b0) FChanged MRuleChanged GCh bRuleChanged6 ER_BadRule noBadRule clRule
  exact ok_law FLaw GOp kOpened bOpened (PySem.W.mg_of X G aOpened) GD kDraw bDraw (PySem.W.mg_of X G aDraw) GPl kPlan bPlan (PySem.W.mg_of X G aPlan) GLp kPairs bPairs (PySem.W.mg_of X G aPairs) GMa kMade bMade (PySem.W.mg_of X G aMade) clRule MRuleChanged GCh bRuleChanged vRuleChanged GFW kFirstWrong bFirstWrong (PySem.W.mg_of X G aFirstWrong) GCl kChanged bChanged (PySem.W.mg_of X G aChanged) mRuleEq neR mrRule isfRuleEq GREq bRuleEq (PySem.W.mg_none_of X G z_dict) (PySem.W.mg_none_of X G z_zip) B
end K09
open PySem PySem.W PyProof.Rows in
set_option maxRecDepth 100000 in
set_option maxHeartbeats 0 in
theorem PySem.Challenge.cw_ownmarks_k09_rules_changed_holds : PySem.Challenge.rw_ownmarks_k09_rules_changed.Holds := by
  w_on; o_law; k_head; (case hw => w_witness2)
  k_fill
  refine L2.walk_ofK (l := PySem.Challenge.rw_ownmarks_k09_rules_changed) (n := 63) (k := 8) (x := "_law_script") (CX := L2.CX0) (sp := K09.spLaw) rfl (by decide) rfl ⟨rfl, by decide, by decide⟩ (fun w h Y => by first | exact PySem.W.kIn_of Y | exact Y.1) ?F ?S (fun _ _ _ _ z => z)
  case F =>
    intro w mg fa h KX G hmg
    refine' K09.all_mk KX G hmg ?aIsInteger ?lIsInteger ?cIsInteger ?kIsInteger ?aIsIntegerWithin ?lIsIntegerWithin ?cIsIntegerWithin ?kIsIntegerWithin ?aIsWord ?lIsWord ?cIsWord ?kIsWord ?aArePeople ?lArePeople ?cArePeople ?kArePeople ?aNeedCrowd ?lNeedCrowd ?cNeedCrowd ?kNeedCrowd ?aIsTurn ?lIsTurn ?cIsTurn ?kIsTurn ?aAreReads ?lAreReads ?cAreReads ?kAreReads ?aIsGather ?lIsGather ?cIsGather ?kIsGather ?aIsTrim ?lIsTrim ?cIsTrim ?kIsTrim ?aAreLists ?lAreLists ?cAreLists ?kAreLists ?aListsInOrder ?lListsInOrder ?cListsInOrder ?kListsInOrder ?aIsShortOfReaders ?lIsShortOfReaders ?cIsShortOfReaders ?kIsShortOfReaders ?aPartsButReads ?lPartsButReads ?cPartsButReads ?kPartsButReads ?aIsLikeButForReads ?lIsLikeButForReads ?cIsLikeButForReads ?kIsLikeButForReads ?aOpened ?lOpened ?cOpened ?kOpened ?aDraw ?lDraw ?cDraw ?kDraw ?aPick ?lPick ?cPick ?kPick ?aPeople ?lPeople ?cPeople ?kPeople ?aPairs ?lPairs ?cPairs ?kPairs ?aParted ?lParted ?cParted ?kParted ?aUnlike ?lUnlike ?cUnlike ?kUnlike ?aReaders ?lReaders ?cReaders ?kReaders ?aLwList ?lLwList ?cLwList ?kLwList ?aPlan ?lPlan ?cPlan ?kPlan ?aMade ?lMade ?cMade ?kMade ?aFirstWrong ?lFirstWrong ?cFirstWrong ?kFirstWrong ?aChanged ?lChanged ?cChanged ?kChanged ?aLaw ?lLaw ?cLaw ?kLaw ?aMarksError ?aBadCrowd ?gaBadCrowd ?ggBadCrowd ?exBadCrowd ?hdBadCrowd ?noBadCrowd ?ccBadCrowd ?mrBadCrowd ?spg ?tkc ?xBadCrowd ?ssBadCrowd ?saBadCrowd ?tyBadCrowd ?kkBadCrowd ?iBadCrowd ?tBadCrowd ?lBadCrowdInit ?cBadCrowdInit ?kBadCrowdInit ?aBadRule ?gaBadRule ?ggBadRule ?exBadRule ?hdBadRule ?noBadRule ?ccBadRule ?mrBadRule ?xBadRule ?ssBadRule ?saBadRule ?tyBadRule ?kkBadRule ?iBadRule ?tBadRule ?lBadRuleInit ?cBadRuleInit ?kBadRuleInit ?aCrowd ?pgCrowd ?hdCrowd ?poCrowd ?saCrowd ?mkCrowd ?kcCrowd ?ccCrowd ?mrCrowd ?kitCrowd ?noCrowd_people ?noCrowdmost ?mCrowdInit ?isfCrowdInit ?lCrowdInit ?cCrowdInit ?kCrowdInit ?mCrowdLen ?isfCrowdLen ?lCrowdLen ?cCrowdLen ?kCrowdLen ?mCrowdContains ?isfCrowdContains ?lCrowdContains ?cCrowdContains ?kCrowdContains ?mCrowdEq ?isfCrowdEq ?lCrowdEq ?cCrowdEq ?kCrowdEq ?mCrowdPairs ?isfCrowdPairs ?lCrowdPairs ?cCrowdPairs ?kCrowdPairs ?mCrowdIsPair ?isfCrowdIsPair ?lCrowdIsPair ?cCrowdIsPair ?kCrowdIsPair ?mCrowdPeople ?pgCrowdPeople ?ptCrowdPeople ?prCrowdPeople ?lCrowdPeople ?cCrowdPeople ?kCrowdPeople ?aRule ?pgRule ?hdRule ?poRule ?saRule ?mkRule ?kcRule ?ccRule ?mrRule ?kitRule ?noRulecrowd ?noRuleturn ?noRulegather ?noRuletrim ?noRuleprizes ?noRule_reads ?noRule_lists ?noRule_readers ?mRuleInit ?isfRuleInit ?lRuleInit ?cRuleInit ?kRuleInit ?dRuleInit_turn ?dRuleInit_reads ?dRuleInit_gather ?dRuleInit_trim ?dRuleInit_lists ?dRuleInit_prizes ?mRuleEq ?isfRuleEq ?lRuleEq ?cRuleEq ?kRuleEq ?mRuleChanged ?isfRuleChanged ?lRuleChanged ?cRuleChanged ?kRuleChanged ?dRuleChanged_turn ?dRuleChanged_reads ?dRuleChanged_gather ?dRuleChanged_trim ?dRuleChanged_lists ?dRuleChanged_prizes ?mRuleReads ?pgRuleReads ?ptRuleReads ?prRuleReads ?lRuleReads ?cRuleReads ?kRuleReads ?mRuleLists ?pgRuleLists ?ptRuleLists ?prRuleLists ?lRuleLists ?cRuleLists ?kRuleLists ?kitL ?neR ?z_len ?z_max ?z_min ?z_int ?z_range ?z_isinstance ?z_str ?z_bool ?z_list ?z_tuple ?z_set ?z_all ?z_dict ?z_any ?z_zip ?z_enumerate ?z_LETTERS ?z_LONGEST ?z_MOST_PEOPLE ?z_GREATEST_MARK ?z_GREATEST_TRIM ?z_MOST_PRIZES ?aTURNS ?lkTURNS ?aGATHERS ?lkGATHERS ?aGATHERS_OF_TURNED_ROWS ?lkGATHERS_OF_TURNED_ROWS
    (case aIsInteger => first | k_is | k_exc | rfl)
    (case lIsInteger => first | k_is | k_exc | rfl)
    (case cIsInteger => first | k_is | k_exc | rfl)
    (case kIsInteger => first | k_is | k_exc | rfl)
    (case aIsIntegerWithin => first | k_is | k_exc | rfl)
    (case lIsIntegerWithin => first | k_is | k_exc | rfl)
    (case cIsIntegerWithin => first | k_is | k_exc | rfl)
    (case kIsIntegerWithin => first | k_is | k_exc | rfl)
    (case aIsWord => first | k_is | k_exc | rfl)
    (case lIsWord => first | k_is | k_exc | rfl)
    (case cIsWord => first | k_is | k_exc | rfl)
    (case kIsWord => first | k_is | k_exc | rfl)
    (case aArePeople => first | k_is | k_exc | rfl)
    (case lArePeople => first | k_is | k_exc | rfl)
    (case cArePeople => first | k_is | k_exc | rfl)
    (case kArePeople => first | k_is | k_exc | rfl)
    (case aNeedCrowd => first | k_is | k_exc | rfl)
    (case lNeedCrowd => first | k_is | k_exc | rfl)
    (case cNeedCrowd => first | k_is | k_exc | rfl)
    (case kNeedCrowd => first | k_is | k_exc | rfl)
    (case aIsTurn => first | k_is | k_exc | rfl)
    (case lIsTurn => first | k_is | k_exc | rfl)
    (case cIsTurn => first | k_is | k_exc | rfl)
    (case kIsTurn => first | k_is | k_exc | rfl)
    (case aAreReads => first | k_is | k_exc | rfl)
    (case lAreReads => first | k_is | k_exc | rfl)
    (case cAreReads => first | k_is | k_exc | rfl)
    (case kAreReads => first | k_is | k_exc | rfl)
    (case aIsGather => first | k_is | k_exc | rfl)
    (case lIsGather => first | k_is | k_exc | rfl)
    (case cIsGather => first | k_is | k_exc | rfl)
    (case kIsGather => first | k_is | k_exc | rfl)
    (case aIsTrim => first | k_is | k_exc | rfl)
    (case lIsTrim => first | k_is | k_exc | rfl)
    (case cIsTrim => first | k_is | k_exc | rfl)
    (case kIsTrim => first | k_is | k_exc | rfl)
    (case aAreLists => first | k_is | k_exc | rfl)
    (case lAreLists => first | k_is | k_exc | rfl)
    (case cAreLists => first | k_is | k_exc | rfl)
    (case kAreLists => first | k_is | k_exc | rfl)
    (case aListsInOrder => first | k_is | k_exc | rfl)
    (case lListsInOrder => first | k_is | k_exc | rfl)
    (case cListsInOrder => first | k_is | k_exc | rfl)
    (case kListsInOrder => first | k_is | k_exc | rfl)
    (case aIsShortOfReaders => first | k_is | k_exc | rfl)
    (case lIsShortOfReaders => first | k_is | k_exc | rfl)
    (case cIsShortOfReaders => first | k_is | k_exc | rfl)
    (case kIsShortOfReaders => first | k_is | k_exc | rfl)
    (case aPartsButReads => first | k_is | k_exc | rfl)
    (case lPartsButReads => first | k_is | k_exc | rfl)
    (case cPartsButReads => first | k_is | k_exc | rfl)
    (case kPartsButReads => first | k_is | k_exc | rfl)
    (case aIsLikeButForReads => first | k_is | k_exc | rfl)
    (case lIsLikeButForReads => first | k_is | k_exc | rfl)
    (case cIsLikeButForReads => first | k_is | k_exc | rfl)
    (case kIsLikeButForReads => first | k_is | k_exc | rfl)
    (case aOpened => first | k_is | k_exc | rfl)
    (case lOpened => first | k_is | k_exc | rfl)
    (case cOpened => first | k_is | k_exc | rfl)
    (case kOpened => first | k_is | k_exc | rfl)
    (case aDraw => first | k_is | k_exc | rfl)
    (case lDraw => first | k_is | k_exc | rfl)
    (case cDraw => first | k_is | k_exc | rfl)
    (case kDraw => first | k_is | k_exc | rfl)
    (case aPick => first | k_is | k_exc | rfl)
    (case lPick => first | k_is | k_exc | rfl)
    (case cPick => first | k_is | k_exc | rfl)
    (case kPick => first | k_is | k_exc | rfl)
    (case aPeople => first | k_is | k_exc | rfl)
    (case lPeople => first | k_is | k_exc | rfl)
    (case cPeople => first | k_is | k_exc | rfl)
    (case kPeople => first | k_is | k_exc | rfl)
    (case aPairs => first | k_is | k_exc | rfl)
    (case lPairs => first | k_is | k_exc | rfl)
    (case cPairs => first | k_is | k_exc | rfl)
    (case kPairs => first | k_is | k_exc | rfl)
    (case aParted => first | k_is | k_exc | rfl)
    (case lParted => first | k_is | k_exc | rfl)
    (case cParted => first | k_is | k_exc | rfl)
    (case kParted => first | k_is | k_exc | rfl)
    (case aUnlike => first | k_is | k_exc | rfl)
    (case lUnlike => first | k_is | k_exc | rfl)
    (case cUnlike => first | k_is | k_exc | rfl)
    (case kUnlike => first | k_is | k_exc | rfl)
    (case aReaders => first | k_is | k_exc | rfl)
    (case lReaders => first | k_is | k_exc | rfl)
    (case cReaders => first | k_is | k_exc | rfl)
    (case kReaders => first | k_is | k_exc | rfl)
    (case aLwList => first | k_is | k_exc | rfl)
    (case lLwList => first | k_is | k_exc | rfl)
    (case cLwList => first | k_is | k_exc | rfl)
    (case kLwList => first | k_is | k_exc | rfl)
    (case aPlan => first | k_is | k_exc | rfl)
    (case lPlan => first | k_is | k_exc | rfl)
    (case cPlan => first | k_is | k_exc | rfl)
    (case kPlan => first | k_is | k_exc | rfl)
    (case aMade => first | k_is | k_exc | rfl)
    (case lMade => first | k_is | k_exc | rfl)
    (case cMade => first | k_is | k_exc | rfl)
    (case kMade => first | k_is | k_exc | rfl)
    (case aFirstWrong => first | k_is | k_exc | rfl)
    (case lFirstWrong => first | k_is | k_exc | rfl)
    (case cFirstWrong => first | k_is | k_exc | rfl)
    (case kFirstWrong => first | k_is | k_exc | rfl)
    (case aChanged => first | k_is | k_exc | rfl)
    (case lChanged => first | k_is | k_exc | rfl)
    (case cChanged => first | k_is | k_exc | rfl)
    (case kChanged => first | k_is | k_exc | rfl)
    (case aLaw => first | k_is | k_exc | rfl)
    (case lLaw => first | k_is | k_exc | rfl)
    (case cLaw => first | k_is | k_exc | rfl)
    (case kLaw => first | k_is | k_exc | rfl)
    (case aMarksError => first | k_is | k_exc | rfl)
    (case aBadCrowd => first | k_is | k_exc | rfl)
    (case gaBadCrowd => first | k_is | k_exc | rfl)
    (case ggBadCrowd => first | k_is | k_exc | rfl)
    (case exBadCrowd => first | k_is | k_exc | rfl)
    (case hdBadCrowd => first | k_is | k_exc | rfl)
    (case noBadCrowd => first | k_is | k_exc | rfl)
    (case ccBadCrowd => first | k_is | k_exc | rfl)
    (case mrBadCrowd => first | k_is | k_exc | rfl)
    (case spg => first | k_is | k_exc | rfl)
    (case tkc => first | k_is | k_exc | rfl)
    (case xBadCrowd => first | k_is | k_exc | rfl)
    (case ssBadCrowd => first | k_is | k_exc | rfl)
    (case saBadCrowd => first | k_is | k_exc | rfl)
    (case tyBadCrowd => first | k_is | k_exc | rfl)
    (case kkBadCrowd => first | k_is | k_exc | rfl)
    (case iBadCrowd => first | k_is | k_exc | rfl)
    (case tBadCrowd => first | k_is | k_exc | rfl)
    (case lBadCrowdInit => first | k_is | k_exc | rfl)
    (case cBadCrowdInit => first | k_is | k_exc | rfl)
    (case kBadCrowdInit => first | k_is | k_exc | rfl)
    (case aBadRule => first | k_is | k_exc | rfl)
    (case gaBadRule => first | k_is | k_exc | rfl)
    (case ggBadRule => first | k_is | k_exc | rfl)
    (case exBadRule => first | k_is | k_exc | rfl)
    (case hdBadRule => first | k_is | k_exc | rfl)
    (case noBadRule => first | k_is | k_exc | rfl)
    (case ccBadRule => first | k_is | k_exc | rfl)
    (case mrBadRule => first | k_is | k_exc | rfl)
    (case xBadRule => first | k_is | k_exc | rfl)
    (case ssBadRule => first | k_is | k_exc | rfl)
    (case saBadRule => first | k_is | k_exc | rfl)
    (case tyBadRule => first | k_is | k_exc | rfl)
    (case kkBadRule => first | k_is | k_exc | rfl)
    (case iBadRule => first | k_is | k_exc | rfl)
    (case tBadRule => first | k_is | k_exc | rfl)
    (case lBadRuleInit => first | k_is | k_exc | rfl)
    (case cBadRuleInit => first | k_is | k_exc | rfl)
    (case kBadRuleInit => first | k_is | k_exc | rfl)
    (case aCrowd => first | k_is | k_exc | rfl)
    (case pgCrowd => first | k_is | k_exc | rfl)
    (case hdCrowd => first | k_is | k_exc | rfl)
    (case poCrowd => first | k_is | k_exc | rfl)
    (case saCrowd => first | k_is | k_exc | rfl)
    (case mkCrowd => first | k_is | k_exc | rfl)
    (case kcCrowd => first | k_is | k_exc | rfl)
    (case ccCrowd => first | k_is | k_exc | rfl)
    (case mrCrowd => first | k_is | k_exc | rfl)
    (case kitCrowd => first | k_is | k_exc | rfl)
    (case noCrowd_people => first | k_is | k_exc | rfl)
    (case noCrowdmost => first | k_is | k_exc | rfl)
    (case mCrowdInit => first | k_is | k_exc | rfl)
    (case isfCrowdInit => first | k_is | k_exc | rfl)
    (case lCrowdInit => first | k_is | k_exc | rfl)
    (case cCrowdInit => first | k_is | k_exc | rfl)
    (case kCrowdInit => first | k_is | k_exc | rfl)
    (case mCrowdLen => first | k_is | k_exc | rfl)
    (case isfCrowdLen => first | k_is | k_exc | rfl)
    (case lCrowdLen => first | k_is | k_exc | rfl)
    (case cCrowdLen => first | k_is | k_exc | rfl)
    (case kCrowdLen => first | k_is | k_exc | rfl)
    (case mCrowdContains => first | k_is | k_exc | rfl)
    (case isfCrowdContains => first | k_is | k_exc | rfl)
    (case lCrowdContains => first | k_is | k_exc | rfl)
    (case cCrowdContains => first | k_is | k_exc | rfl)
    (case kCrowdContains => first | k_is | k_exc | rfl)
    (case mCrowdEq => first | k_is | k_exc | rfl)
    (case isfCrowdEq => first | k_is | k_exc | rfl)
    (case lCrowdEq => first | k_is | k_exc | rfl)
    (case cCrowdEq => first | k_is | k_exc | rfl)
    (case kCrowdEq => first | k_is | k_exc | rfl)
    (case mCrowdPairs => first | k_is | k_exc | rfl)
    (case isfCrowdPairs => first | k_is | k_exc | rfl)
    (case lCrowdPairs => first | k_is | k_exc | rfl)
    (case cCrowdPairs => first | k_is | k_exc | rfl)
    (case kCrowdPairs => first | k_is | k_exc | rfl)
    (case mCrowdIsPair => first | k_is | k_exc | rfl)
    (case isfCrowdIsPair => first | k_is | k_exc | rfl)
    (case lCrowdIsPair => first | k_is | k_exc | rfl)
    (case cCrowdIsPair => first | k_is | k_exc | rfl)
    (case kCrowdIsPair => first | k_is | k_exc | rfl)
    (case mCrowdPeople => first | k_is | k_exc | rfl)
    (case pgCrowdPeople => first | k_is | k_exc | rfl)
    (case ptCrowdPeople => first | k_is | k_exc | rfl)
    (case prCrowdPeople => first | k_is | k_exc | rfl)
    (case lCrowdPeople => first | k_is | k_exc | rfl)
    (case cCrowdPeople => first | k_is | k_exc | rfl)
    (case kCrowdPeople => first | k_is | k_exc | rfl)
    (case aRule => first | k_is | k_exc | rfl)
    (case pgRule => first | k_is | k_exc | rfl)
    (case hdRule => first | k_is | k_exc | rfl)
    (case poRule => first | k_is | k_exc | rfl)
    (case saRule => first | k_is | k_exc | rfl)
    (case mkRule => first | k_is | k_exc | rfl)
    (case kcRule => first | k_is | k_exc | rfl)
    (case ccRule => first | k_is | k_exc | rfl)
    (case mrRule => first | k_is | k_exc | rfl)
    (case kitRule => first | k_is | k_exc | rfl)
    (case noRulecrowd => first | k_is | k_exc | rfl)
    (case noRuleturn => first | k_is | k_exc | rfl)
    (case noRulegather => first | k_is | k_exc | rfl)
    (case noRuletrim => first | k_is | k_exc | rfl)
    (case noRuleprizes => first | k_is | k_exc | rfl)
    (case noRule_reads => first | k_is | k_exc | rfl)
    (case noRule_lists => first | k_is | k_exc | rfl)
    (case noRule_readers => first | k_is | k_exc | rfl)
    (case mRuleInit => first | k_is | k_exc | rfl)
    (case isfRuleInit => first | k_is | k_exc | rfl)
    (case lRuleInit => first | k_is | k_exc | rfl)
    (case cRuleInit => first | k_is | k_exc | rfl)
    (case kRuleInit => first | k_is | k_exc | rfl)
    (case dRuleInit_turn => first | k_is | k_exc | rfl)
    (case dRuleInit_reads => first | k_is | k_exc | rfl)
    (case dRuleInit_gather => first | k_is | k_exc | rfl)
    (case dRuleInit_trim => first | k_is | k_exc | rfl)
    (case dRuleInit_lists => first | k_is | k_exc | rfl)
    (case dRuleInit_prizes => first | k_is | k_exc | rfl)
    (case mRuleEq => first | k_is | k_exc | rfl)
    (case isfRuleEq => first | k_is | k_exc | rfl)
    (case lRuleEq => first | k_is | k_exc | rfl)
    (case cRuleEq => first | k_is | k_exc | rfl)
    (case kRuleEq => first | k_is | k_exc | rfl)
    (case mRuleChanged => first | k_is | k_exc | rfl)
    (case isfRuleChanged => first | k_is | k_exc | rfl)
    (case lRuleChanged => first | k_is | k_exc | rfl)
    (case cRuleChanged => first | k_is | k_exc | rfl)
    (case kRuleChanged => first | k_is | k_exc | rfl)
    (case dRuleChanged_turn => first | k_is | k_exc | rfl)
    (case dRuleChanged_reads => first | k_is | k_exc | rfl)
    (case dRuleChanged_gather => first | k_is | k_exc | rfl)
    (case dRuleChanged_trim => first | k_is | k_exc | rfl)
    (case dRuleChanged_lists => first | k_is | k_exc | rfl)
    (case dRuleChanged_prizes => first | k_is | k_exc | rfl)
    (case mRuleReads => first | k_is | k_exc | rfl)
    (case pgRuleReads => first | k_is | k_exc | rfl)
    (case ptRuleReads => first | k_is | k_exc | rfl)
    (case prRuleReads => first | k_is | k_exc | rfl)
    (case lRuleReads => first | k_is | k_exc | rfl)
    (case cRuleReads => first | k_is | k_exc | rfl)
    (case kRuleReads => first | k_is | k_exc | rfl)
    (case mRuleLists => first | k_is | k_exc | rfl)
    (case pgRuleLists => first | k_is | k_exc | rfl)
    (case ptRuleLists => first | k_is | k_exc | rfl)
    (case prRuleLists => first | k_is | k_exc | rfl)
    (case lRuleLists => first | k_is | k_exc | rfl)
    (case cRuleLists => first | k_is | k_exc | rfl)
    (case kRuleLists => first | k_is | k_exc | rfl)
    (case kitL => first | k_is | k_exc | rfl)
    (case neR => first | k_is | k_exc | rfl)
    (case z_len => first | k_is | k_exc | rfl)
    (case z_max => first | k_is | k_exc | rfl)
    (case z_min => first | k_is | k_exc | rfl)
    (case z_int => first | k_is | k_exc | rfl)
    (case z_range => first | k_is | k_exc | rfl)
    (case z_isinstance => first | k_is | k_exc | rfl)
    (case z_str => first | k_is | k_exc | rfl)
    (case z_bool => first | k_is | k_exc | rfl)
    (case z_list => first | k_is | k_exc | rfl)
    (case z_tuple => first | k_is | k_exc | rfl)
    (case z_set => first | k_is | k_exc | rfl)
    (case z_all => first | k_is | k_exc | rfl)
    (case z_dict => first | k_is | k_exc | rfl)
    (case z_any => first | k_is | k_exc | rfl)
    (case z_zip => first | k_is | k_exc | rfl)
    (case z_enumerate => first | k_is | k_exc | rfl)
    (case z_LETTERS => first | k_is | k_exc | rfl)
    (case z_LONGEST => first | k_is | k_exc | rfl)
    (case z_MOST_PEOPLE => first | k_is | k_exc | rfl)
    (case z_GREATEST_MARK => first | k_is | k_exc | rfl)
    (case z_GREATEST_TRIM => first | k_is | k_exc | rfl)
    (case z_MOST_PRIZES => first | k_is | k_exc | rfl)
    (case aTURNS => first | k_is | k_exc | rfl)
    (case lkTURNS => first | k_is | k_exc | rfl)
    (case aGATHERS => first | k_is | k_exc | rfl)
    (case lkGATHERS => first | k_is | k_exc | rfl)
    (case aGATHERS_OF_TURNED_ROWS => first | k_is | k_exc | rfl)
    (case lkGATHERS_OF_TURNED_ROWS => first | k_is | k_exc | rfl)
  case S =>
    intro K H a ns hl _ hS
    exact ⟨a, ns, rfl, hS, hl, fun _ => rfl⟩

