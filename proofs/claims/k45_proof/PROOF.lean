import PyProof.Rows.All
import Wide.All
import OpenK.AllK
import Wide.FinOn
import HandS.Base
import HandS.Call
import HandS.List
import HandS.Strs
import HandS.SetKeys
import HandS.ForMost
import HandS.Walk
import HandS.ForExc
import HandS.ExcInit
import HandS.ExcField
import HandS.ExcIs
import HandS.IsInst
import KE.KExcIs
import HandS.ExcValue
import KE.KExcInit
import HandS.Words
import HandS.Ends
import HandS.Property
import PyProof.InstNe
import PyProof.FactsAll.range_iterator_1
import HandS.NamedTupSort
import PyProof.ReprRoads
import HandS.IterNext
import HandS.TryMany
import HandS.OwnEq
import HandS.OwnIter
import HandS.IterVal
import KE.KOwnIter
import HandS.EndTab
import KE.KNest
import HandS.Conv
import HandS.MakeKwOnly
import HandS.Lambda
import HandS.DictComp
import HandS.DictTup
import HandS.TupLen
import HandS.Iter
import KE.KDictWalk
import KE.KDictCopyH
import KE.KDictKeyed
import KE.KDictPairs
import KE.KDictItemsList
import PyProof.P3Eq
import PySem.Challenge.RW_ownmarks_k45_whole_worst_lots
import HandS.TupLe
import HandS.Style
import HandS.ClsMeth
import HandS.Dict
import HandS.SortKw
import KE.DatumOrd
import HandS.DeepEq
import KE.GoesMore
import KE.GoesEnum
import KE.KDictZip
import HandS.WordsDict
import HandS.Deep
import HandS.Finally
import HandS.Gcd
import HandS.Wide
import HandS.TupAny
set_option Elab.async false
set_option linter.all false
set_option maxRecDepth 100000
/-! Sets made of a list or a tuple of keys of any kind, however many: what is in them and how many there are. -/
namespace Km
open PySem PySem.Spec PyProof.Rows
section
variable {K : Type} [DecidableEq K]
def addU (l : List K) (k : K) : List K := if k ∈ l then l else l ++ [k]
def uniq (ks : List K) : List K := ks.foldl addU []
theorem uniq_snoc (ks : List K) (k : K) : uniq (ks ++ [k]) = addU (uniq ks) k := by
  unfold uniq
  rw [List.foldl_append]
  rfl
theorem mem_addU {l : List K} {k j : K} : j ∈ addU l k ↔ j ∈ l ∨ j = k := by
  unfold addU
  split
  · constructor
    · exact .inl
    · rintro (h | rfl) <;> assumption
  · simp
theorem rev_ind {P : List K → Prop} (h0 : P []) (h1 : ∀ l k, P l → P (l ++ [k])) (l : List K) : P l := by
  have h : ∀ r : List K, P r.reverse := by
    intro r
    induction r with
    | nil => exact h0
    | cons a r ih =>
      rw [List.reverse_cons]
      exact h1 _ _ ih
  have := h l.reverse
  rwa [List.reverse_reverse] at this
theorem mem_uniq (ks : List K) (j : K) : j ∈ uniq ks ↔ j ∈ ks := by
  induction ks using rev_ind with
  | h0 => simp [uniq]
  | h1 l k ih => rw [uniq_snoc, mem_addU, ih, List.mem_append, List.mem_singleton]
theorem uniq_le (ks : List K) : (uniq ks).length ≤ ks.length := by
  induction ks using rev_ind with
  | h0 => exact Nat.le_refl _
  | h1 l k ih =>
    rw [uniq_snoc, List.length_append, List.length_singleton]
    unfold addU
    split
    · omega
    · rw [List.length_append, List.length_singleton]
      omega
theorem uniq_full (ks : List K) : (uniq ks).length = ks.length ↔ ks.Nodup := by
  induction ks using rev_ind with
  | h0 => simp [uniq]
  | h1 l k ih =>
    have h2 := uniq_le l
    rw [uniq_snoc, List.length_append, List.length_singleton, List.nodup_append, ← ih]
    unfold addU
    by_cases h : k ∈ uniq l
    · rw [if_pos h]
      have h' := (mem_uniq l k).mp h
      constructor
      · intro e
        omega
      · rintro ⟨_, _, z⟩
        exact absurd rfl (z k h' k (List.mem_singleton.mpr rfl))
    · rw [if_neg h, List.length_append, List.length_singleton]
      have h' : k ∉ l := fun z => h ((mem_uniq l k).mpr z)
      constructor
      · intro e
        refine ⟨by omega, by simp, fun a ha b hb z => ?_⟩
        rw [List.mem_singleton.mp hb] at z
        exact h' (z ▸ ha)
      · rintro ⟨z, _⟩
        omega
theorem addU_len (l : List K) (k : K) : (addU l k).length = if decide (k ∈ l) = true then l.length else l.length + 1 := by
  unfold addU
  by_cases h : k ∈ l
  · rw [if_pos h, if_pos (decide_eq_true h)]
  · rw [if_neg h, if_neg (by simpa using h), List.length_append, List.length_singleton]
end
section
variable {prog : Program} {w : World} {K : Type} [DecidableEq K] {knd : KeyKind prog w K}
theorem setOf_eq {h : Heap} {a : Addr} {S T : K → Bool} {n m : Nat} (z : h.SetOf knd a S n) (e1 : ∀ k, S k = T k) (e2 : n = m) : h.SetOf knd a T m := by
  rw [← funext e1, ← e2]
  exact z
variable {A : Around} {R : Result → Shared → Prop} {I S : Addr} {fp wr : List Addr} {G : Array GenState → Array GenState → Prop} {n : Nat} {P : Nat → Value → Prop} {St : Nat → Shared → Prop}
def inU (ks : List K) (i : Nat) : K → Bool := fun k => decide (k ∈ uniq (ks.take i))
theorem inU_next {ks : List K} {i : Nat} {k : K} (hk : ks[i]? = some k) (j : K) : (inU ks i j || decide (j = k)) = inU ks (i + 1) j := by
  unfold inU
  rw [List.take_add_one, hk]
  show _ = decide (j ∈ uniq (ks.take i ++ [k]))
  rw [uniq_snoc, ← Bool.decide_or]
  exact decide_eq_decide.mpr mem_addU.symm
theorem cnt_next {ks : List K} {i : Nat} {k : K} (hk : ks[i]? = some k) : (if inU ks i k = true then (uniq (ks.take i)).length else (uniq (ks.take i)).length + 1) = (uniq (ks.take (i + 1))).length := by
  rw [List.take_add_one, hk]
  show _ = (uniq (ks.take i ++ [k])).length
  rw [uniq_snoc, addU_len]
  rfl
/-- the filling of a fresh set, from turn i on -/
theorem fill (W : WalksS prog w A.in1 I fp wr G n P St) (hS : S ∉ fp) (ks : List K) (hn : ks.length = n) (hroom : n + 1 < scanBound)
    (hval : ∀ i v, P i v → ∃ k, ks[i]? = some k ∧ knd.is k v = true ∧ v.scannable = true) :
    ∀ (left i : Nat) (s : Shared), left = n - i → i ≤ n → St i s → s.heap.SetOf knd S (inU ks i) (uniq (ks.take i)).length →
      (∀ s2, Moved (S :: wr) G s s2 → s2.heap.SetOf knd S (inU ks n) (uniq (ks.take n)).length → R (.ok (.ret .none)) s2) →
      codeAny (model prog w) A (.builtin "set.update.loop" ⟨[.ref S, .ref I], []⟩) R s
  | 0, i, s, hl, hi, st, z, hR => by
    have e : i = n := by omega
    rw [e] at st z
    refine codeAny_builtin PyProof.Rows.F.entry_set_update_loop ?_
    rw [Around.under_plainId PyProof.Rows.F.plain_set_update_loop _]
    refine wpAny_bind (W.done s _ _ st fun s2 mv => ?_)
    have hw : S ∉ wr := fun q => hS (W.sub _ q)
    refine wpAny_pure (hR s2 (mv.mono fun b hb => List.mem_cons_of_mem _ hb) ?_)
    obtain ⟨o, es, ep, t, ho, r⟩ := z
    exact ⟨o, es, ep, t, mv.heap S _ hw ho, r⟩
  | left + 1, i, s, hl, hi, st, z, hR => by
    have lt : i < n := by omega
    have hw : S ∉ wr := fun q => hS (W.sub _ q)
    refine codeAny_builtin PyProof.Rows.F.entry_set_update_loop ?_
    rw [Around.under_plainId PyProof.Rows.F.plain_set_update_loop _]
    refine wpAny_bind (W.item i s _ _ lt st fun v s1 hv st1 mv => ?_)
    obtain ⟨k, hk, his, hsc⟩ := hval i v hv
    have z1 : s1.heap.SetOf knd S (inU ks i) (uniq (ks.take i)).length := by
      obtain ⟨o, es, ep, t, ho, r⟩ := z
      exact ⟨o, es, ep, t, mv.heap S _ hw ho, r⟩
    refine wpAny_bind (wpAny_holding ?_)
    unfold setAdd
    refine wpAny_holding (wpAny_bind (knd.pyHash his ?_))
    have room : (uniq (ks.take i)).length + 1 < scanBound := by
      have h1 := uniq_le (ks.take i)
      have h2 : (ks.take i).length ≤ i := by
        rw [List.length_take]
        omega
      omega
    refine wpAny_setAddHashed_of (s := { s1 with toks := s1.toks + 1 }) his hsc z1 room fun h2 sb z2 => ?_
    have z3 : h2.SetOf knd S (inU ks (i + 1)) (uniq (ks.take (i + 1))).length := setOf_eq z2 (inU_next hk) (cnt_next hk)
    refine wpAny_pure ⟨plainId_quiet PyProof.Rows.F.plain_set_update_loop _, fill W hS ks hn hroom hval left (i + 1) _ (by omega) lt (W.frame _ s1 _ _ st1 (Nat.le_succ _) fun b hb o e => ?_) z3 fun s3 mv3 z4 => ?_⟩
    · have nb : b ≠ S := fun q => hS (q ▸ hb)
      rw [sb.2 b nb]
      exact e
    · refine hR s3 (Moved.trans W.gtrans ((mv.mono fun b hb => List.mem_cons_of_mem _ hb).then_heap (Nat.le_succ _) fun b o hb e => ?_) mv3) z4
      have nb : b ≠ S := fun q => hb (q ▸ List.mem_cons_self)
      rw [sb.2 b nb]
      exact e
end
end Km
namespace Km
open PySem PySem.Spec PyProof.Rows
section
variable {prog : Program} {w : World} {A : Around} {E : Value → Shared → Prop} {s : Shared} {K : Type} [DecidableEq K] {knd : KeyKind prog w K}
def fresh (led : Bool) : Obj := { cls := .type "set", dict := none, data := .set #[] 0 (.fresh 0 0 led) }
/-- what __init__ is to leave: all of keys in the set at D, what stood before stands -/
def Left (knd : KeyKind prog w K) (s : Shared) (ks : List K) (s2 : Shared) : Prop :=
  ∃ h2 tk, s2 = { s with heap := h2, toks := tk } ∧ h2.SetOf knd s.heap.objs.size (inU ks ks.length) (uniq ks).length ∧ ∀ b o, s.heap.get? b = some o → h2.get? b = some o
/-- set(x), given what its __init__ does with the fresh set -/
theorem set_of_init {x : Value} {ks : List K} {Q : Value → Shared → Prop}
    (hinit : ∀ (led : Bool) (B : Around), (A.handled = none → B.handled = none) → wpAny (model prog w) B (Builtin.«set.__init__» ⟨[.ref s.heap.objs.size, x], []⟩)
      (fun r s2 => r = .done (.ret .none) ∧ Left knd s ks s2) E { s with heap := s.heap.push (fresh led) })
    (h : ∀ s2, Left knd s ks s2 → Q (.ref s.heap.objs.size) s2) : wpAny (model prog w) A (call (.type "set") [x]) Q E s := by
  obtain ⟨c, tl, hmro⟩ := PySem.F.called_set.mro
  have a1 := PySem.F.called_set.made
  have a2 := PySem.F.called_set.sub
  refine wpAny_call (codeAny_of_tree ?_)
  refine wpAny_pure ⟨Code.quiet_builtin _ (by decide +kernel), codeAny_builtin PySem.F.entry_type_call ?_⟩
  rw [Around.under_plain (weight_type_call_type "set" [x] []) rfl]
  have a3 := PySem.F.called_set.notType
  have a4 := PySem.F.called_set.canCreate
  have a5 := PySem.F.typeCall_set_1 x
  repeat (any_goals (first | assumption | wp_step))
  refine codeAny_mono (code_set_new_1 x (E := E) (Q₁ := fun o s1 => ∃ led : Bool, o = .ref s.heap.objs.size ∧ s1 = { s with heap := s.heap.push (fresh led) }) fun led => ⟨led, rfl, rfl⟩) fun r s1 hr => ?_
  cases r with
  | error e => exact hr
  | ok fl =>
    cases fl with
    | ret o =>
      obtain ⟨led, rfl, rfl⟩ := hr
      have at1 : (s.heap.push (fresh led)).get? s.heap.objs.size = some (fresh led) := Heap.get?_push_size _ rfl
      have ty1 : Shared.TypeIs { s with heap := s.heap.push (fresh led) } (.ref s.heap.objs.size) "set" := ⟨_, at1, rfl⟩
      have a6 := PySem.F.called_set.init.lookup
      have a7 := PySem.F.called_set.init.bind (.ref s.heap.objs.size)
      repeat (any_goals (first | assumption | wp_step))
      refine codeAny_mono (codeAny_call_builtin (R := wants (fun r s2 => r = .none ∧ Left knd s ks s2) E) PySem.F.called_set.init.plain PySem.F.entry_set_init (check_set_init_1 ty1 ?_)) fun r2 s2 hr2 => ?_
      · refine wpAny_mono (hinit led _ fun q => ?_) (fun r s2 z => ?_) (fun _ _ z => z)
        · simp [q]
        · obtain ⟨rfl, z⟩ := z
          exact ⟨rfl, z⟩
      · cases r2 with
        | error e => exact hr2
        | ok f2 =>
          cases f2 with
          | ret r =>
            obtain ⟨rfl, z⟩ := hr2
            repeat (any_goals (first | assumption | wp_step))
            exact h _ z
          | _ => exact hr2.elim
    | _ => exact hr.elim
/-- set.__init__ over a list -/
theorem init_list {l : Addr} {items : Array Value} {ks : List K} (led : Bool) (hh : A.handled = none) (hl : s.heap.IsList l items) (hn : ks.length = items.size) (hroom : items.size + 1 < scanBound)
    (hval : ∀ (i : Nat) (v : Value), items[i]? = some v → ∃ k, ks[i]? = some k ∧ knd.is k v = true ∧ v.scannable = true) :
    wpAny (model prog w) A (Builtin.«set.__init__» ⟨[.ref s.heap.objs.size, .ref l], []⟩) (fun r s2 => r = .done (.ret .none) ∧ Left knd s ks s2) E { s with heap := s.heap.push (fresh led) } := by
  have at1 : (s.heap.push (fresh led)).get? s.heap.objs.size = some (fresh led) := Heap.get?_push_size _ rfl
  have ty1 : Shared.TypeIs { s with heap := s.heap.push (fresh led) } (.ref s.heap.objs.size) "set" := ⟨_, at1, rfl⟩
  obtain ⟨⟨oc, odict, od, osl⟩, ho, hc, nl, hd⟩ := hl
  simp only at hc hd
  subst hc hd
  have ho1 : (s.heap.push (fresh led)).get? l = some { cls := .type "list", dict := odict, data := .seq items nl, slots := osl } := Heap.get?_push_of_some _ ho
  have b1 := PySem.F.sub_list_set
  have b2 := PySem.F.sub_list_frozenset
  have b3 : (Value.type "list" == Value.type "dict") = false := by decide
  have hl1 : (s.heap.push (fresh led)).IsList l items := ⟨_, ho1, rfl, nl, rfl⟩
  unfold Builtin.«set.__init__» noKeywords Builtin.Frozenset.updateFrom
  generalize hPI : pyIter = PI
  wp_walk
  subst hPI
  refine wpAny_pyIter_list hl1 ?_
  refine wpAny_bind (wpAny_runValue ?_)
  have lS : l < s.heap.objs.size := Heap.lt_size ho
  have h1 : A.in1.handled = none := by simp [hh]
  have sz : (s.heap.push (fresh led)).objs.size = s.heap.objs.size + 1 := Heap.size_push ..
  have nI : l ≠ (s.heap.push (fresh led)).objs.size := by
    rw [sz]
    exact Nat.ne_of_lt (Nat.lt_succ_of_lt lS)
  have nf : s.heap.objs.size ∉ [(s.heap.push (fresh led)).objs.size, l] := by
    rw [sz]
    intro q
    rcases List.mem_cons.mp q with q | q
    · exact absurd q (Nat.ne_of_lt (Nat.lt_succ_self _))
    · exact absurd (List.mem_singleton.mp q) (Nat.ne_of_gt lS)
  refine fill (knd := knd) ((Walks.list h1 _ l nI items).toS) nf ks hn hroom hval (items.size - 0) 0 _ rfl (Nat.zero_le _) ⟨⟨_, Heap.get?_push_size _ rfl, rfl, rfl⟩, hl1.push _⟩ ?_ ?_
  · have at2 : ((s.heap.push (fresh led)).push { cls := .type "list_iterator", data := .fields #[.ref l, .int 0 0] }).get? s.heap.objs.size = some (fresh led) := Heap.get?_push_of_some _ at1
    exact setOf_eq ((PyProof.Rows.setObjOf_fresh (knd := knd) led).setOf at2 (by unfold scanBound; omega)) (fun _ => by simp [inU, uniq]) (by simp [uniq])
  · intro s2 mv z
    obtain ⟨h2, g2, d2, t2, o2⟩ := s2
    obtain rfl : g2 = s.gens := mv.gens
    obtain rfl : d2 = s.drawn := mv.drawn
    obtain rfl : o2 = s.os := mv.os
    refine wpAny_pure (wpAny_pure ⟨rfl, h2, t2, rfl, ?_, fun b o e => ?_⟩)
    · rw [← hn, List.take_length] at z
      exact z
    · have bS : b < s.heap.objs.size := Heap.lt_size e
      refine mv.heap b o (fun q => ?_) (Heap.get?_push_of_some _ (Heap.get?_push_of_some _ e))
      rcases List.mem_cons.mp q with q | q
      · exact absurd q (Nat.ne_of_lt bS)
      · have q' := List.mem_singleton.mp q
        rw [sz] at q'
        exact absurd q' (Nat.ne_of_lt (Nat.lt_succ_of_lt bS))
/-- set.__init__ over a tuple -/
theorem init_tuple {l : Addr} {items : Array Value} {ks : List K} (led : Bool) (hh : A.handled = none) (hl : s.heap.IsTuple l items) (hn : ks.length = items.size) (hroom : items.size + 1 < scanBound)
    (hval : ∀ (i : Nat) (v : Value), items[i]? = some v → ∃ k, ks[i]? = some k ∧ knd.is k v = true ∧ v.scannable = true) :
    wpAny (model prog w) A (Builtin.«set.__init__» ⟨[.ref s.heap.objs.size, .ref l], []⟩) (fun r s2 => r = .done (.ret .none) ∧ Left knd s ks s2) E { s with heap := s.heap.push (fresh led) } := by
  have at1 : (s.heap.push (fresh led)).get? s.heap.objs.size = some (fresh led) := Heap.get?_push_size _ rfl
  have ty1 : Shared.TypeIs { s with heap := s.heap.push (fresh led) } (.ref s.heap.objs.size) "set" := ⟨_, at1, rfl⟩
  obtain ⟨⟨oc, odict, od, osl⟩, ho, hc, nl, hd⟩ := hl
  simp only at hc hd
  subst hc hd
  have ho1 : (s.heap.push (fresh led)).get? l = some { cls := .type "tuple", dict := odict, data := .seq items nl, slots := osl } := Heap.get?_push_of_some _ ho
  have b1 := PySem.F.sub_tuple_set
  have b2 := PySem.F.sub_tuple_frozenset
  have b3 : (Value.type "tuple" == Value.type "dict") = false := by decide
  have hl1 : (s.heap.push (fresh led)).IsTuple l items := ⟨_, ho1, rfl, nl, rfl⟩
  unfold Builtin.«set.__init__» noKeywords Builtin.Frozenset.updateFrom
  generalize hPI : pyIter = PI
  wp_walk
  subst hPI
  refine wpAny_pyIter_tuple hl1 ?_
  refine wpAny_bind (wpAny_runValue ?_)
  have lS : l < s.heap.objs.size := Heap.lt_size ho
  have h1 : A.in1.handled = none := by simp [hh]
  have sz : (s.heap.push (fresh led)).objs.size = s.heap.objs.size + 1 := Heap.size_push ..
  have nI : l ≠ (s.heap.push (fresh led)).objs.size := by
    rw [sz]
    exact Nat.ne_of_lt (Nat.lt_succ_of_lt lS)
  have nf : s.heap.objs.size ∉ [(s.heap.push (fresh led)).objs.size, l] := by
    rw [sz]
    intro q
    rcases List.mem_cons.mp q with q | q
    · exact absurd q (Nat.ne_of_lt (Nat.lt_succ_self _))
    · exact absurd (List.mem_singleton.mp q) (Nat.ne_of_gt lS)
  refine fill (knd := knd) ((Walks.tuple h1 _ l nI items).toS) nf ks hn hroom hval (items.size - 0) 0 _ rfl (Nat.zero_le _) ⟨⟨_, Heap.get?_push_size _ rfl, rfl, rfl⟩, hl1.push _⟩ ?_ ?_
  · have at2 : ((s.heap.push (fresh led)).push { cls := .type "tuple_iterator", data := .fields #[.ref l, .int 0 0] }).get? s.heap.objs.size = some (fresh led) := Heap.get?_push_of_some _ at1
    exact setOf_eq ((PyProof.Rows.setObjOf_fresh (knd := knd) led).setOf at2 (by unfold scanBound; omega)) (fun _ => by simp [inU, uniq]) (by simp [uniq])
  · intro s2 mv z
    obtain ⟨h2, g2, d2, t2, o2⟩ := s2
    obtain rfl : g2 = s.gens := mv.gens
    obtain rfl : d2 = s.drawn := mv.drawn
    obtain rfl : o2 = s.os := mv.os
    refine wpAny_pure (wpAny_pure ⟨rfl, h2, t2, rfl, ?_, fun b o e => ?_⟩)
    · rw [← hn, List.take_length] at z
      exact z
    · have bS : b < s.heap.objs.size := Heap.lt_size e
      refine mv.heap b o (fun q => ?_) (Heap.get?_push_of_some _ (Heap.get?_push_of_some _ e))
      rcases List.mem_cons.mp q with q | q
      · exact absurd q (Nat.ne_of_lt bS)
      · have q' := List.mem_singleton.mp q
        rw [sz] at q'
        exact absurd q' (Nat.ne_of_lt (Nat.lt_succ_of_lt bS))
end
end Km

set_option Elab.async false
set_option linter.all false
set_option maxRecDepth 100000
set_option maxHeartbeats 2000000
namespace L2
open PySem PySem.Spec PyProof.Rows
/-- set(x), x a list or a tuple of ints and texts -/
def rSetK (P : Program) (w : World) (K : PySem.W.Frag) : List V → Hp → VK → Prop := fun xs H Q => ∃ (l : Addr) (ks : List Key), xs = [.ref l] ∧ (SqL K H l (ks.map kV) ∨ SqT K H l (ks.map kV)) ∧ ks.length ≤ 1000 ∧
  ∀ p, H p = none → Q (.ref p) (upd H p (SetK P w p (Km.inU ks ks.length) (Km.uniq ks).length))
section
variable {X : Cx}
theorem km_keys_at {P : Program} {w : World} {ks : List Key} {its : List Value} (r : Vals (ks.map kV) its) (i : Nat) (v : Value) (h : its.toArray[i]? = some v) : ∃ k, ks[i]? = some k ∧ (mixKind P w).is k v = true ∧ v.scannable = true := by
  have h2 : its[i]? = some v := by simpa using h
  have hl : i < ks.length := by
    have e := r.length
    rw [List.length_map] at e
    rw [e]
    exact (List.getElem?_eq_some_iff.mp h2).1
  obtain ⟨u, hu, ru⟩ := r.get (i := i) (x := kV ks[i]) (by simp [hl])
  rw [h2] at hu
  cases hu
  exact ⟨ks[i], List.getElem?_eq_getElem hl, kV_is ru, key_scan ru⟩
theorem cr_setK (hc : X.calm = true) : CallR X (.type "set") (rSetK X.prog X.w X.K) := by
  intro pins s σ H xs us Q I r h
  obtain ⟨l, ks, rfl, hq, hroom, q⟩ := h
  rw [Vals.ref1 r]
  have hd := I.ok.hd hc
  have fin : ∀ s2, Km.Left (mixKind X.prog X.w) s ks s2 → EP X pins σ Q (.ref s.heap.objs.size) s2 := fun s2 ⟨h2, tk, e, z, k⟩ => by
    subst e
    exact ⟨.ref _, _, I.laid (t' := tk) k (Nat.le_refl _) (setK_new z), rfl, q _ (I.hok.fresh (Nat.le_refl _))⟩
  rcases hq with hq | hq
  · obtain ⟨its, rr, pl, hz⟩ := I.list hq
    have hn : ks.length = its.toArray.size := by rw [List.size_toArray, ← rr.length, List.length_map]
    exact Km.set_of_init (knd := mixKind X.prog X.w) (ks := ks) (fun led B hB => Km.init_list led (hB hd) pl.isList hn (by unfold scanBound; omega) (km_keys_at rr)) fin
  · obtain ⟨its, rr, pl, hz⟩ := I.tuple hq
    have hn : ks.length = its.toArray.size := by rw [List.size_toArray, ← rr.length, List.length_map]
    exact Km.set_of_init (knd := mixKind X.prog X.w) (ks := ks) (fun led B hB => Km.init_tuple led (hB hd) pl hn (by unfold scanBound; omega) (km_keys_at rr)) fin
/-- len(S) -/
def rLenK (P : Program) (w : World) : List V → Hp → VK → Prop := fun xs H Q => ∃ (a : Addr) (S : Key → Bool) (n : Nat), xs = [.ref a] ∧ H a = some (SetK P w a S n) ∧ n ≤ 1000 ∧ Q (.int n) H
theorem cr_lenK : CallR X (.builtin "len") (rLenK X.prog X.w) := by
  intro pins s σ H xs us Q I r h
  obtain ⟨a, S, n, rfl, ha, hn, q⟩ := h
  rw [Vals.ref1 r]
  obtain ⟨o, es, ep, t, ho, hex, hd, _, _, _, hf, hz⟩ := setK_get I ha
  refine call_len_set ho hex hd hf (by rw [hz]; omega) ⟨.int n, H, I.tok _, ⟨_, by rw [hz]⟩, q⟩
end
end L2
namespace L2
open PySem PySem.Spec PyProof.Rows
theorem same_new {H : Hp} {p : Addr} {o : HO} (h : H p = none) : Same H (upd H p o) := fun b x e => by
  rw [upd_ne (ne_of_none e h)]
  exact e
/-- a new object: from then on the heap is a letter -/
theorem newH {H : Hp} {p : Addr} {o : HO} (n : H p = none) {P : Hp → Prop} (h : ∀ H2, Same H H2 → H2 p = some o → P H2) : P (upd H p o) := h _ (same_new n) upd_same
section
variable {J : It} {n : Nat} {G : Hp → Prop}
/-- a comprehension without a test whose element keeps what was tracked -/
theorem lc_map {xs ys : List V} (w : Walk J n G (YAt xs)) (hy : ys.length = n) (hsz : n < sizeLine) {slot : Nat} {te : TE} {vs : List Nat} {σ : St} {H1 : Hp} {D : Addr} {Qd : Hp → Prop} (hD : H1 D = none)
    (hG : ∀ H, Same H1 H → G H) (hw : ∀ x, wipe ((wipe σ vs).set slot (some x)) vs = wipe σ vs)
    (hs : ∀ (i : Nat) (x y : V) (H : Hp) (Q : VK), xs[i]? = some x → ys[i]? = some y → Same H1 H → (∀ H4, Same H H4 → Q y H4) → te ((wipe σ vs).set slot (some x)) H Q)
    (hd : ∀ H, Same H1 H → H D = some (.lst ys) → Qd H) :
    ∃ W : Nat → Nat → Hp → Prop, (∃ m, W 0 m (upd H1 D (.lst []))) ∧ ∀ i m H, W i m H →
      (J.stop i H ∧ Qd H) ∨ (J.go i H ∧ ∃ Nx : Hp → Prop, (∀ H', Nx H' → ∃ m', m' < m ∧ W (i + 1) m' H') ∧ ∀ x H', J.yld i H x H' → gName slot x (wipe σ vs) H' fun σ2 H2 => wipe σ2 vs = wipe σ vs ∧ tYes σ2 H2 fun b H3 =>
        if b = true then te σ2 H3 fun y H4 => ∃ acc, H4 D = some (.lst acc) ∧ acc.length < sizeLine ∧ Nx (upd H4 D (.lst (acc ++ [y]))) else Nx H3) := by
  refine lc_it w (fun i H => Same H1 H ∧ H D = some (.lst (ys.take i))) ⟨same_new hD, upd_same⟩ (fun i H _ h => hG H h.1) (fun i x H H' hi h y => ?_) (fun H h => hd H h.1 (by rw [h.2, ← hy, List.take_length]))
  obtain ⟨s1, hl⟩ := h
  obtain ⟨rfl, hx⟩ := y
  have hyi : ys[i]? = some (ys[i]'(by omega)) := List.getElem?_eq_getElem (by omega)
  refine ⟨hw x, ?_⟩
  unfold tYes
  dsimp only
  rw [if_pos rfl]
  refine hs i x _ H' _ hx hyi s1 fun H4 s4 => ⟨ys.take i, s4 _ _ hl, ?_, ?_, ?_⟩
  · rw [List.length_take]
    omega
  · intro b o e
    rw [upd_ne (ne_of_none e hD)]
    exact s4 _ _ (s1 _ _ e)
  · rw [upd_same, List.take_add_one, hyi]
    rfl
end
section
variable {X : Cx} {CX : CXT} {k : Nat} {f C : Addr} {fd : FuncData} {ps : List Str} {sp : Sp} {E : St → XK} {x : Str} {p pos : Pos} {e : Expr} {es : List Expr} {t : TA}
/-- C(e, ..) where what its __init__ raises is wished for at the caller's slots -/
def tMakeS (C : Addr) (sp : Sp) (E : St → XK) (t : TA) : TE := fun σ H Q => t σ H fun vs H1 => ∀ x dx, H1 x = none → H1 dx = none → dx ≠ x → sp (.ref x :: vs) (upd (upd H1 dx (.own x)) x (.ins C dx [])) (fun v H2 => v = .non ∧ Q (.ref x) H2) (E σ)
theorem pe_makeS (M : Mk X.K C f) (F : FnOk X.prog X.w X.K X.mg X.base CX k f fd ps sp) (hr : Room (k + 1) X.A) (hg : Gl X x) (hm : X.mg x = some (.ref C)) (hb : Binds X.K fd ps []) (hx : ∀ σ, PassesAt CX X σ (E σ))
    (ha : PA X (e :: es) t) (hdb : (x == ("__debug__" : Str)) = false := by decide) (he : starEach (e :: es) X.env = (false, eval e X.env) :: starEach es X.env := by rfl) (hpl : (backTo pos (starEach es X.env)).any (·.1) = false := by rfl) :
    PE X (.Call (.Name x p) (e :: es) [] pos) (tMakeS C sp E t) := by
  constructor
  intro pins s σ H Q I h
  refine wpAny_Call_Name_kw (ld_glob I hg hm ?_ hdb)
  refine PySem.W.callWith_K (h₀ := X.base) I.ok.mod.kin M.kp (thn (ha.run pos pins s σ H _ I h) fun us s1 q0 => ?_) he hpl
  obtain ⟨vs, H1, I1, r, q⟩ := q0
  refine ⟨I1.kIn, ?_⟩
  have q1 := q (s1.heap.objs.size + 1) s1.heap.objs.size (I1.hok.fresh (Nat.le_succ _)) (I1.hok.fresh (Nat.le_refl _)) (Nat.ne_of_lt (Nat.lt_succ_self _))
  have I2 := Inv.made (C := C) I1
  have r2 : Vals (V.ref (s1.heap.objs.size + 1) :: vs) (Value.ref (s1.heap.objs.size + 1) :: us) := .cons rfl r
  have hl : (Value.ref (s1.heap.objs.size + 1) :: us).length = ps.length := by
    rw [← r2.length]
    exact F.len _ _ _ _ q1
  have b := hb _ (Value.ref (s1.heap.objs.size + 1) :: us) I2.kIn (by rw [List.append_nil]; exact hl)
  rw [List.append_nil] at b
  refine wpAny_call (make_map (f := f) I1.kIn M.makes M.init (beq_iff_eq.mp M.fn) (codeAny_mono (F.run _ X.stack _ _ ⟨_ :: us, []⟩ _ _ _ (E σ) (hr.make C us []) (I2.env0.make C us []) b r2 q1) fun z s2 hz => ?_))
  cases z with
  | error err => exact hx σ pins _ _ err s2 I2 hz
  | ok fl =>
    cases fl with
    | ret u =>
      obtain ⟨v, H3, I3, rv, ev, q3⟩ := I2.after hz
      subst ev
      exact ⟨rv, V.ref _, H3, I3, rfl, q3⟩
    | next => exact False.elim hz
    | brk => exact False.elim hz
    | cont => exact False.elim hz
end
/-- isinstance(e, c), e the exception that the suite holds, with its own dict or without -/
def rIsX (K : PySem.W.Frag) (D a : Addr) (cls : Value) (d : Option Addr) : List V → Hp → VK → Prop := fun xs H Q => ∃ (c : V) (cv : Value) (b : Bool), xs = [.ref a, c] ∧ (∀ u, RelV c u → u = cv) ∧ cls = .ref D ∧ (∀ dx, d = some dx → ∃ fs, H dx = some (.xd fs)) ∧ PySem.W.kitOne K (.ref D) cv = some b ∧ Q (.bl b) H
theorem call_isX {X : Cx} {a D : Addr} {oe : Obj} {cls : Value} {d : Option Addr} {pn : List (Addr × Obj)} (C : ExcC X.K D) (hz : Zc cls d oe) (hf : ∃ vs, oe.data = .fields vs) :
    CallR (X.suite a ((a, oe) :: pn)) (.builtin "isinstance") (rIsX X.K D a cls d) := by
  intro pins s σ H xs us Q I r h
  obtain ⟨c, cv, b, rfl, hcv, ecl, hd, e, q⟩ := h
  obtain ⟨u1, u2, rfl, r1, r2⟩ := vals2 r
  cases r1
  obtain rfl := hcv _ r2
  obtain ⟨hget, _⟩ := I.pin (a, oe) (List.mem_append.mpr (.inl List.mem_cons_self))
  obtain ⟨vs, hv⟩ := hf
  obtain ⟨h1, h2⟩ := hz
  have hcl : (PySem.W.clsIn X.K D).isSome = true := by
    obtain ⟨cd, hc, _⟩ := PySem.W.any_some C.hd
    rw [hc] <;> rfl
  have nc : PySem.W.notCls oe = true := by
    unfold PySem.W.notCls
    rw [hv] <;> rfl
  rw [ecl] at h1
  have J : ∃ od, PySem.W.InstAt s.heap a oe D od := by
    cases d with
    | none => exact ⟨none, hget, h1, nc, by rw [h2]; trivial⟩
    | some dx =>
      obtain ⟨fs, hx⟩ := hd dx rfl
      have z : ObjOk X.prog X.w H s.heap dx (.xd fs) := I.hok dx _ hx
      obtain ⟨mA, hns, _⟩ := z
      obtain ⟨od, ho, _⟩ := lookIn_ns hns
      exact ⟨some od, hget, h1, nc, by rw [h2]; exact ho⟩
  obtain ⟨od, J⟩ := J
  exact PySem.W.kia_one (PySem.W.kitx_exc hcl C.hg C.hk C.hs C.ha C.hn C.ht C.hm) I.kIn J e (fun z => nomatch z) fun tk => ⟨.bl b, H, I.kept (t' := tk) fun _ _ z => z, rfl, q⟩
end L2
namespace L2
open PySem PySem.Spec PyProof.Rows
section
variable {X : Cx} {e : Expr} {t : TE} {st : Stmt} {u : TS}
/-- an expression by a contract: ways meet -/
def tCut (P : St → Hp → V → Hp → Prop) (t : TE) : TE := fun σ H Q => t σ H (P σ H) ∧ ∀ v H', P σ H v H' → Q v H'
theorem pe_cut (P : St → Hp → V → Hp → Prop) (h : PE X e t) : PE X e (tCut P t) := ⟨fun pins s σ H Q I z => thn (h.run pins s σ H _ I z.1) fun _ _ q => by
  obtain ⟨x, H1, I1, r, p⟩ := q
  exact ⟨x, H1, I1, r, z.2 x H1 p⟩⟩
end
/-! the pool of the laws: two numbers -/
def Pool (H : Hp) (a : Addr) : Prop := ∃ g q : Int, H a = some (.lst [.int g, .int q]) ∧ 0 ≤ g ∧ 0 ≤ q ∧ q < 2147483647
/-- all but what stands at a is as it was -/
def But (a : Addr) (H H' : Hp) : Prop := ∀ b o, b ≠ a → H b = some o → H' b = some o
theorem But.of_same {a : Addr} {H H' : Hp} (s : Same H H') : But a H H' := fun b o _ e => s b o e
theorem But.upd {a : Addr} {H : Hp} {o : HO} : But a H (upd H a o) := fun b _ n e => by
  rw [upd_ne n]
  exact e
theorem But.trans {a : Addr} {H H1 H2 : Hp} (x : But a H H1) (y : But a H1 H2) : But a H H2 := fun b o n e => y b o n (x b o n e)
theorem But.same {a : Addr} {H H1 : Hp} (x : But a H H1) (n : H a = none) : Same H H1 := fun b o e => x b o (ne_of_none e n) e
theorem perm_pop {α : Type} : ∀ {l : List α} {k : Nat} {y : α}, l[k]? = some y → (y :: l.eraseIdx k).Perm l
  | [], _, _, h => by simp at h
  | a :: l, 0, y, h => by
    have e : a = y := Option.some.inj h
    rw [e]
    exact .refl _
  | a :: l, k + 1, y, h => (List.Perm.swap a y _).trans ((perm_pop (l := l) h).cons a)
theorem eraseIdx_map {α β : Type} (f : α → β) : ∀ (l : List α) (k : Nat), (l.map f).eraseIdx k = (l.eraseIdx k).map f
  | [], _ => rfl
  | _ :: _, 0 => rfl
  | a :: l, k + 1 => congrArg (f a :: ·) (eraseIdx_map f l k)
def names8 : List Str := ["ann", "bo", "cy", "dee", "eve", "fay", "gus", "z"]
theorem names8_nd : names8.Nodup := by decide +kernel
def spOpened (K : PySem.W.Frag) : Sp := fun vs H Q _ => ∃ (a : Addr) (ns : List Int) (k : Nat), vs = [.ref a, .int k] ∧ SqL K H a (ns.map V.int) ∧ k ≤ 62 ∧
  ∀ H' p, Same H H' → H p = none → Pool H' p → Q (.ref p) H'
def spDraw : Sp := fun vs H Q _ => ∃ (a : Addr) (m : Int), vs = [.ref a, .int m] ∧ Pool H a ∧ 1 ≤ m ∧ m ≤ 1000 ∧ ∀ (r : Int) H', 0 ≤ r → r < m → Pool H' a → But a H H' → Q (.int r) H'
def spPeople : Sp := fun vs H Q _ => ∃ (a : Addr) (m : Nat), vs = [.ref a, .int m] ∧ Pool H a ∧ m ≤ 8 ∧
  ∀ H' p (xs : List Str), Pool H' a → But a H H' → H p = none → H' p = some (.lst (xs.map V.str)) → xs.length = m → xs.Nodup → (∀ x ∈ xs, x ∈ names8) → Q (.ref p) H'
end L2
namespace L2
open PySem PySem.Spec PyProof.Rows
/-! types of any values -/
def knownT : List String := ["NoneType", "bool", "int", "str", "list", "tuple", "dict"]
def TyN (K : PySem.W.Frag) (H : Hp) (v : V) (T : String) : Prop := TyX K H v (.type T) ∧ T ∈ knownT
section
variable {K : PySem.W.Frag} {H H' : Hp} {v : V} {T : String}
theorem TyX.same {t : Value} (s : Same H H') (h : TyX K H v t) : TyX K H' v t := by
  cases h with
  | base b =>
    refine .base ?_
    cases b with
    | non => exact .non
    | bl x => exact .bl x
    | int i => exact .int i
    | str x => exact .str x
    | flt x => exact .flt x
    | lst e => exact .lst (s _ _ e)
    | frz e => exact .frz (s _ _ e)
    | tup e => exact .tup (s _ _ e)
    | dK e => exact .dK (s _ _ e)
    | dT e => exact .dT (s _ _ e)
    | ins e cl ha hn htk hm => exact .ins (s _ _ e) cl ha hn htk hm
  | byt b => exact .byt b
  | set e => exact .set (s _ _ e)
  | kList e c => exact .kList e c
  | kTuple e c => exact .kTuple e c
  | kDict e c => exact .kDict e c
  | fTuple e => exact .fTuple (s _ _ e)
  | fDict e => exact .fDict (s _ _ e)
theorem TyN.same (s : Same H H') (h : TyN K H v T) : TyN K H' v T := ⟨TyX.same s h.1, h.2⟩
theorem kit_str (h : T ∈ knownT) : kitB T "str" = some (decide (T = "str")) := by
  simp only [knownT, List.mem_cons, List.not_mem_nil, or_false] at h
  rcases h with rfl | rfl | rfl | rfl | rfl | rfl | rfl <;> decide +kernel
theorem kit_bool (h : T ∈ knownT) : kitB T "bool" = some (decide (T = "bool")) := by
  simp only [knownT, List.mem_cons, List.not_mem_nil, or_false] at h
  rcases h with rfl | rfl | rfl | rfl | rfl | rfl | rfl <;> decide +kernel
theorem kit_int (h : T ∈ knownT) : kitB T "int" = some (decide (T = "int") || decide (T = "bool")) := by
  simp only [knownT, List.mem_cons, List.not_mem_nil, or_false] at h
  rcases h with rfl | rfl | rfl | rfl | rfl | rfl | rfl <;> decide +kernel
theorem kit_list (h : T ∈ knownT) : kitB T "list" = some (decide (T = "list")) := by
  simp only [knownT, List.mem_cons, List.not_mem_nil, or_false] at h
  rcases h with rfl | rfl | rfl | rfl | rfl | rfl | rfl <;> decide +kernel
theorem kit_tuple (h : T ∈ knownT) : kitB T "tuple" = some (decide (T = "tuple")) := by
  simp only [knownT, List.mem_cons, List.not_mem_nil, or_false] at h
  rcases h with rfl | rfl | rfl | rfl | rfl | rfl | rfl <;> decide +kernel
theorem kit_listTuple (h : T ∈ knownT) : PySem.W.kitAny K (.type T) [.type "list", .type "tuple"] = some (decide (T = "list") || decide (T = "tuple")) := by
  refine kitAny_cons (kit_ty (kit_list h)) (fun e => ?_) fun e => ?_
  · rw [e, Bool.false_or]
    exact kitAny_cons (kit_ty (kit_tuple h)) (fun e => by rw [e]; exact kitAny_nil) fun e => e
  · rw [e]
    rfl
theorem ty_str' {t : Value} (h : TyX K H v t) (e : t = .type "str") : ∃ z, v = .str z := by
  cases h with
  | base b =>
    cases b with
    | str x => exact ⟨x, rfl⟩
    | ins e2 cl ha hn htk hm => cases e
    | _ =>
      injection e with e
      exact absurd e (by decide)
  | _ =>
    injection e with e
    exact absurd e (by decide)
theorem ty_str (h : TyX K H v (.type "str")) : ∃ z, v = .str z := ty_str' h rfl
theorem ty_int' {t : Value} (h : TyX K H v t) (e : t = .type "int") : ∃ z, v = .int z := by
  cases h with
  | base b =>
    cases b with
    | int x => exact ⟨x, rfl⟩
    | ins e2 cl ha hn htk hm => cases e
    | _ =>
      injection e with e
      exact absurd e (by decide)
  | _ =>
    injection e with e
    exact absurd e (by decide)
theorem ty_int (h : TyX K H v (.type "int")) : ∃ z, v = .int z := ty_int' h rfl
theorem str_ty {z : Str} (h : TyX K H (.str z) (.type T)) : T = "str" := by
  cases h with
  | base b => cases b with
    | str x => rfl
theorem int_ty {i : Int} (h : TyX K H (.int i) (.type T)) : T = "int" := by
  cases h with
  | base b => cases b with
    | int x => rfl
end
/-! words -/
def letters : Str := "abcdefghijklmnopqrstuvwxyz"
def wordB (z : Str) : Bool := (decide (1 ≤ z.length) && decide (z.length ≤ 8)) && z.cps.toList.all fun c => decide (c ∈ letters.cps.toList)
def isW : V → Bool
  | .str z => wordB z
  | _ => false
def peopleB (xs : List V) : Bool := (decide (1 ≤ xs.length) && decide (xs.length ≤ 8)) && (xs.all isW && decide xs.Nodup)
def markB (lo hi : Int) : V → Bool
  | .int i => decide (lo ≤ i) && decide (i ≤ hi)
  | _ => false
/-- an item that may stand in what is given for people -/
def ItemOk (K : PySem.W.Frag) (H : Hp) (x : V) : Prop := (∃ T, TyN K H x T) ∧ ∀ z, x = .str z → z.length ≤ 1000
theorem ItemOk.same {K : PySem.W.Frag} {H H' : Hp} {x : V} (s : Same H H') (h : ItemOk K H x) : ItemOk K H' x := by
  obtain ⟨⟨T, t⟩, z⟩ := h
  exact ⟨⟨T, t.same s⟩, z⟩
/-- any value given for people: whether it is people, and its items -/
inductive ArgP (K : PySem.W.Frag) (H : Hp) : V → Bool → List V → Prop where
  | no {v : V} {T : String} (t : TyN K H v T) (h1 : T ≠ "list") (h2 : T ≠ "tuple") : ArgP K H v false []
  | lst {a : Addr} {xs : List V} (e : H a = some (.lst xs)) (h : ∀ x ∈ xs, ItemOk K H x) (hl : xs.length ≤ 1000) : ArgP K H (.ref a) (peopleB xs) xs
  | tup {a : Addr} {xs : List V} (e : H a = some (.tup xs)) (h : ∀ x ∈ xs, ItemOk K H x) (hl : xs.length ≤ 1000) : ArgP K H (.ref a) (peopleB xs) xs
theorem ArgP.same {K : PySem.W.Frag} {H H' : Hp} {v : V} {b : Bool} {xs : List V} (s : Same H H') (h : ArgP K H v b xs) : ArgP K H' v b xs := by
  cases h with
  | no t h1 h2 => exact .no (t.same s) h1 h2
  | lst e h hl => exact .lst (s _ _ e) (fun x hx => (h x hx).same s) hl
  | tup e h hl => exact .tup (s _ _ e) (fun x hx => (h x hx).same s) hl
def spIsInteger (K : PySem.W.Frag) : Sp := fun vs H Q _ => ∃ (v : V) (T : String), vs = [v] ∧ TyN K H v T ∧ Q (.bl (decide (T = "int"))) H
def spWithin (K : PySem.W.Frag) : Sp := fun vs H Q _ => ∃ (v : V) (lo hi : Int), vs = [v, .int lo, .int hi] ∧ (∃ T, TyN K H v T) ∧ Q (.bl (markB lo hi v)) H
def spIsWord (K : PySem.W.Frag) : Sp := fun vs H Q _ => ∃ v : V, vs = [v] ∧ ItemOk K H v ∧ ∀ H', Same H H' → Q (.bl (isW v)) H'
def spArePeople (K : PySem.W.Frag) : Sp := fun vs H Q _ => ∃ (v : V) (b : Bool) (xs : List V), vs = [v] ∧ ArgP K H v b xs ∧ ∀ H', Same H H' → Q (.bl b) H'
end L2
namespace L2
open PySem PySem.Spec PyProof.Rows
def kmSigns (z : Str) : List V := z.cps.toList.map fun c => V.str ⟨#[c]⟩
theorem walk_kmSigns {z : Str} : Walk (Its z) (kmSigns z).length (fun _ => True) (YAt (kmSigns z)) := by
  have e : (kmSigns z).length = z.cps.size := by
    unfold kmSigns
    rw [List.length_map, Array.length_toList]
  rw [e]
  refine walk_str.mono (fun _ h => h) fun i H x H' _ _ y => ?_
  obtain ⟨h, c, hc, hx⟩ := y
  refine ⟨h, ?_⟩
  unfold kmSigns
  rw [List.getElem?_map, Array.getElem?_toList, hc, hx]
  rfl
theorem all_bl (bs : List Bool) : (bs.map V.bl).length = bs.length := List.length_map ..
end L2
namespace L2
open PySem PySem.Spec PyProof.Rows
/-! an own error with one field -/
structure Er (K : PySem.W.Frag) (mg : Str → Option Value) (x : Str) (C : Addr) : Prop where
  g : mg x = some (.ref C)
  ox : OexC K C
  xf : XfC K C
  ec : ExcC K C
  exm : PySem.W.exmOne K (.ref C) (.ref C) = some true
def spErrInit (K : PySem.W.Frag) (C : Addr) (f : Str) : Sp := fun vs H Q _ => ∃ (a : Addr) (v : V), vs = [.ref a, v] ∧ OexC K C ∧ PySem.W.findIn K (.ref C) f = some none ∧ H a = some (exo a C none) ∧
  ∀ d, H d = none → d ≠ a → Q .non (upd (upd H d (exd d [(f, v)])) a (exo a C (some d)))
/-- what a raise of such an error leaves -/
def Raised (H H' : Hp) (d : Addr) (f : Str) (v : V) : Prop := Same H H' ∧ H d = none ∧ H' d = some (.xd [(f, v)])
theorem raised_mk {H : Hp} {a d C : Addr} {f : Str} {v : V} (na : H a = none) (nd : H d = none) (nda : d ≠ a) :
    Raised H (upd (del (upd (upd (upd H a (exo a C none)) d (exd d [(f, v)])) a (exo a C (some d))) a) d (.xd [(f, v)])) d f v := by
  refine ⟨fun b o e => ?_, nd, upd_same⟩
  rw [upd_ne (ne_of_none e nd), del_ne (ne_of_none e na), upd_ne (ne_of_none e na), upd_ne (ne_of_none e nd), upd_ne (ne_of_none e na)]
  exact e
theorem strs_of_isW : ∀ {xs : List V}, xs.all isW = true → ∃ zs : List Str, xs = zs.map V.str
  | [], _ => ⟨[], rfl⟩
  | x :: xs, h => by
    rw [List.all_cons, Bool.and_eq_true] at h
    obtain ⟨zs, rfl⟩ := strs_of_isW h.2
    cases x with
    | str z => exact ⟨z :: zs, rfl⟩
    | _ => cases h.1
theorem keys_of_strs (zs : List Str) : zs.map V.str = (zs.map (Sum.inr : Str → Key)).map kV := by
  rw [List.map_map]
  rfl
theorem nodup_map_inj {α β : Type} {f : α → β} (hf : ∀ a b, f a = f b → a = b) {l : List α} : (l.map f).Nodup ↔ l.Nodup := by
  induction l with
  | nil => simp
  | cons a l ih =>
    rw [List.map_cons, List.nodup_cons, List.nodup_cons, ih, List.mem_map]
    constructor
    · rintro ⟨h1, h2⟩
      exact ⟨fun h => h1 ⟨a, h, rfl⟩, h2⟩
    · rintro ⟨h1, h2⟩
      exact ⟨fun ⟨b, hb, e⟩ => h1 (hf _ _ e ▸ hb), h2⟩
theorem uniq_strs (zs : List Str) : decide (V.int ((Km.uniq (zs.map (Sum.inr : Str → Key))).length : Nat) = V.int ((zs.map V.str).length : Nat)) = decide (zs.map V.str).Nodup := by
  refine decide_eq_decide.mpr ?_
  have h1 := Km.uniq_full (zs.map (Sum.inr : Str → Key))
  rw [nodup_map_inj (f := (Sum.inr : Str → Key)) (fun _ _ e => Sum.inr.inj e), List.length_map] at h1
  rw [nodup_map_inj (f := V.str) (fun _ _ e => V.str.inj e), ← h1, List.length_map]
  constructor
  · intro e
    have := V.int.inj e
    omega
  · intro e
    rw [e]
end L2
namespace L2
open PySem PySem.Spec PyProof.Rows
/-- what a crowd's instance holds -/
def crowdFs (p : Addr) (m : Int) : List (Str × V) := [("_people", V.ref p), ("most", V.int m)]
def CrowdAt (H : Hp) (C x : Addr) (xs : List V) (m : Int) : Prop := ∃ dx p, H x = some (.ins C dx (crowdFs p m)) ∧ H p = some (.lst xs)
theorem CrowdAt.same {H H' : Hp} {C x : Addr} {xs : List V} {m : Int} (s : Same H H') (h : CrowdAt H C x xs m) : CrowdAt H' C x xs m := by
  obtain ⟨dx, p, h1, h2⟩ := h
  exact ⟨dx, p, s _ _ h1, s _ _ h2⟩
def spCrowdInit (K : PySem.W.Frag) (C CB : Addr) : Sp := fun vs H Q E => ∃ (x dx : Addr) (v m : V) (b : Bool) (xs : List V), vs = [.ref x, v, m] ∧ H x = some (.ins C dx []) ∧ ArgP K H v b xs ∧ (∃ T, TyN K H m T) ∧
  (b = false → ∀ H' d, Raised H H' d "part" (.str "people") → E (.ref CB) (some d) H') ∧
  (b = true → markB 1 10 m = false → ∀ H' d, Raised H H' d "part" (.str "most") → E (.ref CB) (some d) H') ∧
  (b = true → ∀ i, m = .int i → markB 1 10 m = true → ∀ H', But x H H' → CrowdAt H' C x xs i → Q .non H')
theorem putF_new {f : Str} {v : V} : putF f v [] = [(f, v)] := rfl
theorem crowd_put {p : Addr} {m : Int} : putF "most" (.int m) [(("_people" : Str), V.ref p)] = crowdFs p m := by
  show (if (("_people" : Str)) = "most" then _ else _) = _
  rw [if_neg (by decide +kernel)]
  rfl
end L2
namespace L2
open PySem PySem.Spec PyProof.Rows
theorem ArgP.seq {K : PySem.W.Frag} {H : Hp} {v : V} {b : Bool} {xs : List V} (h : ArgP K H v b xs) (e : b = true) : ∃ l, v = .ref l ∧ (SqL K H l xs ∨ SqT K H l xs) := by
  cases h with
  | no t h1 h2 => cases e
  | lst e1 h hl => exact ⟨_, rfl, .inl (SqL.of e1)⟩
  | tup e1 h hl => exact ⟨_, rfl, .inr (SqT.of e1)⟩
/-- what the law's own look at a making tells: taken, or the part -/
def toldP (b m : Bool) : Option Str := if b = false then some "people" else if m = false then some "most" else none
def spTold (K : PySem.W.Frag) : Sp := fun vs H Q _ => ∃ (v m : V) (b : Bool) (xs : List V), vs = [v, m] ∧ ArgP K H v b xs ∧ (∃ T, TyN K H m T) ∧
  (∀ H' p z, toldP b (markB 1 10 m) = some z → Same H H' → H' p = some (.lst [.str z, .bl true]) → Q (.ref p) H') ∧
  (toldP b (markB 1 10 m) = none → ∀ H', Same H H' → Q (.str "taken") H')
end L2
namespace L2
open PySem PySem.Spec PyProof.Rows
theorem rng_le (l c : Int) (hc : 1 ≤ c) : 1 ≤ (if (if c < l then c else l) > 1 then (if c < l then c else l) else (1 : Int)) ∧ (if (if c < l then c else l) > 1 then (if c < l then c else l) else (1 : Int)) ≤ c := by
  by_cases h : c < l
  · rw [if_pos h]
    split <;> omega
  · rw [if_neg h]
    split <;> omega
theorem names8_ok : ∀ z ∈ names8, wordB z = true ∧ z.length ≤ 8 := by decide +kernel
abbrev BadP (K : PySem.W.Frag) (H : Hp) (v : V) : Prop := ∃ xs, ArgP K H v false xs
theorem BadP.same {K : PySem.W.Frag} {H H' : Hp} {v : V} (s : Same H H') (h : BadP K H v) : BadP K H' v := by
  obtain ⟨xs, h⟩ := h
  exact ⟨xs, h.same s⟩
theorem ArgP.lst' {K : PySem.W.Frag} {H : Hp} {a : Addr} {xs : List V} {b : Bool} (e : H a = some (.lst xs)) (h : ∀ x ∈ xs, ItemOk K H x) (hl : xs.length ≤ 1000) (hb : peopleB xs = b) : ArgP K H (.ref a) b xs := by
  subst hb
  exact .lst e h hl
theorem ArgP.tup' {K : PySem.W.Frag} {H : Hp} {a : Addr} {xs : List V} {b : Bool} (e : H a = some (.tup xs)) (h : ∀ x ∈ xs, ItemOk K H x) (hl : xs.length ≤ 1000) (hb : peopleB xs = b) : ArgP K H (.ref a) b xs := by
  subst hb
  exact .tup e h hl
section
variable {K : PySem.W.Frag} {H : Hp}
theorem item_str {z : Str} (h : z.length ≤ 1000) : ItemOk K H (.str z) := ⟨⟨"str", .base (.str z), by decide⟩, fun y e => by
  rw [← V.str.inj e]
  exact h⟩
theorem item_non : ItemOk K H .non := ⟨⟨"NoneType", .base .non, by decide⟩, fun y e => by cases e⟩
theorem item_int {i : Int} : ItemOk K H (.int i) := ⟨⟨"int", .base (.int i), by decide⟩, fun y e => by cases e⟩
theorem item_bl {i : Bool} : ItemOk K H (.bl i) := ⟨⟨"bool", .base (.bl i), by decide⟩, fun y e => by cases e⟩
theorem item_lst {a : Addr} {xs : List V} (h : H a = some (.lst xs)) : ItemOk K H (.ref a) := ⟨⟨"list", .base (.lst h), by decide⟩, fun y e => by cases e⟩
/-- people as the laws draw them -/
structure Drawn8 (zs : List Str) : Prop where
  nd : zs.Nodup
  mem : ∀ z ∈ zs, z ∈ names8
theorem Drawn8.items {zs : List Str} (d : Drawn8 zs) : ∀ x ∈ zs.map V.str, ItemOk K H x := by
  intro x hx
  obtain ⟨z, hz, rfl⟩ := List.mem_map.mp hx
  exact item_str (Nat.le_trans (names8_ok z (d.mem z hz)).2 (by decide))
theorem Drawn8.allW {zs : List Str} (d : Drawn8 zs) : (zs.map V.str).all isW = true := by
  rw [List.all_eq_true]
  intro x hx
  obtain ⟨z, hz, rfl⟩ := List.mem_map.mp hx
  exact (names8_ok z (d.mem z hz)).1
theorem Drawn8.people {zs : List Str} (d : Drawn8 zs) (h1 : 1 ≤ zs.length) (h2 : zs.length ≤ 8) : peopleB (zs.map V.str) = true := by
  show ((decide (1 ≤ (zs.map V.str).length) && decide ((zs.map V.str).length ≤ 8)) && ((zs.map V.str).all isW && decide (zs.map V.str).Nodup)) = true
  rw [d.allW, List.length_map, decide_eq_true h1, decide_eq_true h2, decide_eq_true ((nodup_map_inj (f := V.str) (fun _ _ e => V.str.inj e)).mpr d.nd)]
  rfl
theorem not_people_of_isW {xs : List V} {y : V} (h : isW y = false) : peopleB (xs ++ [y]) = false := by
  show (_ && ((xs ++ [y]).all isW && _)) = false
  rw [List.all_append, List.all_cons, h, Bool.false_and, Bool.and_false, Bool.false_and, Bool.and_false]
theorem not_people_of_twice {x : V} {xs : List V} : peopleB ((x :: xs) ++ [x]) = false := by
  show (_ && (_ && decide ((x :: xs) ++ [x]).Nodup)) = false
  have : ¬ ((x :: xs) ++ [x]).Nodup := fun h => by
    rw [List.cons_append, List.nodup_cons] at h
    exact h.1 (List.mem_append_right _ (List.mem_singleton.mpr rfl))
  rw [decide_eq_false this, Bool.and_false, Bool.and_false]
theorem bad_append {a : Addr} {xs : List V} {y : V} (e : H a = some (.lst (xs ++ [y]))) (hx : ∀ x ∈ xs, ItemOk K H x) (hl : xs.length ≤ 8) (hy : ItemOk K H y) (h : isW y = false) : BadP K H (.ref a) :=
  ⟨_, .lst' e (fun x hm => by
    rcases List.mem_append.mp hm with hm | hm
    · exact hx x hm
    · rw [List.mem_singleton.mp hm]
      exact hy) (by rw [List.length_append, List.length_singleton]; omega) (not_people_of_isW h)⟩
end
section
variable {σ : St} {H : Hp} {Q : VK}
/-- l + [e] -/
theorem rd_cat1 {i : Nat} {l : Addr} {xs : List V} {te : TE} (y : V) (h : σ[i]? = some (some (.ref l))) (hl : H l = some (.lst xs)) (hx : xs.length ≤ 8)
    (hte : ∀ Q' : VK, (∀ H1, Same H H1 → Q' y H1) → te σ H Q') (k : ∀ H' p, Same H H' → H' p = some (.lst (xs ++ [y])) → Q (.ref p) H') : tOp rCat (tVar i) (tLst (tCons te tNil)) σ H Q := by
  refine ⟨_, h, hte _ fun H1 s1 => ⟨(by show 1 ≤ sizeLine; decide), fun b nb => ⟨l, b, xs, [y], rfl, rfl, same_new nb _ _ (s1 _ _ hl), upd_same, ?_, fun p np => ?_⟩⟩⟩
  · rw [List.length_singleton]
    exact Nat.le_of_lt (small1000 (by omega))
  · exact k _ p ((s1.trans (same_new nb)).trans (same_new np)) upd_same
theorem dp_told {K : PySem.W.Frag} {p : Addr} {z : Str} (h : H p = some (.lst [.str z, .bl true])) : Dp K H (.ref p) (.list [.str z, .bool true]) := .lst (SqL.of h) (.cons (.str z) (.cons (.bl true) .nil))
end
end L2
namespace L2
open PySem PySem.Spec PyProof.Rows
theorem shaped_taken : SeqAt.shaped (.str "taken") = true := by decide +kernel
theorem eqv_taken : PyData.eqv (.str "taken") (.str "taken") = true := by decide +kernel
theorem shaped_people : SeqAt.shaped (.list [.str "people", .bool true]) = true := by decide +kernel
theorem shaped_most : SeqAt.shaped (.list [.str "most", .bool true]) = true := by decide +kernel
theorem eqv_people : PyData.eqv (.list [.str "people", .bool true]) (.list [.str "people", .bool true]) = true := by decide +kernel
theorem eqv_most : PyData.eqv (.list [.str "most", .bool true]) (.list [.str "most", .bool true]) = true := by decide +kernel
end L2
namespace L2
open PySem PySem.Spec PyProof.Rows
theorem toldP_most {m : Bool} (h : m = false) : toldP true m = some "most" := by
  rw [h]
  rfl
theorem toldP_taken {m : Bool} (h : m = true) : toldP true m = none := by
  rw [h]
  rfl
end L2

set_option Elab.async false
set_option linter.all false
set_option maxRecDepth 100000
set_option maxHeartbeats 4000000
/-! Own errors over any built-in base, with an own __init__ that stores: made as values or raised, their fields. -/
namespace L2
open PySem PySem.Spec PyProof.Rows
structure EcC (K : PySem.W.Frag) (C : Addr) : Prop where
  base : ∃ (B newId initId : String) (bmB : List Value), PySem.ExcBaseFacts B newId initId bmB ∧ PySem.StoreFacts B bmB "object.__setattr__" "object" ∧ PySem.W.excInitIn K C bmB newId = true ∧ PySem.W.excOver K C bmB = true
  sa : PySem.W.findIn K (.ref C) "__setattr__" = some (some (.builtin "object.__setattr__"))
  hd : PySem.W.hasDictIn K C = true
  exC : PySem.W.subIn K (.ref C) (.type "BaseException") = some true
  tyC : PySem.W.typeIn K (.ref C) = some (.type "type")
  kC : PySem.W.keepIn K (.ref C) = true
section
variable {X : Cx} {pins : List (Addr × Obj)} {σ : St} {H : Hp} {s : Shared} {a C : Addr} {f : Str} {y : V} {u : Value} {Q : Unit → Shared → Prop} {E : Value → Shared → Prop} {A : Around}
/-- self.f = y, the first field -/
theorem ec_store (T : EcC X.K C) (I : Inv X pins σ H s) (e : H a = some (exo a C none)) (hno : PySem.W.findIn X.K (.ref C) f = some none) (ry : RelV y u)
    (h : ∀ dx s', H dx = none → dx ≠ a → Inv X pins σ (upd (upd H dx (exd dx [(f, y)])) a (exo a C (some dx))) s' → Q () s') : wpAny (model X.prog X.w) A (setAttr (.ref a) f u) Q E s := by
  obtain ⟨B, newId, initId, bmB, FB, SF, hin, hov⟩ := T.base
  obtain ⟨t1, ho⟩ := exo_at I.hok e
  obtain ⟨hp, g, d, t, os⟩ := s
  have J0 : PySem.W.InstAt hp a { cls := .ref C, dict := none, data := .fields #[.ref t1, .none, .none, .none, .bool false, .none] } C none := ⟨ho, rfl, rfl, trivial⟩
  have tk : PySem.W.takerIn X.K C f = some none := by
    unfold PySem.W.takerIn
    rw [hno]
    rfl
  have lt : a < hp.objs.size := Heap.lt_size ho
  refine PySem.W.set_plain I.kIn J0 T.sa ?_
  refine PySem.W.osa_openX SF I.kIn J0 hov tk fun b => ?_
  obtain ⟨cd, hcd, hhd⟩ := PySem.W.any_some T.hd
  have L := PySem.W.looks_clsIn (M := model X.prog X.w) I.kIn hcd
  show wpAny _ _ (Builtin.ObjectAttr.storeInOwnDict (.ref a) (.ref C) (.str f _) f u b) _ _ _
  unfold Builtin.ObjectAttr.storeInOwnDict Builtin.ObjectAttr.ownDictForStores
  obtain ⟨cnm, cbs, cmro, cns, cqn, chd, csn, csb, cab, ccol, cdel⟩ := cd
  dsimp only at hhd
  subst hhd
  have xs : a ≠ hp.objs.size := Nat.ne_of_lt lt
  repeat (first
    | with_reducible refine PySem.HandSPX.store_in_new ?_ ?_
    | with_reducible refine wpAny_loadPart_at ho ?_
    | with_reducible refine L.at ?_
    | wp_step)
  · exact ⟨_, #[], _, (Heap.get?_update_ne _ _ _ _ xs.symm).trans (Heap.get?_push_at rfl rfl), rfl, fun e he => absurd he (by simp), fun _ => rfl⟩
  intro h' tk' hn hsb
  have old : ∀ b o, b ≠ a → hp.get? b = some o → h'.get? b = some o := fun b o nb q => by
    rw [hsb.2 b (Nat.ne_of_lt (Heap.lt_size q)), Heap.get?_update_ne _ _ _ _ nb]
    exact Heap.get?_push_of_some _ q
  have own : h'.get? a = some { cls := .ref C, dict := some hp.objs.size, data := .fields #[.ref t1, .none, .none, .none, .bool false, .none] } := by
    rw [hsb.2 a xs]
    exact Heap.get?_update_self _ (Heap.get?_push_of_some _ ho) rfl
  have nd : H hp.objs.size = none := I.hok.fresh (Nat.le_refl _)
  have lts : ∀ {b o}, hp.get? b = some o → b ≠ hp.objs.size := fun q => Nat.ne_of_lt (Heap.lt_size q)
  have free1 : ∀ {b}, H b = none → b ≠ a := fun n z => by
    rw [z, e] at n
    cases n
  have un : Un X.fs [] H (upd (upd H hp.objs.size (exd hp.objs.size [(f, y)])) a (exo a C (some hp.objs.size))) hp h' := by
    refine ⟨fun b o q n _ _ => old b o (free1 n) q, fun b o q n _ _ => ⟨o.slots, old b o (free1 n) q⟩, fun b o q n _ => ?_, fun b o q _ => ?_, fun b xs q => ?_, fun b o v q => ?_, fun b ps q => ?_⟩
    · rw [upd_ne (free1 n), upd_ne (lts q)]
      exact n
    · by_cases z : b = a
      · rw [z]
        exact ⟨_, own⟩
      · exact ⟨o, old b o z q⟩
    · rw [upd_ne (at_ne e q exo_tup), upd_ne (ne_of_none q nd)]
      exact q
    · rw [upd_ne (at_ne e q exo_frz), upd_ne (ne_of_none q nd)]
      exact q
    · refine ⟨#[], ?_⟩
      rw [upd_ne (at_ne e q exo_tbl), upd_ne (ne_of_none q nd), q]
      simp
  refine h hp.objs.size _ nd xs.symm (I.un (t' := tk') un fun b o q => ?_)
  by_cases z : b = a
  · rw [z, upd_same] at q
    rw [z, ← Option.some.inj q]
    exact exo_ok own
  · rw [upd_ne z] at q
    by_cases z2 : b = hp.objs.size
    · rw [z2, upd_same] at q
      rw [z2, ← Option.some.inj q]
      exact exd_ok hn (relO_put (fs := []) ry fun _ => trivial)
    · rw [upd_ne z2] at q
      refine (I.hok b o q).stay (fun c v hc k => old c v ?_ k) (fun c hc => ?_) fun c xs hc => ?_
      · rcases hc with hc | hc
        · rw [hc]
          exact z
        · exact at_ne e hc exo_own
      · rw [upd_ne (at_ne e hc exo_own), upd_ne (ne_of_none hc nd)]
        exact hc
      · rw [upd_ne (at_ne e hc exo_tup), upd_ne (ne_of_none hc nd)]
        exact hc
end
end L2
namespace L2
open PySem PySem.Spec PyProof.Rows
/-- self.f = e in an error's own __init__ -/
def tEcS (K : PySem.W.Frag) (f : Str) (to te : TE) : TS := fun D σ H => te σ H fun y H1 => to σ H1 fun x H2 => ∃ a C : Addr, x = .ref a ∧ EcC K C ∧ PySem.W.findIn K (.ref C) f = some none ∧ H2 a = some (exo a C none) ∧
  ∀ dx, H2 dx = none → dx ≠ a → D.nx σ (upd (upd H2 dx (exd dx [(f, y)])) a (exo a C (some dx)))
section
variable {X : Cx} {o e : Expr} {es : List Expr} {to te : TE} {ta : TA} {f : Str} {p p' pos : Pos}
theorem ps_ec (ho : PE X o to) (he : PE X e te) (hs : swapsWith e (some (.Attribute o f p')) pos.line X.env = pure false := by rfl) : PS X (.Assign [.Attribute o f p'] e pos) (tEcS X.K f to te) := by
  constructor
  intro pins s σ H D I h
  refine plainObj_wpAny_Assign_Attribute (thn (he.run pins s σ H _ I h) fun v s1 q0 => ?_) hs
  obtain ⟨y, H1, I1, r1, q1⟩ := q0
  refine thn (ho.run pins s1 σ H1 _ I1 q1) fun u s2 q2 => ?_
  obtain ⟨x, H2, I2, r2, a, C, ex, T, hno, ea, q⟩ := q2
  subst ex
  obtain rfl : u = Value.ref a := r2
  exact ec_store T I2 ea hno r1 fun dx s3 n ne J => ⟨σ, _, J, q dx n ne⟩
def spEcInit (K : PySem.W.Frag) (C : Addr) (f : Str) : Sp := fun vs H Q _ => ∃ (a : Addr) (v : V), vs = [.ref a, v] ∧ EcC K C ∧ PySem.W.findIn K (.ref C) f = some none ∧ H a = some (exo a C none) ∧
  ∀ d, H d = none → d ≠ a → Q .non (upd (upd H d (exd d [(f, v)])) a (exo a C (some d)))
/-- the call C(u, ..) of such a class: its __init__ at the fresh error -/
theorem ec_call {CX : CXT} {C fI : Addr} {k : Nat} {fd : FuncData} {ps : List Str} {sp : Sp} {pins : List (Addr × Obj)} {s : Shared} {σ : St} {H : Hp} {us : List Value} {vs : List V} {E : XK} {Q : Addr → VK} {R : Value → Shared → Prop} (T : EcC X.K C)
    (iC : PySem.W.findIn X.K (.ref C) "__init__" = some (some (.ref fI))) (tI : PySem.W.typeIn X.K (.ref fI) = some (.type "function")) (F : FnOk X.prog X.w X.K X.mg X.base CX k fI fd ps sp) (hr : Room (k + 1) X.A) (hb : Binds X.K fd ps []) (hx : Passes CX X E)
    (I : Inv X pins σ H s) (r : Vals vs us) (hl : vs.length ≤ 1000) (q : ∀ a, H a = none → sp (.ref a :: vs) (upd H a (exo a C none)) (Q a) E)
    (fin : ∀ (a : Addr) (hp2 : Heap) (v : V) (H2 : Hp) (s2 : Shared), s.heap.objs.size ≤ a → (∀ b o, s.heap.get? b = some o → hp2.get? b = some o) → Inv X pins σ H2 s2 → Un (frs X.stack) [] (upd H a (exo a C none)) H2 hp2 s2.heap →
      HOk X.prog X.w H2 s2.heap → s2.os = s.os → AllBare s2.gens → Q a v H2 → v = .non ∧ R (.ref a) s2) : wpAny (model X.prog X.w) X.A (call (.ref C) us) R X.xe s := by
  obtain ⟨B, newId, initId, bmB, FB, SF, hin, hov⟩ := T.base
  obtain ⟨nm, N, qn, bs, bm, hdct, sn, sub, ab, col, dd, k0, k1, k2, k3, k5, hC, hT⟩ := PySem.W.excInit_of I.kIn hin
  obtain ⟨hp, g, dr, tk, os⟩ := s
  have fresh1 : H (hp.objs.size + 1) = none := I.hok.fresh (Nat.le_succ _)
  have q1 := q _ fresh1
  have kept : ∀ b o, hp.get? b = some o → ((hp.push (PySem.W.kdv_tup us)).push (PySem.HandSPX.excO C hp.objs.size)).get? b = some o := fun b o z => Heap.get?_push_of_some _ (Heap.get?_push_of_some _ z)
  have there : ((hp.push (PySem.W.kdv_tup us)).push (PySem.HandSPX.excO C hp.objs.size)).get? (hp.objs.size + 1) = some (PySem.HandSPX.excO C hp.objs.size) := by heap_get
  have J : Inv X pins σ (upd H (hp.objs.size + 1) (exo (hp.objs.size + 1) C none)) ⟨(hp.push (PySem.W.kdv_tup us)).push (PySem.HandSPX.excO C hp.objs.size), g, dr, tk, os⟩ :=
    I.laid (t' := tk) (a := hp.objs.size + 1) (h' := (hp.push (PySem.W.kdv_tup us)).push (PySem.HandSPX.excO C hp.objs.size)) kept (Nat.le_succ _) (exo_ok there)
  have r2 : Vals (V.ref (hp.objs.size + 1) :: vs) (Value.ref (hp.objs.size + 1) :: us) := .cons rfl r
  have len2 : (Value.ref (hp.objs.size + 1) :: us).length = ps.length := by
    rw [← r2.length]
    exact F.len _ _ _ _ q1
  have b := hb ⟨_, g, dr, tk, os⟩ (Value.ref (hp.objs.size + 1) :: us) J.kIn (by rw [List.append_nil]; exact len2)
  rw [List.append_nil] at b
  have room : us.length ≤ sizeLine := by
    rw [← r.length, sizeLine_eq]
    omega
  refine wpAny_call (PySem.HandSPX.call_own FB hT hC (PySem.W.looks_findIn I.kIn iC) (fun self => PySem.W.bind_fn I.kIn self tI) room (codeAny_mono (F.run _ X.stack _ _ ⟨_ :: us, []⟩ _ _ _ E (hr.make C us []) (J.env0.make C us []) b r2 q1) fun z s2 hz => ?_))
  cases z with
  | error er => exact hx pins σ _ _ er s2 J hz
  | ok fl =>
    cases fl with
    | ret u =>
      obtain ⟨v, H2, os2, bare2, un2, hok2, rv, q2⟩ := hz
      obtain ⟨hh, g2, d2, t2, o2⟩ := s2
      obtain rfl : o2 = os := os2
      have I2 : Inv X pins σ H2 ⟨hh, g2, d2, t2, o2⟩ := J.call (h' := hh) (g' := g2) (d' := d2) (t' := t2) (ch := []) un2 hok2 bare2 (fun b z => absurd z (by simp))
      obtain ⟨ev, z⟩ := fin (hp.objs.size + 1) _ v H2 ⟨hh, g2, d2, t2, o2⟩ (Nat.le_succ _) kept I2 un2 hok2 rfl bare2 q2
      subst ev
      exact ⟨rv, z⟩
    | next => exact False.elim hz
    | brk => exact False.elim hz
    | cont => exact False.elim hz
/-- C(e, ..) as a value -/
def tEcV (C : Addr) (sp : Sp) (E : XK) (ta : TA) : TE := fun σ H Q => ta σ H fun vs H1 => vs.length ≤ 1000 ∧ ∀ a, H1 a = none → sp (.ref a :: vs) (upd H1 a (exo a C none)) (fun v H2 => v = .non ∧ Q (.ref a) H2) E
variable {CX : CXT} {x : Str} {C fI : Addr} {k : Nat} {fd : FuncData} {ps : List Str} {sp : Sp} {E : XK}
theorem pe_ecv (T : EcC X.K C) (iC : PySem.W.findIn X.K (.ref C) "__init__" = some (some (.ref fI))) (tI : PySem.W.typeIn X.K (.ref fI) = some (.type "function")) (F : FnOk X.prog X.w X.K X.mg X.base CX k fI fd ps sp) (hr : Room (k + 1) X.A)
    (hb : Binds X.K fd ps []) (hx : Passes CX X E) (hg : Gl X x) (hm : X.mg x = some (.ref C)) (ha : PA X (e :: es) ta) (hdb : (x == ("__debug__" : Str)) = false := by decide)
    (he : starEach (e :: es) X.env = (false, eval e X.env) :: starEach es X.env := by rfl) (hpl : (backTo pos (starEach es X.env)).any (·.1) = false := by rfl) : PE X (.Call (.Name x p) (e :: es) [] pos) (tEcV C sp E ta) := by
  constructor
  intro pins s σ H Q I h
  refine wpAny_Call_Name_kw (ld_glob I hg hm ?_ hdb)
  refine PySem.W.callWith_K (h₀ := X.base) I.ok.mod.kin T.kC (thn (ha.run pos pins s σ H _ I h) fun us s1 q0 => ?_) he hpl
  obtain ⟨vs, H1, I1, r1, hl, q1⟩ := q0
  refine ⟨I1.kIn, ec_call (Q := fun a v H2 => v = .non ∧ Q (.ref a) H2) T iC tI F hr hb hx I1 r1 hl q1 fun a hp2 v H2 s2 _ _ I2 _ _ _ _ q2 => ⟨q2.1, ?_⟩⟩
  exact ⟨.ref a, H2, I2, rfl, q2.2⟩
/-- C(e, ..) to be raised -/
def tEcR (C : Addr) (sp : Sp) (ta : TA) : St → Hp → XK → Prop := fun σ H Q => ta σ H fun vs H1 => vs.length ≤ 1000 ∧ ∀ a, H1 a = none → sp (.ref a :: vs) (upd H1 a (exo a C none))
  (fun v H2 => v = .non ∧ ∃ (d : Addr) (fs : List (Str × V)), H2 a = some (exo a C (some d)) ∧ H2 d = some (exd d fs) ∧ H1 d = none ∧ Q (.ref C) (some d) (upd (del H2 a) d (.xd fs))) (fun _ _ _ => False)
theorem pmk_ec (T : EcC X.K C) (iC : PySem.W.findIn X.K (.ref C) "__init__" = some (some (.ref fI))) (tI : PySem.W.typeIn X.K (.ref fI) = some (.type "function")) (F : FnOk X.prog X.w X.K X.mg X.base CX k fI fd ps sp) (hr : Room (k + 1) X.A)
    (hb : Binds X.K fd ps []) (hx : Passes CX X (fun _ _ _ => False)) (hg : Gl X x) (hm : X.mg x = some (.ref C)) (ha : PA X (e :: es) ta) (hdb : (x == ("__debug__" : Str)) = false := by decide)
    (he : starEach (e :: es) X.env = (false, eval e X.env) :: starEach es X.env := by rfl) (hpl : (backTo pos (starEach es X.env)).any (·.1) = false := by rfl) : PMk X (.Call (.Name x p) (e :: es) [] pos) (tEcR C sp ta) := by
  intro pins s σ H Q I h
  refine wpAny_Call_Name_kw (ld_glob I hg hm ?_ hdb)
  refine PySem.W.callWith_K (h₀ := X.base) I.ok.mod.kin T.kC (thn (ha.run pos pins s σ H _ I h) fun us s1 q0 => ?_) he hpl
  obtain ⟨vs, H1, I1, r1, hl, q1⟩ := q0
  obtain ⟨hp, g, dr, tk, os⟩ := s1
  refine ⟨I1.kIn, ec_call (Q := fun a v H2 => v = .non ∧ ∃ (d : Addr) (fs : List (Str × V)), H2 a = some (exo a C (some d)) ∧ H2 d = some (exd d fs) ∧ H1 d = none ∧ Q (.ref C) (some d) (upd (del H2 a) d (.xd fs))) T iC tI F hr hb hx I1 r1 hl q1
    fun a hp2 v H2 s2 ha2 kept I2 un hok ho bare q2 => ⟨q2.1, ?_⟩⟩
  obtain ⟨_, d, fs, ea, ed, hd1, q3⟩ := q2
  obtain ⟨h2, g2, d2, t2, o2⟩ := s2
  exact mk_end (raises_own T.exC T.tyC) I1 ha2 kept un hok ho bare ea ed hd1 q3
/-- e.f, e an error that is held as a value -/
def tEcF (K : PySem.W.Frag) (te : TE) (f : Str) : TE := fun σ H Q => te σ H fun x H1 => ∃ (a C d : Addr) (fs : List (Str × V)) (v : V), x = .ref a ∧ XfC K C ∧ PySem.W.findIn K (.ref C) f = some none ∧ H1 a = some (exo a C (some d)) ∧ H1 d = some (exd d fs) ∧ fs.lookup f = some v ∧ Q v H1
theorem pe_ecf (he : PE X e te) (hb : attributeBase e f X.env (eval e X.env) = eval e X.env := by rfl) : PE X (.Attribute e f pos) (tEcF X.K te f) := by
  constructor
  intro pins s σ H Q I h
  refine attr_of hb (thn (he.run pins s σ H _ I h) fun u s1 q0 => ?_)
  obtain ⟨y, H1, I1, r1, a, C, d, fs, v, rfl, T, no, ea, ed, l, q⟩ := q0
  obtain rfl : u = Value.ref a := r1
  obtain ⟨t1, ho⟩ := exo_at I1.hok ea
  obtain ⟨mA, hns, rel⟩ := exd_at I1.hok ed
  obtain ⟨od, hod, hl⟩ := lookIn_ns hns
  have rr := rel f
  rw [l] at rr
  obtain ⟨w, hw, rw'⟩ := RelO.some_of (v := v) (o := mA f) rr
  have J : PySem.W.InstAt s1.heap a { cls := .ref C, dict := some d, data := .fields #[.ref t1, .none, .none, .none, .bool false, .none] } C (some od) := ⟨ho, rfl, rfl, hod⟩
  exact HandSPX.exc_get I1.kIn J T.ga T.gg T.exC (PySem.W.findObj_own T.hdC no rfl (by rw [hl, hw])) (handed_of rw') ⟨v, H1, I1.tok _, rw', q⟩
/-- isinstance(x, c), x an error that is held as a value -/
def rIsV (K : PySem.W.Frag) : List V → Hp → VK → Prop := fun xs H Q => ∃ (a C : Addr) (d : Option Addr) (c : V) (cv : Value) (b : Bool), xs = [.ref a, c] ∧ ClsV c cv ∧ ExcC K C ∧ H a = some (exo a C d) ∧ (∀ dx, d = some dx → ∃ fs, H dx = some (exd dx fs)) ∧ PySem.W.kitOne K (.ref C) cv = some b ∧ Q (.bl b) H
theorem call_isV : CallR X (.builtin "isinstance") (rIsV X.K) := by
  intro pins s σ H xs us Q I r h
  obtain ⟨a, C, d, c, cv, b, rfl, hc, T, ea, hd, ek, q⟩ := h
  obtain ⟨u1, u2, rfl, r1, r2⟩ := vals2 r
  cases r1
  obtain rfl := hc.eq r2
  obtain ⟨t1, ho⟩ := exo_at I.hok ea
  have hcl : (PySem.W.clsIn X.K C).isSome = true := by
    obtain ⟨cd, hc, _⟩ := PySem.W.any_some T.hd
    rw [hc] <;> rfl
  have J : ∃ od, PySem.W.InstAt s.heap a { cls := .ref C, dict := d, data := .fields #[.ref t1, .none, .none, .none, .bool false, .none] } C od := by
    cases d with
    | none => exact ⟨none, ho, rfl, rfl, trivial⟩
    | some dx =>
      obtain ⟨fs, hx⟩ := hd dx rfl
      obtain ⟨mA, hns, _⟩ := exd_at I.hok hx
      obtain ⟨od, hod, _⟩ := lookIn_ns hns
      exact ⟨some od, ho, rfl, rfl, hod⟩
  obtain ⟨od, J⟩ := J
  exact PySem.W.kia_one (PySem.W.kitx_exc hcl T.hg T.hk T.hs T.ha T.hn T.ht T.hm) I.kIn J ek (fun z => nomatch z) fun tk => ⟨.bl b, H, I.kept (t' := tk) fun _ _ z => z, rfl, q⟩
end
end L2

set_option Elab.async false
set_option linter.all false
set_option maxRecDepth 100000
set_option maxHeartbeats 4000000
/-! Promises of defs for callers beneath which no guarded built-in runs: what repr of containers asks. -/
namespace L2
open PySem PySem.Spec PyProof.Rows
structure FnG (P : Program) (w : World) (K : PySem.W.Frag) (mg : Str → Option Value) (base : Heap) (CX : CXT) (k : Nat) (f : Addr) (fd : FuncData) (ps : List Str) (sp : Sp) : Prop where
  len : ∀ vs H Q E, sp vs H Q E → vs.length = ps.length
  go : ∀ (A : Around) (outer : List Env) (s : Shared) (H : Hp) (args : Args) (us : List Value) (vs : List V) (Q : VK) (E : XK), A.guards = some [] → Room k A → Env0 P w K mg base A outer s H →
    BindsTo s fd args (ps.zip us) → Vals vs us → sp vs H Q E → codeAny (model P w) A (.call (.ref f) args) (CR CX outer P w H s Q E) s
section
variable {P : Program} {w : World} {K : PySem.W.Frag} {mg : Str → Option Value} {base : Heap} {CX : CXT} {k : Nat} {f : Addr} {fd : FuncData} {ps : List Str} {sp : Sp}
theorem FnOk.g (F : FnOk P w K mg base CX k f fd ps sp) : FnG P w K mg base CX k f fd ps sp :=
  { len := F.len, go := fun A outer s H args us vs Q E _ => F.run A outer s H args us vs Q E }
theorem FnG.up {j : Nat} (F : FnG P w K mg base CX j f fd ps sp) (h : j ≤ k) : FnG P w K mg base CX k f fd ps sp :=
  { len := F.len, go := fun A outer s H args us vs Q E hg hr => F.go A outer s H args us vs Q E hg (hr.mono h) }
theorem Fun.okG {x qual : Str} {st : Stmt} {N : List Str} (F : Fun K x qual st f fd) (S : FnScope N ps (defScope st)) (len : ∀ vs H Q E, sp vs H Q E → vs.length = ps.length)
    (body : ∀ (cdv : Value) (A : Around) (outer : List Env) (s : Shared) (H : Hp) (vs : List V) (Q : VK) (E : XK), (A.deeper (envOfC qual (defScope st) s.heap.objs.size f cdv)).guards = some [] →
      Room k (A.deeper (envOfC qual (defScope st) s.heap.objs.size f cdv)) → sp vs H Q E →
      ∃ t, PSs (cxOf CX0 P w K mg base N qual (defScope st) f cdv A outer s H E).nox (defBody st) t ∧ t { nx := fun _ H' => Q .non H', rt := Q } (start N vs) H) : FnG P w K mg base CX0 (k + 1) f fd ps sp := by
  obtain ⟨oc, od, kV, doc, pm, an, cdv, ct, osl, rfl, lk, hcd⟩ := F.ex
  refine { len := len, go := fun A outer s H args us vs Q E hg hr e0 hb r hsp => ?_ }
  have up := fun b o e => (e0.bs b o e).1
  refine Att.call_fn (e0.mod.kin.keeps up) (e0.mod.nolimit.keeps up) lk hcd hr.depth hb ?_ (fun s1 ic => ?_) S.co S.gen S.kind
  · refine List.all_eq_true.mpr fun y hy => ?_
    obtain ⟨n, v⟩ := y
    rcases S.par n (List.of_mem_zip hy).1 with q | q <;> (dsimp only; rw [q]; rfl)
  · obtain ⟨t, ht, hq⟩ := body cdv A outer s H vs Q E hg (hr.deeper _) hsp
    have I := inv_start (CX := CX0) (E := E) S hr.hd e0 (len _ _ _ _ hsp) r ic
    refine wpAny_mono (ht.nox.run [] s1 _ H _ I hq) (fun fl s2 h => ?_) fun _ _ h => h
    cases fl with
    | ret u =>
      obtain ⟨v, _, H2, J, rv, h⟩ := h
      exact ⟨v, H2, J.os, J.bare, J.base, J.hok, rv, h⟩
    | next =>
      obtain ⟨_, H2, J, h⟩ := h
      exact ⟨.non, H2, J.os, J.bare, J.base, J.hok, rfl, h⟩
    | brk => obtain ⟨_, _, _, h⟩ := h; exact h.elim
    | cont => obtain ⟨_, _, _, h⟩ := h; exact h.elim
end
/-- the abstract heap of the script alone -/
theorem script_heap {P : Program} {w : World} {K : PySem.W.Frag} {h : Heap} {a : Addr} {vs : List Value} {ns : List Int} (X : K.In h) (ha : h.get? a = some { cls := .type "list", data := .seq vs.toArray }) (hi : IntsAre vs ns) (hl : ns.length ≤ sizeLine) :
    ∃ H : Hp, SqL K H a (ns.map V.int) ∧ HOk P w H h ∧ ∀ b u, H b = some u → b = a ∧ K.lookup a = none ∧ ∃ o xs, u = .frz o (.lst xs) := by
  have rv := vals_ints hi
  by_cases n : K.lookup a = none
  · refine ⟨fun b => if b = a then some (.frz { cls := .type "list", data := .seq vs.toArray } (.lst (ns.map V.int))) else none, .inl (.inr ⟨_, if_pos rfl⟩), fun b u z => ?_, fun b u z => ?_⟩
    all_goals
      dsimp only at z
      split at z
      case isFalse => cases z
      rename_i eb
      cases z
    · subst eb
      exact ⟨ha, by rw [List.length_map]; exact hl, vs, 0, rv, ha⟩
    · exact ⟨eb, n, _, _, rfl⟩
  · obtain ⟨o, ho⟩ := Option.ne_none_iff_exists'.mp n
    have e := (X a o ho).symm.trans ha
    cases e
    exact ⟨fun _ => none, .inr ⟨_, vs.toArray, _, ho, rfl, rfl, rfl, by rw [List.size_toArray, hi.length]; exact hl, rv⟩, fun _ _ z => (nomatch z), fun _ _ z => (nomatch z)⟩
/-- the law's def, called on the script -/
theorem law_callG {P : Program} {w : World} {K : PySem.W.Frag} {mg mb : Str → Option Value} {k : Nat} {fa a : Addr} {fd : FuncData} {x : Str} {sp : Sp} {s1 : Shared} {vs : List Value} {ns : List Int} (KX : K.In s1.heap) (hns : s1.heap.Ns mainGlobals mg)
    (hb : s1.heap.Ns builtinsNs mb ∧ ∀ y : Str, y ≠ "__name__" → mb y = bootBuiltins y) (hlim : s1.heap.NoLimit) (hg : s1.gens = #[]) (ha : s1.heap.get? a = some { cls := .type "list", data := .seq vs.toArray }) (hi : IntsAre vs ns) (hl : ns.length ≤ sizeLine)
    (hr : Room k callerA) (F : ∀ b0 : Heap, K.In b0 → b0.Ns mainGlobals mg → FnG P w K mg b0 CX0 k fa fd [x] sp) (bind : ∀ (s : Shared) (u : Value), BindsTo s fd ⟨[u], []⟩ [(x, u)])
    (hsp : ∀ H : Hp, Only H → SqL K H a (ns.map V.int) → sp [.ref a] H (fun v _ => v = .bl true) fun _ _ _ => False) (noX : ∀ H e s', CX0 [] H s1 (fun _ _ _ => False) e s' → False) :
    codeAny (model P w) callerA (.call (.ref fa) ⟨[.ref a], []⟩) (fun r s' => r = .ok (.ret (.bool true)) ∧ OldK s1.heap s'.heap ∧ s'.os = s1.os ∧ AllBare s'.gens) s1 := by
  obtain ⟨H, hS, hok, hA⟩ := script_heap (P := P) (w := w) KX ha hi hl
  have tell : ∀ b, H b = none ∨ b = a ∧ K.lookup a = none ∧ ∃ o xs, H b = some (.frz o (.lst xs)) := fun b => by
    cases q : H b with
    | none => exact .inl rfl
    | some u =>
      obtain ⟨e1, e2, o, xs, e3⟩ := hA b u q
      exact .inr ⟨e1, e2, o, xs, by rw [e3]⟩
  have only : Only H := fun b => (tell b).imp id fun z => z.2.2
  have low : ∀ {b : Addr} {m : Str → Option Value}, s1.heap.Ns b m → (hidT s1.heap H).Ns b m := fun {b m} n => by
    obtain ⟨o, es, ep, e, d, r⟩ := n
    refine ⟨o, es, ep, hidT_get e ?_, d, r⟩
    rcases tell b with z | ⟨z, _⟩
    · exact z
    · rw [z, ha] at e
      cases e
      cases d
  have kin : K.In (hidT s1.heap H) := fun b o e => hidT_get (KX b o e) ((tell b).elim id fun z => by
    rw [z.1, z.2.1] at e
    cases e)
  obtain ⟨mc, l1, l2⟩ := hlim
  have e0 : Env0 P w K mg (hidT s1.heap H) callerA [] s1 H :=
    { frames := rfl, mod := { kin := kin, glob := low hns, blt := ⟨mb, low hb.1, hb.2⟩, nolimit := ⟨mc, low l1, l2⟩ }, bs := fun _ _ e => of_hidT e, bsz := Nat.le_of_eq (hidT_size _ _), funs := trivial, frf := fun _ z => (nomatch z), hok := hok, bare := .of_eq hg }
  refine codeAny_mono ((F _ kin (low hns)).go callerA [] s1 H _ [.ref a] [.ref a] _ _ rfl hr e0 (bind s1 (.ref a)) (.cons rfl .nil) (hsp H only hS)) fun r s2 h => ?_
  rcases r with e | fl
  · exact (noX H e s2 h).elim
  rcases fl with _ | _ | _ | u <;> try exact False.elim h
  obtain ⟨v, H2, os, bare, un, ok2, rv, q⟩ := h
  cases (q : v = .bl true)
  cases (rv : u = Value.bool true)
  refine ⟨rfl, OldK.of_keep fun b o e => ?_, os, bare⟩
  rcases tell b with z | ⟨_, _, ob, xs, z⟩
  · exact un.keep b o e z (fun y => by cases y) fun y => by cases y
  · have k1 := (hok b _ z).1
    rw [← e, k1] at *
    exact (ok2 b _ (un.frzs b ob _ z)).1
theorem walk_ofG {l : PySem.W.OpenLaw} {n k : Nat} {q : Program} {loose : List Str} {XP : (Str → Option Value) → Heap → Prop} {YP : World → Heap → Prop} {d : DefRec} {K : Params → PySem.W.Frag} {sp : PySem.W.Frag → Sp} {x : Str} (hn : l.most = some n) (hn2 : n ≤ sizeLine)
    (hdf : d.params.defaults = []) (hr : Room k callerA) (hY : ∀ (w : World) (h : Heap), YP w h → (K w.params).In h)
    (F : ∀ (w : World) (mg : Str → Option Value) (fa : Addr) (h : Heap), (K w.params).In h → h.Ns mainGlobals mg → mg d.name = some (.ref fa) → ∃ fd : FuncData, (∀ (s : Shared) (u : Value), BindsTo s fd ⟨[u], []⟩ [(x, u)]) ∧
      ∀ b0 : Heap, (K w.params).In b0 → b0.Ns mainGlobals mg → FnG l.prog w (K w.params) mg b0 CX0 k fa fd [x] (sp (K w.params)))
    (hsp : ∀ (K : PySem.W.Frag) (H : Hp) (a : Addr) (ns : List Int), ns.length ≤ n → Only H → SqL K H a (ns.map V.int) → sp K [.ref a] H (fun v _ => v = .bl true) fun _ _ _ => False)
    (noX : ∀ (H : Hp) (s : Shared) (e : Value) (s' : Shared), CX0 [] H s (fun _ _ _ => False) e s' → False) : PySem.W.WalkO q loose XP YP l.row.toRowW d [] (fun f vs => PySem.call f vs) := by
  refine Att.attach_call hn hdf fun w s0 s1 mg mb fa o pm cd doc a vs ns G Y _ _ _ hmg hobj hints hlen hg => ?_
  obtain ⟨fd, hb, hF⟩ := F w mg fa _ (hY w _ Y) G.T.g hmg
  exact law_callG (hY w _ Y) G.T.g ⟨G.T.b, G.T.builtins⟩ G.T.nolimit hg hobj hints (Nat.le_trans hlen hn2) hr hF hb (fun H => hsp _ H a ns hlen) fun H => noX H s1
end L2

set_option Elab.async false
set_option linter.all false
set_option maxRecDepth 100000
set_option maxHeartbeats 4000000
/-! Own `in`, `len`, `==` of an own class whose instances have a dict; calls of defs that ask for no guarded built-in beneath. -/
namespace L2
open PySem PySem.Spec PyProof.Rows
section
variable {X : Cx} {CX : CXT} {k : Nat} {f C : Addr} {fd : FuncData} {ps : List Str} {sp : Sp} {E : XK}
theorem run_in1 {pins : List (Addr × Obj)} {σ : St} {H : Hp} {s : Shared} {Q : VK} {us : List Value} {vs : List V} (F : FnOk X.prog X.w X.K X.mg X.base CX k f fd ps sp) (hr : Room (k + 1) X.A) (hb : Binds X.K fd ps []) (hx : Passes CX X E)
    (I : Inv X pins σ H s) (r : Vals vs us) (h : sp vs H Q E) : wpAny (model X.prog X.w) X.A.in1 (call (.ref f) us) (EP X pins σ Q) X.xe s := by
  have len : us.length = ps.length := r.length.symm.trans (F.len _ _ _ _ h)
  have b := hb s us I.kIn (by rw [List.append_nil]; exact len)
  rw [List.append_nil] at b
  refine wpAny_call (codeAny_mono (F.run X.A.in1 X.stack s H ⟨us, []⟩ us vs Q E hr.in1 I.env0.in1 b r h) fun z s2 q => ?_)
  rcases z with e | fl
  · exact hx pins σ H s e s2 I q
  · rcases fl with _ | _ | _ | u <;> first | exact False.elim q | exact I.after q
theorem truthy_bl {M : Model} {A : Around} {E' : Value → Shared → Prop} {s : Shared} {b : Bool} {Q : Bool → Shared → Prop} (q : Q b s) : wpAny M A (truthy (.bool b)) Q E' s := by
  wp_walk
  exact q
/-- x in o, o an instance with an own __contains__ -/
def rInOwn (C : Addr) (sp : Sp) (E : XK) (neg : Bool) : R2 := fun x y H Q => ∃ (a dx : Addr) (fs : List (Str × V)), y = .ref a ∧ H a = some (.ins C dx fs) ∧ sp [.ref a, x] H (fun v H2 => ∃ b, v = .bl b ∧ Q (.bl (b != neg)) H2) E
theorem op_inOwn (hs : PySem.W.findIn X.K (.ref C) "__contains__" = some (some (.ref f))) (hf : PySem.W.isFn X.K (.ref f) = true) (F : FnOk X.prog X.w X.K X.mg X.base CX k f fd ps sp) (hr : Room k X.A) (hb : Binds X.K fd ps []) (hx : Passes CX X E) :
    OpR X (compareOp .In) (rInOwn C sp E false) := by
  intro pins s σ H x y v u Q I rx ry h
  obtain ⟨a, dx, fs, rfl, ea, q⟩ := h
  cases ry
  obtain ⟨mA, O, _, _, _, _⟩ := ins_get I.hok ea
  obtain ⟨od, J, _⟩ := O.look
  obtain ⟨m, hF⟩ := I.fr
  refine PySem.W.in_K hF I.ok.mod.kin J hs hf (wpAny_mono (run_fn (ds := []) (dvs := []) (vs := [.ref a, x]) (us := [.ref a, v]) F hr hb .nil hx I (.cons rfl (.cons rx .nil)) q) (fun r s2 z => ?_) fun _ _ z => z)
  obtain ⟨w', H2, I2, rw', b, rfl, q2⟩ := z
  cases rw'
  rw [Bool.bne_false] at q2
  exact truthy_bl ⟨.bl b, H2, I2, rfl, q2⟩
theorem op_notInOwn (hs : PySem.W.findIn X.K (.ref C) "__contains__" = some (some (.ref f))) (hf : PySem.W.isFn X.K (.ref f) = true) (F : FnOk X.prog X.w X.K X.mg X.base CX k f fd ps sp) (hr : Room k X.A) (hb : Binds X.K fd ps []) (hx : Passes CX X E) :
    OpR X (compareOp .NotIn) (rInOwn C sp E true) := by
  intro pins s σ H x y v u Q I rx ry h
  obtain ⟨a, dx, fs, rfl, ea, q⟩ := h
  cases ry
  obtain ⟨mA, O, _, _, _, _⟩ := ins_get I.hok ea
  obtain ⟨od, J, _⟩ := O.look
  obtain ⟨m, hF⟩ := I.fr
  refine PySem.W.notIn_K hF I.ok.mod.kin J hs hf (wpAny_mono (run_fn (ds := []) (dvs := []) (vs := [.ref a, x]) (us := [.ref a, v]) F hr hb .nil hx I (.cons rfl (.cons rx .nil)) q) (fun r s2 z => ?_) fun _ _ z => z)
  obtain ⟨w', H2, I2, rw', b, rfl, q2⟩ := z
  cases rw'
  rw [Bool.bne_true] at q2
  exact truthy_bl ⟨.bl (!b), H2, I2, rfl, q2⟩
/-- len(o), o an instance with an own __len__ -/
def rLenOwn (C : Addr) (sp : Sp) (E : XK) : List V → Hp → VK → Prop := fun xs H Q => ∃ (a dx : Addr) (fs : List (Str × V)), xs = [.ref a] ∧ H a = some (.ins C dx fs) ∧ sp [.ref a] H (fun v H2 => ∃ n : Nat, v = .int n ∧ n ≤ 1000000 ∧ Q (.int n) H2) E
theorem call_lenOwn (hs : PySem.W.findIn X.K (.ref C) "__len__" = some (some (.ref f))) (hf : PySem.W.isFn X.K (.ref f) = true) (F : FnOk X.prog X.w X.K X.mg X.base CX k f fd ps sp) (hr : Room (k + 1) X.A) (hb : Binds X.K fd ps []) (hx : Passes CX X E) :
    CallR X (.builtin "len") (rLenOwn C sp E) := by
  intro pins s σ H xs us Q I r h
  obtain ⟨a, dx, fs, rfl, ea, q⟩ := h
  obtain ⟨u, rfl, ru⟩ := vals1 r
  cases ru
  obtain ⟨mA, O, _, _, _, _⟩ := ins_get I.hok ea
  obtain ⟨od, J, _⟩ := O.look
  obtain ⟨m, hF⟩ := I.fr
  refine PySem.W.len_K hF I.ok.mod.kin J hs hf (wpAny_mono (run_in1 (vs := [.ref a]) (us := [.ref a]) F hr hb hx I (.cons rfl .nil) q) (fun r s2 z => ?_) fun _ _ z => z)
  obtain ⟨w', H2, I2, rw', n, rfl, hn, q2⟩ := z
  obtain ⟨t, rfl⟩ := rw'
  exact ⟨⟨by omega, by omega⟩, .int n, H2, I2.tok _, ⟨_, rfl⟩, q2⟩
/-- how an object's class is known: an instance with a dict, or a list -/
inductive ClsOf (H : Hp) (b : Addr) : Value → Prop where
  | ins {C dx : Addr} {fs : List (Str × V)} (e : H b = some (.ins C dx fs)) : ClsOf H b (.ref C)
  | lst {xs : List V} (e : H b = some (.lst xs)) : ClsOf H b (.type "list")
theorem ClsOf.looks {pins : List (Addr × Obj)} {σ : St} {H : Hp} {s : Shared} {b : Addr} {tb : Value} (I : Inv X pins σ H s) (c : ClsOf H b tb) : PySem.W.Looks (model X.prog X.w) s.heap (typeOf (.ref b)) tb := by
  cases c with
  | ins e =>
    obtain ⟨mA, O, _, _, _, _⟩ := ins_get I.hok e
    obtain ⟨od, J, _⟩ := O.look
    exact J.type
  | lst e =>
    obtain ⟨_, its, n, _, ho⟩ := I.hok b _ e
    exact fun A Q E s k q => wpAny_typeOf_ref (k _ _ ho) q
/-- x == y, x an instance with an own __eq__ -/
def rEqOwn (K : PySem.W.Frag) (C : Addr) (sp : Sp) (E : XK) : R2 := fun x y H Q => ∃ (a dx b : Addr) (fs : List (Str × V)) (tb : Value), x = .ref a ∧ y = .ref b ∧ H a = some (.ins C dx fs) ∧ ClsOf H b tb ∧ PySem.W.notFirst K C tb = true ∧ sp [.ref a, .ref b] H (fun v H2 => ∃ c, v = .bl c ∧ Q (.bl c) H2) E
theorem op_eqOwn (hs : PySem.W.findIn X.K (.ref C) "__eq__" = some (some (.ref f))) (hf : PySem.W.isFn X.K (.ref f) = true) (F : FnOk X.prog X.w X.K X.mg X.base CX k f fd ps sp) (hr : Room k X.A) (hb : Binds X.K fd ps []) (hx : Passes CX X E) :
    OpR X (compareOp .Eq) (rEqOwn X.K C sp E) := by
  intro pins s σ H x y v u Q I rx ry h
  obtain ⟨a, dx, b, fs, tb, rfl, rfl, ea, cb, nf, q⟩ := h
  cases rx
  cases ry
  obtain ⟨mA, O, _, _, _, _⟩ := ins_get I.hok ea
  obtain ⟨od, J, _⟩ := O.look
  obtain ⟨m, hF⟩ := I.fr
  refine PySem.W.cmp_K (op := .Eq) (tb := tb) hr.units0 hF I.ok.mod.kin J (cb.looks I) nf hs hf ?_
  refine wpAny_mono (run_fn (ds := []) (dvs := []) (vs := [.ref a, .ref b]) (us := [.ref a, .ref b]) F hr hb .nil hx I (.cons rfl (.cons rfl .nil)) q) (fun w' s2 z => ?_) fun _ _ z => z
  obtain ⟨w2, H2, I2, rw', c, rfl, q2⟩ := z
  cases rw'
  exact ⟨.bl c, H2, I2, rfl, q2⟩
end
section
variable {X : Cx} {CX : CXT} {k : Nat} {f : Addr} {fd : FuncData} {ps : List Str} {sp : Sp} {E : St → XK} {x : Str} {p pos : Pos} {e : Expr} {es : List Expr} {t : TA}
/-- f(e, ..), f a def that asks that no guarded built-in runs beneath -/
def tCallG (sp : Sp) (E : St → XK) (t : TA) : TE := fun σ H Q => t σ H fun vs H1 => sp vs H1 Q (E σ)
theorem pe_callG (F : FnG X.prog X.w X.K X.mg X.base CX k f fd ps sp) (hgd : X.A.guards = some []) (hr : Room k X.A) (hg : Gl X x) (hm : X.mg x = some (.ref f)) (hk : PySem.W.keepIn X.K (.ref f) = true) (hb : Binds X.K fd ps []) (hx : ∀ σ, Passes CX X (E σ))
    (ha : PA X (e :: es) t) (hdb : (x == ("__debug__" : Str)) = false := by decide) (he : starEach (e :: es) X.env = (false, eval e X.env) :: starEach es X.env := by rfl) (hpl : (backTo pos (starEach es X.env)).any (·.1) = false := by rfl) :
    PE X (.Call (.Name x p) (e :: es) [] pos) (tCallG sp E t) := by
  constructor
  intro pins s σ H Q I h
  refine wpAny_Call_Name_kw (ld_glob I hg hm ?_ hdb)
  refine PySem.W.callWith_K (h₀ := X.base) I.ok.mod.kin hk (thn (ha.run pos pins s σ H _ I h) fun us s1 q0 => ?_) he hpl
  obtain ⟨vs, H1, I1, r, q⟩ := q0
  have len : us.length = ps.length := r.length.symm.trans (F.len _ _ _ _ q)
  have b := hb s1 us I1.kIn (by rw [List.append_nil]; exact len)
  rw [List.append_nil] at b
  refine ⟨I1.kIn, wpAny_call (codeAny_mono (F.go X.A X.stack s1 H1 ⟨us, []⟩ us vs Q (E σ) hgd hr I1.env0 b r q) fun z s2 q2 => ?_)⟩
  rcases z with er | fl
  · exact hx σ pins σ H1 s1 er s2 I1 q2
  · rcases fl with _ | _ | _ | u <;> first | exact False.elim q2 | exact I1.after q2
end
end L2
namespace L2
open PySem PySem.Spec PyProof.Rows
section
variable {X : Cx} {CX : CXT} {k : Nat} {f C : Addr} {fd : FuncData} {ps : List Str} {sp : Sp} {E : XK}
/-- object.__ne__ of an instance with an own __eq__ -/
theorem ne_entry {A : Around} {E' : Value → Shared → Prop} {s : Shared} {x : Addr} {b : Value} {ox : Obj} {od : Option Obj} {Q : Fin → Shared → Prop} (XK : X.K.In s.heap) (J : PySem.W.InstAt s.heap x ox C od) (hu : A.units < cLine)
    (hs : PySem.W.findIn X.K (.ref C) "__eq__" = some (some (.ref f))) (hf : PySem.W.isFn X.K (.ref f) = true)
    (h : wpAny (model X.prog X.w) A (call (.ref f) [.ref x, b]) (fun v s2 => ∃ c, v = .bool c ∧ Q (.done (.ret (.bool (!c)))) s2) E' s) : wpAny (model X.prog X.w) A (Builtin.«object.__ne__» ⟨[.ref x, b], []⟩) Q E' s := by
  have one : wpAny (model X.prog X.w) A (callSpecialIfBound? (.ref x) "__eq__" [b]) (fun r s2 => ∃ c, r = some (.bool c) ∧ Q (.done (.ret (.bool (!c)))) s2) E' s :=
    PySem.W.ifBound_K XK J hs hf (wpAny_mono h (fun v s2 hv => by obtain ⟨c, e, q⟩ := hv; exact ⟨c, by rw [e], q⟩) fun _ _ z => z)
  unfold Builtin.«object.__ne__»
  repeat (first
    | with_reducible refine wpAny_cRoomFor hu ?_
    | refine wpAny_bind (m := callSpecialIfBound? (.ref x) (Str.ofString "__eq__") [b]) (wpAny_mono one (fun r s2 hr => ?_) fun _ _ z => z)
    | wp_step)
  obtain ⟨c, rfl, q⟩ := hr
  repeat (first | exact q | exact wpAny_pure q | refine wpAny_bind (m := truthy (.bool _)) (truthy_bl ?_) | wp_step)
/-- x != y, two instances of a class with an own __eq__ and no own __ne__ -/
def rNeOwn (C : Addr) (sp : Sp) (E : XK) : R2 := fun x y H Q => ∃ (a dx b dy : Addr) (fs gs : List (Str × V)), x = .ref a ∧ y = .ref b ∧ H a = some (.ins C dx fs) ∧ H b = some (.ins C dy gs) ∧ sp [.ref a, .ref b] H (fun v H2 => ∃ c, v = .bl c ∧ Q (.bl (!c)) H2) E
theorem op_neOwn (hs : PySem.W.findIn X.K (.ref C) "__eq__" = some (some (.ref f))) (hn : PySem.W.findIn X.K (.ref C) "__ne__" = some (some (.builtin "object.__ne__"))) (hm : PySem.W.mroIn X.K C (.type "object") = some true)
    (hf : PySem.W.isFn X.K (.ref f) = true) (F : FnOk X.prog X.w X.K X.mg X.base CX k f fd ps sp) (hr : Room (k + 1) X.A) (hb : Binds X.K fd ps []) (hx : Passes CX X E) : OpR X (compareOp .NotEq) (rNeOwn C sp E) := by
  intro pins s σ H x y v u Q I rx ry h
  obtain ⟨a, dx, b, dy, fs, gs, rfl, rfl, ea, eb, q⟩ := h
  cases rx
  cases ry
  obtain ⟨mA, O, _, _, _, _⟩ := ins_get I.hok ea
  obtain ⟨od, J, _⟩ := O.look
  obtain ⟨mB, O2, _, _, _, _⟩ := ins_get I.hok eb
  obtain ⟨od2, J2, _⟩ := O2.look
  have un := hr.un
  have inst : PySem.W.Looks (model X.prog X.w) s.heap (isInstance (.ref a) (.type "object")) true := J.type.andThen (PySem.W.looks_mroIn I.kIn hm)
  have look : PySem.W.Looks (model X.prog X.w) s.heap (specialOf (.ref a) "__ne__") (some (.builtin "object.__ne__")) := J.type.andThen (PySem.W.looks_findIn I.kIn hn)
  have body : wpAny (model X.prog X.w) X.A (call (.builtin "object.__ne__") [.ref a, .ref b]) (fun v s2 => ∃ c, v = .bool c ∧ EP X pins σ Q (.bool c) s2) X.xe s := by
    refine wpAny_call (codeAny_call_builtin (by decide +kernel) PySem.F.cmpEntry_ne (PySem.W.check_slot PySem.F.cmpKind_ne PySem.F.cmpSplit_ne inst (PySem.F.cmpArgs_ne _ _) ?_))
    refine ne_entry (A := X.A.in1) I.kIn J (by show X.A.units + 1 < cLine; omega) hs hf (wpAny_mono (run_in1 (vs := [.ref a, .ref b]) (us := [.ref a, .ref b]) F hr hb hx I (.cons rfl (.cons rfl .nil)) q) (fun w2 s2 z => ?_) fun _ _ z => z)
    obtain ⟨w3, H2, I2, rw3, c, rfl, q2⟩ := z
    cases rw3
    exact ⟨c, rfl, !c, rfl, .bl (!c), H2, I2, rfl, q2⟩
  have asked : wpAny (model X.prog X.w) X.A (tryCompare (.ref a) "__ne__" (.ref b)) (fun r s2 => ∃ c, r = some (.bool c) ∧ EP X pins σ Q (.bool c) s2) X.xe s := by
    unfold tryCompare
    refine wpAny_bind (NtL.csib look (PySem.F.slot_range_iterator_ne.bind _) (wpAny_mono body (fun v s2 hv => ?_) fun _ _ z => z))
    obtain ⟨c, rfl, q2⟩ := hv
    exact wpAny_pure ⟨c, rfl, q2⟩
  unfold compareOp
  clear body q
  unfold richCompare
  simp only [oneThing_ref]
  refine wpAny_holding (wpAny_bind (wpAny_cRoomFor (by omega) ?_))
  rw [cmpInfo_NotEq]
  refine wpAny_bind (J.type.here (wpAny_bind (J2.type.here ?_)))
  rw [if_neg (by simp : ¬ (Value.ref C != Value.ref C) = true)]
  refine wpAny_bind (wpAny_pure ?_)
  rw [if_neg Bool.false_ne_true]
  refine wpAny_bind (wpAny_mono asked (fun r s2 hr2 => ?_) fun _ _ z => z)
  obtain ⟨c, rfl, q2⟩ := hr2
  exact wpAny_pure q2
end
end L2

set_option Elab.async false
set_option linter.all false
set_option maxRecDepth 100000
set_option maxHeartbeats 4000000
/-! repr of a list of data. -/
namespace L2
open PySem PySem.Spec PyProof.Rows
def keyD : Key → PyData
  | .inl i => .int i
  | .inr x => .str x
theorem pairs_data {P : Program} {w : World} {h : Heap} : ∀ {es : List DictEntry} {vs : List (Key × Value)} {kvs : List (Key × Int)}, Pairs (mixKind P w) es vs → KV (kvs.map fun p => (p.1, V.int p.2)) vs →
    ReadsAll h (es.map (·.key)) (kvs.map fun p => keyD p.1) [] ∧ ReadsAll h (es.map (·.val)) (kvs.map fun p => PyData.int p.2) []
  | _, _, [], p, r => by
    cases r
    cases p
    exact ⟨.nil, .nil⟩
  | _, _, (k, i) :: l, p, r => by
    cases r with
    | cons r1 r2 =>
      cases p with
      | cons p1 p2 p3 =>
        obtain ⟨e1, t, e2⟩ := r1
        obtain ⟨q1, q2⟩ := pairs_data p3 r2
        dsimp only at e1 e2
        refine ⟨.cons (as := []) (bs := []) ?_ q1, .cons (as := []) (bs := []) ?_ q2⟩
        · rw [← e1] at p1
          rcases keyIs_shape p1 with ⟨j, u, ek, ev⟩ | ⟨y, u, ek, ev⟩
          · dsimp only
            rw [ev, show k = _ from ek]
            exact .int j u
          · dsimp only
            rw [ev, show k = _ from ek]
            exact .str y u
        · dsimp only
          rw [p2, e2]
          exact .int i t
/-- data: without dicts, or one dict of whole numbers -/
def Dd (K : PySem.W.Frag) (H : Hp) (v : V) (d : PyData) : Prop := (Dp K H v d ∧ d.hasDict = false) ∨
  ∃ (b : Addr) (kvs : List (Key × Int)), v = .ref b ∧ H b = some (.dK (kvs.map fun p => (p.1, V.int p.2))) ∧ d = .dict ((kvs.map fun p => keyD p.1).zip (kvs.map fun p => PyData.int p.2))
section
variable {X : Cx} {pins : List (Addr × Obj)} {σ : St} {H : Hp} {s : Shared}
theorem Dd.reads {v : V} {d : PyData} {u : Value} (I : Inv X pins σ H s) (D : Dd X.K H v d) (r : RelV v u) : ∃ as, Reads s.heap u d as ∧ (d.hasDict = true → sysModules ∉ as) := by
  rcases D with ⟨D, n⟩ | ⟨b, kvs, rfl, e, rfl⟩
  · obtain ⟨as, q⟩ := Dp.reads I d v u D r
    exact ⟨as, q, fun z => by rw [n] at z; cases z⟩
  · cases r
    obtain ⟨_, ns, vs, kv, o, es, ep, ho, hx, hd, _, pr, _⟩ := I.hok b _ e
    obtain ⟨q1, q2⟩ := pairs_data (h := s.heap) pr kv
    refine ⟨b :: [] ++ [], Reads.dict ho hx.1 hd ?_ ?_, fun _ z => ?_⟩
    · rw [List.map_fst_zip (by simp)]
      exact q1
    · rw [List.map_snd_zip (by simp)]
      exact q2
    · simp only [List.append_nil, List.mem_singleton] at z
      rw [← z] at ns
      simp at ns
theorem dd_all {d : PyData} (I : Inv X pins σ H s) : ∀ {vs : List V} {us : List Value}, (∀ v ∈ vs, Dd X.K H v d) → Vals vs us → ∃ as, ReadsAll s.heap us (List.replicate vs.length d) as ∧ (d.hasDict = true → sysModules ∉ as)
  | _, _, _, .nil => ⟨[], .nil, fun _ z => nomatch z⟩
  | _, _, D, .cons r1 r2 => by
    obtain ⟨as, q1, n1⟩ := (D _ (List.mem_cons_self ..)).reads I r1
    obtain ⟨bs, q2, n2⟩ := dd_all I (fun v hv => D v (List.mem_cons_of_mem _ hv)) r2
    exact ⟨as ++ bs, .cons q1 q2, fun z => by rw [List.mem_append]; exact fun y => y.elim (n1 z) (n2 z)⟩
/-- repr(xs), a list whose items all are the same data -/
def rReprL (K : PySem.W.Frag) : List V → Hp → VK → Prop := fun xs H Q => ∃ (a : Addr) (ys : List V) (d : PyData), xs = [.ref a] ∧ H a = some (.lst ys) ∧ ys ≠ [] ∧ (∀ y ∈ ys, Dd K H y d) ∧ d.showable = true ∧ PyData.depthAll (List.replicate ys.length d) ≤ 100 ∧
  (listText (PyData.shownAll (List.replicate ys.length d))).length ≤ sizeLine ∧ Q (.str (listText (PyData.shownAll (List.replicate ys.length d)))) H
theorem show_rep (d : PyData) : ∀ n, PyData.showableAll (List.replicate n d) = true ∨ d.showable = false
  | 0 => .inl rfl
  | n + 1 => by
    cases e : d.showable with
    | false => exact .inr rfl
    | true =>
      rcases show_rep d n with z | z
      · exact .inl (by rw [List.replicate_succ, PyData.showableAll, e, z]; rfl)
      · rw [e] at z
        cases z
theorem dict_rep (d : PyData) : ∀ n, PyData.hasDictAll (List.replicate n d) = true → d.hasDict = true
  | 0, h => by cases h
  | n + 1, h => by
    rw [List.replicate_succ, PyData.hasDictAll, Bool.or_eq_true] at h
    exact h.elim id (dict_rep d n)
theorem call_reprL (hg : X.A.guards = some []) (hu : X.A.units + 200 < cLine) : CallR X (.builtin "repr") (rReprL X.K) := by
  intro pins s σ H xs us Q I r h
  obtain ⟨a, ys, d, rfl, e, hne, hd, hs, hdep, hz, q⟩ := h
  obtain ⟨u, rfl, ru⟩ := vals1 r
  cases ru
  obtain ⟨_, its, n, rv, ho⟩ := I.hok a _ e
  obtain ⟨as, ra, ns⟩ := dd_all I hd rv
  have sh : PyData.showableAll (List.replicate ys.length d) = true := (show_rep d _).resolve_right (by rw [hs]; simp)
  obtain ⟨bs, hb, hk⟩ := ReprAllK.of_readsAll (prog := X.prog) (w := X.w) ra sh (fun z => ns (dict_rep d _ z)) fun t ht => Nat.le_trans (listText_mem_le ht) hz
  have hna : a ∉ bs := not_mem_of_deeper (Reads.list ho rfl rfl (by exact ra)) (by simp only [PyData.depth]; omega) hb
  have ty : s.TypeIs (.ref a) "list" := ⟨_, ho, rfl⟩
  refine call_repr_slot (by omega) ty F.slot_list_repr.toG ?_
  cases its with
  | nil =>
    cases rv
    exact (hne rfl).elim
  | cons x l =>
    exact call_list_reprK ho rfl rfl hna hk.length_eq (fun i y z => hk.item i y (by simpa using z)) hg (fun b _ => Clear.nil b) (by show X.A.units + 1 + _ < cLine; omega) (fun _ _ z => z)
      (fun h' u tk k => ⟨_, _, rfl, .str _, H, I.kept (t' := tk) k, ⟨_, rfl⟩, q⟩) hz
end
end L2
namespace L2
open PySem PySem.Spec PyProof.Rows
section
variable {X : Cx}
/-- repr(x), x data without dicts -/
def rReprD (K : PySem.W.Frag) : List V → Hp → VK → Prop := fun xs H Q => ∃ (x : V) (d : PyData), xs = [x] ∧ Dp K H x d ∧ d.hasDict = false ∧ d.showable = true ∧ d.depth ≤ 100 ∧ d.shown.length ≤ sizeLine ∧ Q (.str d.shown) H
theorem call_reprD (hg : X.A.guards = some []) (hu : X.A.units + 200 < cLine) : CallR X (.builtin "repr") (rReprD X.K) := by
  intro pins s σ H xs us Q I r h
  obtain ⟨x, d, rfl, D, nd, sh, dep, hz, q⟩ := h
  obtain ⟨u, rfl, ru⟩ := vals1 r
  have whole : ∀ a, u = .ref a → wpAny (model X.prog X.w) X.A (call (.builtin "repr") [u]) (EP X pins σ Q) X.xe s := fun a e => by
    subst e
    obtain ⟨as, ra⟩ := Dp.reads I d x _ D ru
    exact repr_of_reads' ra sh (fun z => by rw [nd] at z; cases z) hg (by omega) (fun _ _ z => z) (fun h2 t tk k => ⟨.str d.shown, H, I.kept (t' := tk) k, ⟨_, rfl⟩, q⟩) hz
  cases D with
  | non =>
    cases ru
    simp only [PyData.shown] at q
    exact PySem.P.repr_of_none ⟨.str _, H, I.tok _, ⟨_, rfl⟩, q⟩
  | bl b =>
    cases ru
    simp only [PyData.shown] at q
    exact PySem.P.repr_of_bool ⟨.str _, H, I.tok _, ⟨_, rfl⟩, q⟩
  | int i =>
    obtain ⟨t, rfl⟩ := ru
    simp only [PyData.shown] at q
    exact PySem.P.repr_of_int (of_decide_eq_true (by simpa [PyData.showable] using sh)) ⟨.str _, H, I.tok _, ⟨_, rfl⟩, q⟩
  | str z =>
    obtain ⟨t, rfl⟩ := ru
    simp only [PyData.shown] at q hz
    exact PySem.P.repr_of_str ⟨.str _, H, I.tok _, ⟨_, rfl⟩, q⟩ hz
  | lst _ _ => exact whole _ ru
  | tup _ _ => exact whole _ ru
end
end L2

set_option Elab.async false
set_option linter.all false
set_option maxRecDepth 100000
set_option maxHeartbeats 4000000
/-! What the methods of a crowd promise. -/
namespace L2
open PySem PySem.Spec PyProof.Rows
def hasB (v : V) (zs : List Str) : Bool := match v with
  | .str z => decide (z ∈ zs)
  | _ => false
theorem inV_strs (z : Str) : ∀ zs : List Str, inV (.str z) (zs.map V.str) = decide (z ∈ zs)
  | [] => rfl
  | y :: zs => by
    have e := inV_strs z zs
    unfold inV at e ⊢
    rw [List.map_cons, List.any_cons, e]
    show ((y == z) || _) = _
    rw [Bool.eq_iff_iff]
    simp only [Bool.or_eq_true, beq_iff_eq, decide_eq_true_eq, List.mem_cons]
    exact or_congr_left eq_comm
theorem all_flat_strs (zs : List Str) : (zs.map V.str).all flatV = true := by
  rw [List.all_map]
  exact List.all_eq_true.mpr fun _ _ => rfl
theorem eqvAll_strs : ∀ zs ys : List Str, PyData.eqvAll (zs.map .str) (ys.map .str) = decide (zs = ys)
  | [], [] => rfl
  | [], _ :: _ => rfl
  | _ :: _, [] => rfl
  | z :: zs, y :: ys => by
    show PyData.eqvAll (PyData.str z :: _) (PyData.str y :: _) = _
    rw [PyData.eqvAll, eqvAll_strs zs ys, PyData.eqv, Bool.eq_iff_iff]
    simp
theorem eqv_strs (zs ys : List Str) : PyData.eqv (.list (zs.map .str)) (.list (ys.map .str)) = decide (zs = ys) := by
  rw [PyData.eqv, eqvAll_strs]
theorem lay_strs : ∀ {zs : List Str}, (∀ z ∈ zs, PyData.strOk z = true) → PyData.canLayAll0 (zs.map .str) = true
  | [], _ => rfl
  | z :: zs, h => by
    show PyData.canLayAll0 (PyData.str z :: _) = true
    rw [PyData.canLayAll0, PyData.canLay0, h z (List.mem_cons_self ..), lay_strs fun y hy => h y (List.mem_cons_of_mem _ hy)]
    rfl
theorem depth_strs : ∀ zs : List Str, PyData.depthAll (zs.map .str) ≤ 1
  | [] => by simp [PyData.depthAll]
  | z :: zs => by
    have := depth_strs zs
    simp only [List.map_cons, PyData.depthAll, PyData.depth]
    omega
theorem shaped_strs {zs : List Str} (h : ∀ z ∈ zs, PyData.strOk z = true) : SeqAt.shaped (.list (zs.map .str)) = true := by
  have := depth_strs zs
  unfold SeqAt.shaped
  rw [PyData.canLay0, lay_strs h, Bool.true_and]
  refine decide_eq_true ?_
  rw [PyData.depth]
  omega
theorem dp_strs {K : PySem.W.Frag} {H : Hp} : ∀ zs : List Str, DpAll K H (zs.map V.str) (zs.map PyData.str)
  | [] => .nil
  | z :: zs => .cons (.str z) (dp_strs zs)
structure Folk (zs : List Str) : Prop where
  ok : ∀ z ∈ zs, PyData.strOk z = true
  nd : zs.Nodup
  one : 1 ≤ zs.length
  most : zs.length ≤ 8
def CrowdOf (H : Hp) (C x : Addr) (zs : List Str) (m : Int) : Prop := CrowdAt H C x (zs.map V.str) m
theorem CrowdOf.same {H H2 : Hp} {C x : Addr} {zs : List Str} {m : Int} (s : Same H H2) (h : CrowdOf H C x zs m) : CrowdOf H2 C x zs m := CrowdAt.same s h
def spCrowdPeople (C : Addr) : Sp := fun vs H Q _ => ∃ (x : Addr) (zs : List Str) (m : Int), vs = [.ref x] ∧ CrowdOf H C x zs m ∧ zs.length ≤ 1000 ∧ ∀ H2 p, Same H H2 → H p = none → H2 p = some (.lst (zs.map V.str)) → Q (.ref p) H2
def spCrowdLen (C : Addr) : Sp := fun vs H Q _ => ∃ (x : Addr) (zs : List Str) (m : Int), vs = [.ref x] ∧ CrowdOf H C x zs m ∧ Q (.int zs.length) H
def spCrowdHas (K : PySem.W.Frag) (C : Addr) : Sp := fun vs H Q _ => ∃ (x : Addr) (v : V) (zs : List Str) (m : Int) (T : String), vs = [.ref x, v] ∧ CrowdOf H C x zs m ∧ TyN K H v T ∧ Q (.bl (hasB v zs)) H
def spCrowdEq (K : PySem.W.Frag) (C : Addr) : Sp := fun vs H Q _ => ∃ (x y : Addr) (zs : List Str) (m : Int), vs = [.ref x, .ref y] ∧ CrowdOf H C x zs m ∧ (∀ z ∈ zs, PyData.strOk z = true) ∧
  ((∃ ys n, CrowdOf H C y ys n ∧ (∀ z ∈ ys, PyData.strOk z = true) ∧ Q (.bl (decide (m = n) && decide (zs = ys))) H) ∨ ((∃ ys, H y = some (.lst ys)) ∧ Q (.bl false) H))
/-- a word that is asked for: it is there, or NotThere -/
def spNeed (K : PySem.W.Frag) (C CN : Addr) : Sp := fun vs H Q E => ∃ (x : Addr) (v : V) (zs : List Str) (m : Int) (T : String), vs = [.ref x, v] ∧ CrowdOf H C x zs m ∧ TyN K H v T ∧
  (hasB v zs = true → Q .non H) ∧ (hasB v zs = false → ∀ H2 d, Raised H H2 d "word" v → E (.ref CN) (some d) H2)
def spPlace (K : PySem.W.Frag) (C CN : Addr) : Sp := fun vs H Q E => ∃ (x : Addr) (v : V) (zs : List Str) (m : Int) (T : String), vs = [.ref x, v] ∧ CrowdOf H C x zs m ∧ TyN K H v T ∧
  (∀ i z, v = .str z → zs.idxOf z = i → z ∈ zs → Q (.int (i : Nat)) H) ∧ (hasB v zs = false → ∀ H2 d, Raised H H2 d "word" v → E (.ref CN) (some d) H2)
end L2
namespace L2
open PySem PySem.Spec PyProof.Rows
/-- an own class whose instances isinstance asks for -/
structure IsOwn (K : PySem.W.Frag) (C : Addr) : Prop where
  cl : Cls K C
  ha : PySem.W.findIn K (.ref C) "__class__" = some (some (.builtin "object.__class__"))
  hn : PySem.W.specialIn K (.builtin "object.__class__") "__get__" = some (some (.builtin "getset_descriptor.__get__"))
  ht : PySem.W.takesIn K (.builtin "object.__class__") = some true
  hm : PySem.W.mroIn K C (.type "object") = some true
theorem IsOwn.ty {K : PySem.W.Frag} {H : Hp} {a C dx : Addr} {fs : List (Str × V)} (i : IsOwn K C) (e : H a = some (.ins C dx fs)) : TyX K H (.ref a) (.ref C) := .base (.ins e i.cl i.ha i.hn i.ht i.hm)
theorem hasB_ty {K : PySem.W.Frag} {H : Hp} {v : V} {T : String} {zs : List Str} (t : TyN K H v T) (h : ¬ T = "str") : hasB v zs = false := by
  obtain ⟨ty, _⟩ := t
  cases v with
  | str z =>
    cases ty with
    | base b => cases b; exact absurd rfl h
  | _ => rfl
end L2
namespace L2
open PySem PySem.Spec PyProof.Rows
def isPairB (a b : V) (zs : List Str) : Bool := hasB a zs && (hasB b zs && !decide (a = b))
/-- a value that is asked whether it is a pair, and the answer -/
inductive PairArg (K : PySem.W.Frag) (H : Hp) (zs : List Str) : V → Bool → Prop where
  | no {v : V} {T : String} (t : TyN K H v T) (h : ¬ T = "tuple") : PairArg K H zs v false
  | len {p : Addr} {xs : List V} (e : H p = some (.tup xs)) (h : ¬ xs.length = 2) : PairArg K H zs (.ref p) false
  | two {p : Addr} {a b : V} {S T : String} (e : H p = some (.tup [a, b])) (s : TyN K H a S) (t : TyN K H b T) : PairArg K H zs (.ref p) (isPairB a b zs)
def spIsPair (K : PySem.W.Frag) (C : Addr) : Sp := fun vs H Q _ => ∃ (x : Addr) (v : V) (zs : List Str) (m : Int) (b : Bool), vs = [.ref x, v] ∧ CrowdOf H C x zs m ∧ PairArg K H zs v b ∧ Q (.bl b) H
end L2
namespace L2
open PySem PySem.Spec PyProof.Rows
def spCrowdIter (C : Addr) : Sp := fun vs H Q _ => ∃ (x dx l : Addr) (xs : List V) (m : Int), vs = [.ref x] ∧ H x = some (.ins C dx (crowdFs l m)) ∧ H l = some (.lst xs) ∧ ∀ it, H it = none → Q (.ref it) (upd H it (ItO l it 0))
end L2

set_option Elab.async false
set_option linter.all false
set_option maxRecDepth 100000
set_option maxHeartbeats 4000000
/-! A walk whose turns are anything, for comprehensions within comprehensions; the pairs of a crowd. -/
namespace L2
open PySem PySem.Spec PyProof.Rows
theorem nest_it {J : It} {n : Nat} {G : Hp → Prop} {Y : Nat → Hp → V → Hp → Prop} (w : Walk J n G Y) {B : V → Hp → (Hp → Prop) → Prop} {H0 : Hp} {Qd : Hp → Prop} (Pv : Nat → Hp → Prop) (h0 : Pv 0 H0) (hG : ∀ i H, i ≤ n → Pv i H → G H)
    (hs : ∀ i x H H', i < n → Pv i H → Y i H x H' → B x H' (Pv (i + 1))) (hd : ∀ H, Pv n H → Qd H) :
    ∃ W : Nat → Nat → Hp → Prop, (∃ m, W 0 m H0) ∧ ∀ i m H, W i m H → (J.stop i H ∧ Qd H) ∨ (J.go i H ∧ ∃ Nx : Hp → Prop, (∀ H', Nx H' → ∃ m', m' < m ∧ W (i + 1) m' H') ∧ ∀ x H', J.yld i H x H' → B x H' Nx) := by
  refine ⟨fun i m H => m = n - i ∧ i ≤ n ∧ Pv i H, ⟨n, rfl, Nat.zero_le _, h0⟩, fun i m H h => ?_⟩
  obtain ⟨rfl, hi, p⟩ := h
  rcases Nat.lt_or_ge i n with lt | ge
  · refine .inr ⟨w.goes i H lt (hG i H hi p), Pv (i + 1), fun H2 q => ⟨n - (i + 1), by omega, rfl, lt, q⟩, fun x H2 y => hs i x H H2 lt p (w.yields i H x H2 lt (hG i H hi p) y)⟩
  · obtain rfl : i = n := Nat.le_antisymm hi ge
    exact .inl ⟨w.stops H (hG i H hi p), hd H p⟩
def rowOf (zs : List Str) (a : Str) : List (Str × Str) := (zs.filter fun b => a ≠ b).map fun b => (a, b)
def pairsOf (zs : List Str) : List (Str × Str) := zs.flatMap (rowOf zs)
/-- a list of new tuples of two words, apart from D -/
def Tups (D : Addr) (H : Hp) (acc : List V) (ps : List (Str × Str)) : Prop := acc.length = ps.length ∧ ∀ (j : Nat) (y : V) (q : Str × Str), acc[j]? = some y → ps[j]? = some q → ∃ t, y = .ref t ∧ t ≠ D ∧ H t = some (.tup [.str q.1, .str q.2])
theorem Tups.but {D : Addr} {H H2 : Hp} {acc : List V} {ps : List (Str × Str)} (t : Tups D H acc ps) (b : But D H H2) : Tups D H2 acc ps := ⟨t.1, fun j y q h1 h2 => by
  obtain ⟨p, e, n, h⟩ := t.2 j y q h1 h2
  exact ⟨p, e, n, b _ _ n h⟩⟩
theorem Tups.add {D p : Addr} {H : Hp} {acc : List V} {ps : List (Str × Str)} {a b : Str} (t : Tups D H acc ps) (n : p ≠ D) (h : H p = some (.tup [.str a, .str b])) : Tups D H (acc ++ [.ref p]) (ps ++ [(a, b)]) := by
  refine ⟨by rw [List.length_append, List.length_append, t.1]; rfl, fun j y q h1 h2 => ?_⟩
  rcases Nat.lt_trichotomy j acc.length with c | c | c
  · rw [List.getElem?_append_left c] at h1
    rw [List.getElem?_append_left (by rw [← t.1]; exact c)] at h2
    exact t.2 j y q h1 h2
  · subst c
    rw [List.getElem?_append_right (Nat.le_refl _), Nat.sub_self] at h1
    rw [t.1, List.getElem?_append_right (Nat.le_refl _), Nat.sub_self] at h2
    cases h1
    cases h2
    exact ⟨p, rfl, n, h⟩
  · rw [List.getElem?_eq_none (by rw [List.length_append, List.length_singleton]; omega)] at h1
    cases h1
theorem pairs_take (zs : List Str) (i : Nat) (a : Str) (h : zs[i]? = some a) : (zs.take (i + 1)).flatMap (rowOf zs) = (zs.take i).flatMap (rowOf zs) ++ rowOf zs a := by
  rw [List.take_add_one, h, List.flatMap_append]
  simp
theorem row_take (zs : List Str) (a b : Str) (j : Nat) (h : zs[j]? = some b) : ((zs.take (j + 1)).filter fun c => a ≠ c) = ((zs.take j).filter fun c => a ≠ c) ++ (if a ≠ b then [b] else []) := by
  rw [List.take_add_one, h, List.filter_append]
  congr 1
  by_cases e : a = b
  · subst e
    simp
  · simp [e]
def spCrowdPairs (C : Addr) : Sp := fun vs H Q _ => ∃ (x : Addr) (zs : List Str) (m : Int), vs = [.ref x] ∧ CrowdOf H C x zs m ∧ zs.length ≤ 8 ∧ ∀ H2 p ys, Same H H2 → H p = none → H2 p = some (.lst ys) → Tups p H2 ys (pairsOf zs) → Q (.ref p) H2
theorem pairs_len {zs : List Str} (h : zs.length ≤ 8) : ∀ {ys : List Str}, ys.length ≤ 8 → (ys.flatMap (rowOf zs)).length ≤ 64 := fun {ys} hy => by
  have key : ∀ l : List Str, (l.flatMap (rowOf zs)).length ≤ 8 * l.length := fun l => by
    induction l with
    | nil => simp
    | cons a l ih =>
      rw [List.flatMap_cons, List.length_append, List.length_cons]
      have : (rowOf zs a).length ≤ 8 := by
        unfold rowOf
        rw [List.length_map]
        exact Nat.le_trans (List.length_filter_le _ _) h
      omega
  have := key ys
  omega
end L2
namespace L2
open PySem PySem.Spec PyProof.Rows
/-- a list of tuples of two words -/
def Tps (H : Hp) (acc : List V) (ps : List (Str × Str)) : Prop := acc.length = ps.length ∧ ∀ (j : Nat) (y : V) (q : Str × Str), acc[j]? = some y → ps[j]? = some q → ∃ t, y = .ref t ∧ H t = some (.tup [.str q.1, .str q.2])
theorem Tups.tps {D : Addr} {H : Hp} {acc : List V} {ps : List (Str × Str)} (t : Tups D H acc ps) : Tps H acc ps := ⟨t.1, fun j y q h1 h2 => by
  obtain ⟨p, e, _, h⟩ := t.2 j y q h1 h2
  exact ⟨p, e, h⟩⟩
theorem Tps.same {H H2 : Hp} {acc : List V} {ps : List (Str × Str)} (t : Tps H acc ps) (s : Same H H2) : Tps H2 acc ps := ⟨t.1, fun j y q h1 h2 => by
  obtain ⟨p, e, h⟩ := t.2 j y q h1 h2
  exact ⟨p, e, s _ _ h⟩⟩
theorem Tps.append {H : Hp} {a1 a2 : List V} {p1 p2 : List (Str × Str)} (t1 : Tps H a1 p1) (t2 : Tps H a2 p2) : Tps H (a1 ++ a2) (p1 ++ p2) := by
  refine ⟨by rw [List.length_append, List.length_append, t1.1, t2.1], fun j y q h1 h2 => ?_⟩
  rcases Nat.lt_or_ge j a1.length with c | c
  · rw [List.getElem?_append_left c] at h1
    rw [List.getElem?_append_left (by rw [← t1.1]; exact c)] at h2
    exact t1.2 j y q h1 h2
  · rw [List.getElem?_append_right c] at h1
    rw [List.getElem?_append_right (by rw [← t1.1]; exact c), ← t1.1] at h2
    exact t2.2 _ y q h1 h2
def spLawPairs (K : PySem.W.Frag) : Sp := fun vs H Q _ => ∃ (l : Addr) (zs : List Str), vs = [.ref l] ∧ H l = some (.lst (zs.map V.str)) ∧ zs.length ≤ 8 ∧ ∀ H2 p ys, Same H H2 → H p = none → H2 p = some (.lst ys) → Tps H2 ys (pairsOf zs) → Q (.ref p) H2
end L2

set_option Elab.async false
set_option linter.all false
set_option maxRecDepth 100000
set_option maxHeartbeats 4000000
/-! Several clauses «except X as e», all by one name. -/
namespace L2
open PySem PySem.Spec PyProof.Rows
def offEnds (i : Nat) (D : Ends) : Ends := { nx := fun σ H => D.nx (σ.set i none) H, rt := D.rt, bk := fun σ H => D.bk (σ.set i none) H, ct := fun σ H => D.ct (σ.set i none) H }
def wAll (K : PySem.W.Frag) (i : Nat) (Wout : WX) (D : Ends) : List (Value × (Addr → Value → Option Addr → TS)) → WX
  | [] => Wout
  | p :: r => fun cls d σ H => ∃ b, PySem.W.exmOne K cls p.1 = some b ∧ (b = true → ∀ a, H a = none → p.2 a cls d (offEnds i D) (σ.set i (some (.ref a))) H) ∧ (b = false → wAll K i Wout D r cls d σ H)
inductive AllAs (X : Cx) (n : Str) : List ExceptHandler → List (Value × (Addr → Value → Option Addr → TS)) → Prop
  | nil : AllAs X n [] []
  | cons {x : Str} {c : Value} {ts : Addr → Value → Option Addr → TS} {b0 : Stmt} {rest : List Stmt} {p1 p2 : Pos} {hs : List ExceptHandler} {l : List (Value × (Addr → Value → Option Addr → TS))} (names : Names X x c)
      (suite : ∀ (a : Addr) (o : Obj) (cls : Value) (d : Option Addr) (pn : List (Addr × Obj)), Zc cls d o → (∃ vs, o.data = .fields vs) → PSs (X.suite a ((a, o) :: pn)) (b0 :: rest) (ts a cls d)) (more : AllAs X n hs l) :
      AllAs X n (.ExceptHandler (some (.Name x p1)) (some n) (b0 :: rest) p2 :: hs) ((c, ts) :: l)
section
variable {X : Cx} {n : Str} {i : Nat} {Wout : WX} {D : Ends} {pins : List (Addr × Obj)} {σ : St} {H : Hp} {sI : Shared} {a : Addr} {B : Heap} {cls : Value} {d : Option Addr}
theorem no_frame {L : List Env} {h : Heap} {o : Obj} {vs : Array Value} (ff : h.FunFrames B L) (e : h.get? a = some o) (q : o.data = .fields vs) : a ∉ frs L := fun m => by
  obtain ⟨_, o2, e2, no⟩ := ff.mem m
  cases e.symm.trans e2
  exact no _ q
/-- the clauses are looked at, one after another, while the exception is held -/
theorem look_all (hs : X.stack = X.env :: X.outer) (hf : X.env.frame = some X.env.locals) (hN : X.N.Nodup) (hi : X.N[i]? = some n) (hln : X.env.kindOf n = some .local) (tk : Takes X Wout) {s2 : Shared} {h3 : Heap} (J : Inv X pins σ H sI)
    (nb : ∀ b o, sI.heap.get? b = some o → b ∉ frs X.stack → B.get? b = some o) (os : s2.os = sI.os) (ag : AllBare s2.gens) (na : H a = none) (fl : HandSPX.FlyingZ B (X.env :: X.outer) a (Zc cls d) h3) (up : sI.heap.UpToSlots h3)
    {hds : List ExceptHandler} {l : List (Value × (Addr → Value → Option Addr → TS))} (cl : AllAs X n hds l) (w : wAll X.K i Wout D l cls d σ H) :
    wpAny (model X.prog X.w) X.A (handleBy (.ref a) X.env hds) (SP X pins D) X.xe { s2 with heap := h3 } := by
  have onground : ∀ {h : Heap}, HandSPX.FlyingZ B (X.env :: X.outer) a (Zc cls d) h → sI.heap.UpToSlots h → Inv X pins σ H { s2 with heap := h } := fun {h} f u => J.landed nb f.1 u os ag
  obtain ⟨o3, v3, e3, z3, q3⟩ := fl.there
  have nfr := no_frame fl.2.2.1 e3 q3
  have nL : a ≠ X.env.locals := fun z => nfr (List.mem_filterMap.mpr ⟨X.env, List.mem_cons_self, by rw [hf, z]⟩)
  have nF : a ∉ X.fs := fun m => by
    obtain ⟨v, hv, q⟩ := List.mem_filterMap.mp m
    exact nfr (List.mem_filterMap.mpr ⟨v, List.mem_cons_of_mem _ hv, q⟩)
  have J3 := onground fl up
  have T3 := J3.suite e3 q3 na nL nF
  induction cl with
  | nil =>
    obtain ⟨_, _, _, o, vs, T, oT, ts, eo, _, qo, one, _⟩ := id fl
    have out : wpAny (model X.prog X.w) X.A (setFlight (.ref a) X.env.frame) (fun _ s4 => wpAny (model X.prog X.w) X.A (throw (.ref a) : Sem Flow) (SP X pins D) X.xe s4) X.xe { s2 with heap := h3 } := by
      rw [hf]
      refine HandSPX.setFlight_upZ fl fun h4 f4 u4 => wpAny_throw (tk _ _ ⟨a, B, sI, pins, σ, H, cls, d, rfl, J, nb, up.trans u4, ?_, na, os, ag, w⟩)
      rw [hs]
      exact .inr (.inr f4)
    refine wpAny_handleBy_nil ?_
    unfold PySem.passOn
    refine wpAny_bind (wpAny_field eo qo one ?_)
    rw [if_neg (by simp : ¬ ((Value.ref T == Value.none) = true))]
    first | exact wpAny_bind out | exact wpAny_bind (wpAny_pure (wpAny_bind out))
  | @cons x c ts b0 rest p1 p2 hds l names suite more ih =>
    obtain ⟨b, hb, yes, no⟩ := w
    have meets := PySem.W.exm_one (M := model X.prog X.w) J3.kIn (fun A Q E s k q => wpAny_typeOf_ref (k _ _ e3) (by rw [z3.1]; exact q)) hb
    have named : ∀ {Q : Value → Shared → Prop} {E : Value → Shared → Prop}, Q c { s2 with heap := h3 } → wpAny (model X.prog X.w) (X.A.mark (some (.ref a))) (eval (.Name x p1) X.env) Q E { s2 with heap := h3 } := fun {Q E} q => by
      rcases names with ⟨gl, db, hm | ⟨hm, hv, hn⟩⟩
      · exact ld_glob (X := X.suite a ((a, o3) :: (X.pn ++ pins))) T3 gl hm q db
      · exact ld_blt (X := X.suite a ((a, o3) :: (X.pn ++ pins))) T3 gl hm hv q hn db
    refine wpAny_handleBy_cons (codeAny_handlers_test (named (meets.here ?_))) (fun z => by cases z)
    cases b with
    | false => exact ih (no rfl)
    | true =>
      refine codeAny_handlers_suite_as (HandSPX.lands_againZ fl fun h4 f4 u4 => ?_)
      obtain ⟨o4, v4, e4, z4, q4⟩ := f4.there
      have T4 := (onground f4 (up.trans u4)).suite e4 q4 na nL nF
      refine store_ok (X := X.suite a ((a, o4) :: (X.pn ++ pins))) (v := .ref a) T4 hN hi (.inl hln) rfl (fun s5 T5 => ?_) (.inr hln)
      refine wpAny_mono ((suite a o4 cls d (X.pn ++ pins) z4 ⟨_, q4⟩).run [] s5 _ H _ T5 (yes rfl a na)) (fun f s6 h6 => ?_) fun _ _ z => z.elim
      have last : ∀ {τ : St} {G : Hp} {Q : Shared → Prop}, Inv (X.suite a ((a, o4) :: (X.pn ++ pins))) [] τ G s6 → (∀ s7, Inv X pins (τ.set i none) G s7 → Q s7) →
          wpAny (model X.prog X.w) X.A (do bindName X.env n .none; unbindBehindTheSuite X.env n p2) (fun _ s7 => Q s7) X.xe s6 := fun {τ G Q} T6 q => gone_ok (T6.unsuite J.ok) hN hi hln q
      cases f with
      | ret u =>
        obtain ⟨_, _, _, T6, r6, q6⟩ := h6
        exact last T6 fun _ J7 => ⟨_, _, _, J7, r6, q6⟩
      | next => obtain ⟨_, _, T6, q6⟩ := h6; exact last T6 fun _ J7 => ⟨_, _, J7, q6⟩
      | brk => obtain ⟨_, _, T6, q6⟩ := h6; exact last T6 fun _ J7 => ⟨_, _, J7, q6⟩
      | cont => obtain ⟨_, _, T6, q6⟩ := h6; exact last T6 fun _ J7 => ⟨_, _, J7, q6⟩
/-- try: .. / except X as e: .. / except Y as e: .. -/
theorem ps_try_all {body : List Stmt} {h0 : ExceptHandler} {hds : List ExceptHandler} {l : List (Value × (Addr → Value → Option Addr → TS))} {pos : Pos} {tb : WX → TS} (hs : X.stack = X.env :: X.outer) (hf : X.env.frame = some X.env.locals) (hN : X.N.Nodup)
    (hi : X.N[i]? = some n) (hln : X.env.kindOf n = some .local) (tk : Takes X Wout) (hb : ∀ (W : WX) (pn : List (Addr × Obj)) (xe : Value → Shared → Prop), Takes (X.tr pn xe) W → PassesOwn (model X.prog X.w) X.A X.env xe → PSs (X.tr pn xe) body (tb W))
    (cl : AllAs X n (h0 :: hds) l) : PS X (.Try body (h0 :: hds) [] [] pos) (fun D σ H => tb (wAll X.K i Wout D l) D σ H) := by
  constructor
  intro pins s σ H D I h
  have fr : X.A.frames = some (X.env :: X.outer) := I.ok.frames.trans (by rw [hs])
  refine wpAny_Try_except (wpAny_mono ((hb (wAll X.K i Wout D l) (X.pn ++ pins) (fun e s1 => wpAny (model X.prog X.w) X.A (noteFrame e X.env) (fun _ s2 => wpAny (model X.prog X.w) X.A (setFlight e none)
    (fun _ s3 => wpAny (model X.prog X.w) X.A (handleBy e X.env (h0 :: hds)) (SP X pins D) X.xe s3) X.xe s2) X.xe s1) (fun u s2 z => ?_) PassesOwn.looking).run [] s σ H D (I.toTry _) h) (fun f s1 q => ?_) fun _ _ z => z)
  · obtain ⟨a, B, sI, ps, τ, G, cls, d, rfl, J, nb, up, sky, na, os, ag, w⟩ := z
    rw [show (X.tr (X.pn ++ pins) _).stack = X.env :: X.outer from hs] at sky
    exact Sky.land Zc.steady fr hf sky fun h3 f3 u3 => look_all hs hf hN hi hln tk (J.ofTry I.ok) nb os ag na f3 (up.trans u3) cl w
  · cases f with
    | next => obtain ⟨τ, G, J, q⟩ := q; exact wpAny_execs_nil ⟨τ, G, J.ofTry I.ok, q⟩
    | ret u => obtain ⟨v, τ, G, J, r, q⟩ := q; exact ⟨v, τ, G, J.ofTry I.ok, r, q⟩
    | brk => obtain ⟨τ, G, J, q⟩ := q; exact ⟨τ, G, J.ofTry I.ok, q⟩
    | cont => obtain ⟨τ, G, J, q⟩ := q; exact ⟨τ, G, J.ofTry I.ok, q⟩
end
end L2
namespace L2
open PySem PySem.Spec PyProof.Rows
theorem takes_len {X : Cx} {W : WX} (t : Takes X W) : Takes X (fun c d σ H => σ.length = X.N.length → W c d σ H) := fun u s2 x => by
  obtain ⟨a, B, sI, ps, σ, H, cls, d, e, I, nb, up, sky, na, os, ag, w⟩ := x
  exact t u s2 ⟨a, B, sI, ps, σ, H, cls, d, e, I, nb, up, sky, na, os, ag, w I.len⟩
/-- what a clause «except C as e: return [w, repr(e.f)]» asks -/
def askOne (K : PySem.W.Frag) (C : Addr) (f w : Str) (cls : Value) (d : Option Addr) (H : Hp) (Q : VK) : Prop := cls = .ref C ∧ ∃ (dx : Addr) (v : V) (D : PyData), d = some dx ∧ H dx = some (.xd [(f, v)]) ∧ Dp K H v D ∧ D.hasDict = false ∧ D.showable = true ∧ D.depth ≤ 100 ∧
  D.shown.length ≤ sizeLine ∧ ∀ G p, Same H G → H p = none → G p = some (.lst [.str w, .str D.shown]) → Q (.ref p) G
def asks (K : PySem.W.Frag) : List (Addr × Str × Str) → Value → Option Addr → Hp → VK → Prop
  | [], _, _, _, _ => False
  | p :: r, cls, d, H, Q => ∃ b, PySem.W.exmOne K cls (.ref p.1) = some b ∧ (b = true → askOne K p.1 p.2.1 p.2.2 cls d H Q) ∧ (b = false → asks K r cls d H Q)
/-- try: call() / except C as e: return [w, repr(e.f)] .. / return ["none"] -/
def TTref (K : PySem.W.Frag) (l : List (Addr × Str × Str)) : (XK → Hp → VK → Prop) → Hp → VK → Prop := fun tl H Q => tl (fun cls d G => asks K l cls d G Q) H (fun _ G => ([V.str "none"] : List V).length ≤ sizeLine ∧ ∀ p, G p = none → Q (.ref p) (upd G p (.lst [.str "none"])))
structure Ef (K : PySem.W.Frag) (mg : Str → Option Value) (name f : Str) (C : Addr) : Prop where
  g : mg name = some (.ref C)
  xf : XfC K C
  no : PySem.W.findIn K (.ref C) f = some none
end L2
namespace L2
open PySem PySem.Spec PyProof.Rows
def tAsk (K : PySem.W.Frag) (C : Addr) (f w : Str) : Addr → Value → Option Addr → TS := fun a cls d => tRet (tLst (tCons (tC (.str w)) (tCons (tCB (rReprD K) (tCons (tXf a cls d C f (tVar 1)) tNil)) tNil)))
theorem ask_ret {K : PySem.W.Frag} {C a : Addr} {f w : Str} {cls : Value} {d : Option Addr} {H : Hp} {Q : VK} {D : Ends} {σ : St} (len : σ.length = 2) (hQ : D.rt = Q) (h : askOne K C f w cls d H Q) : tAsk K C f w a cls d (offEnds 1 D) (σ.set 1 (some (.ref a))) H := by
  obtain ⟨rfl, dx, v, dd, rfl, hx, dp, nd, sh, de, sz, q⟩ := h
  refine ⟨.ref a, by rw [List.getElem?_set_self (by omega)], rfl, rfl, dx, _, v, rfl, hx, by simp, v, dd, rfl, dp, nd, sh, de, sz, (by show 2 ≤ sizeLine; decide), fun p np => ?_⟩
  show D.rt _ _
  rw [hQ]
  exact q _ p (same_new np) np upd_same
theorem asks_all {K : PySem.W.Frag} {cls : Value} {d : Option Addr} {H : Hp} {Q : VK} {D : Ends} {σ : St} (len : σ.length = 2) (hQ : D.rt = Q) : ∀ {l : List (Addr × Str × Str)}, asks K l cls d H Q →
    wAll K 1 (fun _ _ _ _ => False) D (l.map fun p => (Value.ref p.1, tAsk K p.1 p.2.1 p.2.2)) cls d σ H
  | [], h => h
  | p :: l, h => by
    obtain ⟨b, e, yes, no⟩ := h
    exact ⟨b, e, fun hb a na => ask_ret len hQ (yes hb), fun hb => asks_all len hQ (no hb)⟩
end L2

set_option Elab.async false
set_option linter.all false
set_option maxRecDepth 100000
set_option maxHeartbeats 4000000
/-! list(o), o an instance whose own __iter__ gives a list's iterator and that has an own __len__. -/
namespace L2
open PySem PySem.Spec PyProof.Rows
section
variable {prog : Program} {w : World} {A : Around} {E' : Value → Shared → Prop} {s : Shared} {it l : Addr} {i : Nat} {items : Array Value}
theorem next_one {x : Value} {Q : Option Value → Shared → Prop} (ho : s.heap.get? it = some (GNX.itObj l i)) (hl : s.heap.IsList l items) (hx : items[i]? = some x)
    (hQ : ∀ h2, h2.get? it = some (GNX.itObj l (i + 1)) → Heap.SameBut it s.heap h2 → Q (some x) { s with heap := h2 }) : wpAny (model prog w) A (pyNext (.ref it)) Q E' s := by
  have ty : s.TypeIs (.ref it) "list_iterator" := ⟨_, ho, rfl⟩
  unfold pyNext
  refine wpAny_bind (wpAny_attempt (wpAny_callSpecial?_slot (name := Str.ofString "__next__") ty slot_listiter_next (wpAny_call_entry slot_listiter_next ty entry_listiter_next ?_ (args_listiter_next _))))
  refine wpAny_mono (GNX.next_item (Q := fun v s2 => v = x ∧ Q (some x) s2) ho hl hx fun h2 e sb => ⟨rfl, hQ h2 e sb⟩) (fun f s2 q => ?_) fun _ _ z => z
  obtain ⟨v, rfl, rfl, q⟩ := q
  exact ⟨v, rfl, wpAny_pure q⟩
theorem next_over {Q : Option Value → Shared → Prop} (hh : A.handled = none) (ho : s.heap.get? it = some (GNX.itObj l i)) (hl : s.heap.IsList l items) (hx : items[i]? = none)
    (hQ : ∀ h1 h2, h1.get? it = some (GNX.itEnd i) → Heap.SameBut it s.heap h1 → (∀ b o, h1.get? b = some o → h2.get? b = some o) → Q none { s with heap := h2 }) : wpAny (model prog w) A (pyNext (.ref it)) Q E' s := by
  have ty : s.TypeIs (.ref it) "list_iterator" := ⟨_, ho, rfl⟩
  unfold pyNext
  refine wpAny_bind (wpAny_attempt (wpAny_callSpecial?_slot (name := Str.ofString "__next__") ty slot_listiter_next (wpAny_call_entry slot_listiter_next ty entry_listiter_next ?_ (args_listiter_next _))))
  refine wpAny_mono (GNX.next_end (Q := fun _ _ => False) hh ho hl hx fun h1 h2 e vs e1 sb k _ he _ => ?_) (fun f s2 q => ?_) fun _ _ z => z
  · refine wpAny_bind (wpAny_isInstance (T := "StopIteration") (b := true) ⟨_, he, rfl⟩ isSubtype_stop ?_)
    exact wpAny_pure (hQ h1 h2 e1 sb k)
  · obtain ⟨_, _, z⟩ := q
    exact z.elim
end
section
variable {X : Cx} {pins : List (Addr × Obj)} {σ : St} {H : Hp} {s : Shared} {A A1 : Around} {CX : CXT} {k : Nat} {f : Addr} {fd : FuncData} {ps : List Str} {sp : Sp} {E : XK}
theorem run_sub (sb : Sub X k A) (F : FnOk X.prog X.w X.K X.mg X.base CX k f fd ps sp) (hb : Binds X.K fd ps []) (hx : Passes CX X E) {Q : VK} {us : List Value} {vs : List V} (I : Inv X pins σ H s) (r : Vals vs us) (h : sp vs H Q E) :
    wpAny (model X.prog X.w) A (call (.ref f) us) (EP X pins σ Q) X.xe s := by
  have len : us.length = ps.length := r.length.symm.trans (F.len _ _ _ _ h)
  have b := hb s us I.kIn (by rw [List.append_nil]; exact len)
  rw [List.append_nil] at b
  have e0 : Env0 X.prog X.w X.K X.mg X.base A X.stack s H := { I.env0 with frames := by rw [sb.fr]; exact I.env0.frames }
  refine wpAny_call (codeAny_mono (F.run A X.stack s H ⟨us, []⟩ us vs Q E sb.room e0 b r h) fun z s2 q => ?_)
  rcases z with e | fl
  · exact hx pins σ H s e s2 I q
  · rcases fl with _ | _ | _ | u <;> first | exact False.elim q | exact I.after q
/-- the list at q takes the rest of the list at l -/
theorem it_fill {q it l : Addr} {xs : List V} {H0 : Hp} {Rs : Result → Shared → Prop} (hh : A1.in1.handled = none) (hl : H0 l = some (.lst xs)) (lq : l ≠ q) (li : l ≠ it) (iq : it ≠ q) (hsz : xs.length < sizeLine)
    (fin : ∀ H2 s2, Inv X pins σ H2 s2 → H2 q = some (.lst xs) → (∀ b o, b ≠ q → b ≠ it → H0 b = some o → H2 b = some o) → Rs (.ok (.ret .none)) s2) :
    ∀ (k i : Nat) (H : Hp) (s : Shared), i + k = xs.length → Inv X pins σ H s → H q = some (.lst (xs.take i)) → H it = some (ItO l it i) → (∀ b o, b ≠ q → b ≠ it → H0 b = some o → H b = some o) →
      codeAny (model X.prog X.w) A1 (.builtin "list.extend.loop" ⟨[.ref q, .ref it, .none], []⟩) Rs s := by
  intro k
  induction k with
  | zero =>
    intro i H s hi I hq hit hk
    have ei : i = xs.length := hi
    subst ei
    rw [List.take_length] at hq
    refine codeAny_builtin PySem.F.entry_extend_loop ?_
    rw [Around.under_plainId PySem.F.plain_extend_loop _]
    obtain ⟨its, rv, pl, _⟩ := I.list (SqL.of (hk _ _ lq li hl))
    have mu : Mut (H it) := by rw [hit]; exact True.intro
    have z : its.toArray[xs.length]? = none := by rw [List.getElem?_toArray]; exact List.getElem?_eq_none (Nat.le_of_eq rv.length.symm)
    show wpAny _ A1.in1 (pyNext (.ref it) >>= _) _ _ s
    refine wpAny_bind (next_over hh (itO_get I hit) pl.isList z fun h1 h2 e1 sb kp => ?_)
    have I1 : Inv X pins σ (upd H it (ItE it xs.length)) { s with heap := h1 } := I.write (x := it) (e := it) (t' := s.toks) mu (.inl rfl) (fun b o nb e => (sb.2 b nb).trans e) ⟨_, e1⟩ (itE_ok e1)
    refine wpAny_pure (fin (upd H it (ItE it xs.length)) { s with heap := h2 } (I1.kept (t' := s.toks) kp) ?_ fun b o b1 b2 e => ?_)
    · rw [upd_ne (Ne.symm iq)]
      exact hq
    · rw [upd_ne b2]
      exact hk b o b1 b2 e
  | succ k ih =>
    intro i H s hi I hq hit hk
    have lt : i < xs.length := by omega
    refine codeAny_builtin PySem.F.entry_extend_loop ?_
    rw [Around.under_plainId PySem.F.plain_extend_loop _]
    obtain ⟨its, rv, pl, _⟩ := I.list (SqL.of (hk _ _ lq li hl))
    have mu : Mut (H it) := by rw [hit]; exact True.intro
    obtain ⟨u, hu, ru⟩ := rv.get (List.getElem?_eq_getElem lt)
    show wpAny _ A1.in1 (pyNext (.ref it) >>= _) _ _ s
    refine wpAny_bind (next_one (x := u) (itO_get I hit) pl.isList (by rw [List.getElem?_toArray]; exact hu) fun h2 e2 sb => ?_)
    have I1 : Inv X pins σ (upd H it (ItO l it (i + 1))) { s with heap := h2 } := I.write (x := it) (e := it) (t' := s.toks) mu (.inl rfl) (fun b o nb e => (sb.2 b nb).trans e) ⟨_, e2⟩ (itO_ok e2)
    have hq1 : upd H it (ItO l it (i + 1)) q = some (.lst (xs.take i)) := by rw [upd_ne (Ne.symm iq)]; exact hq
    obtain ⟨_, its2, c2, r2, len2, e3⟩ := I1.lstM hq1
    have l2 : its2.length = i := by rw [← r2.length, List.length_take]; omega
    refine wpAny_bind (m := updateSeq q (·.push u)) (wpAny_updateSeq e3 rfl ?_ (by rw [List.size_toArray]; omega) (by show (its2.toArray.push u).size ≤ sizeLine + 1; rw [Array.size_push, List.size_toArray]; omega))
    refine wpAny_pure ⟨plainId_quiet PySem.F.plain_extend_loop _, ih (i + 1) _ _ (by omega) (I1.lset (its' := its2 ++ [u]) (ys := xs.take i ++ [xs[i]]) (t' := s.toks) hq1 e3 (by simp) (r2.append (.cons ru .nil)) ?_) ?_ ?_ fun b o b1 b2 e => ?_⟩
    · rw [List.length_append, List.length_singleton, List.length_take]
      omega
    · rw [upd_same, List.take_add_one, List.getElem?_eq_getElem lt]
      rfl
    · rw [upd_ne iq, upd_same]
    · rw [upd_ne b1, upd_ne b2]
      exact hk b o b1 b2 e
end
end L2

set_option Elab.async false
set_option linter.all false
set_option maxRecDepth 100000
set_option maxHeartbeats 4000000
namespace L2
open PySem PySem.Spec PyProof.Rows
section
variable {X : Cx} {pins : List (Addr × Obj)} {σ : St} {H : Hp} {s : Shared} {A A1 : Around}
variable {kL : Nat} {fl C a dx : Addr} {fs : List (Str × V)} {fdL : FuncData} {psL : List Str} {spL : Sp} {EL : XK}
theorem run_sub0 {k : Nat} {f : Addr} {fd : FuncData} {ps : List Str} {sp : Sp} {E : XK} (sb : Sub X k A) (F : FnOk X.prog X.w X.K X.mg X.base CX0 k f fd ps sp) (hb : Binds X.K fd ps []) {Q : VK} {us : List Value} {vs : List V} (I : Inv X pins σ H s) (r : Vals vs us)
    (h : sp vs H Q E) : wpAny (model X.prog X.w) A (call (.ref f) us) (EP X pins σ Q) (fun _ _ => False) s := by
  have len : us.length = ps.length := r.length.symm.trans (F.len _ _ _ _ h)
  have b := hb s us I.kIn (by rw [List.append_nil]; exact len)
  rw [List.append_nil] at b
  have e0 : Env0 X.prog X.w X.K X.mg X.base A X.stack s H := { I.env0 with frames := by rw [sb.fr]; exact I.env0.frames }
  refine wpAny_call (codeAny_mono (F.run A X.stack s H ⟨us, []⟩ us vs Q E sb.room e0 b r h) fun z s2 q => ?_)
  rcases z with e | fl
  · exact q
  · rcases fl with _ | _ | _ | u <;> first | exact False.elim q | exact I.after q
theorem hint_own (sb : Sub X (kL + 1) A) (hs : PySem.W.findIn X.K (.ref C) "__len__" = some (some (.ref fl))) (hf : PySem.W.isFn X.K (.ref fl) = true) (FL : FnOk X.prog X.w X.K X.mg X.base CX0 kL fl fdL psL spL) (bL : Binds X.K fdL psL [])
    (I : Inv X pins σ H s) (ha : H a = some (.ins C dx fs)) (hsp : spL [.ref a] H (fun v H2 => ∃ n : Nat, v = .int n ∧ n ≤ 100000 ∧ H2 = H) EL) {Q : Bool → Shared → Prop} {E' : Value → Shared → Prop} (q : ∀ b s2, Inv X pins σ H s2 → Q b s2) :
    wpAny (model X.prog X.w) A (Builtin.List.listLengthHint (.ref a)) Q E' s := by
  obtain ⟨mA, O, _, _, _, _⟩ := ins_get I.hok ha
  obtain ⟨od, J, _⟩ := O.look
  obtain ⟨m, hF⟩ := I.fr
  have said : wpAny (model X.prog X.w) A (call (.builtin "len") [.ref a]) (fun r s2 => ∃ (n : Nat) (t : Tok), r = .int n t ∧ n ≤ 100000 ∧ Inv X pins σ H s2) (fun _ _ => False) s := by
    refine PySem.W.len_K hF I.ok.mod.kin J hs hf (wpAny_mono (run_sub0 (vs := [.ref a]) (us := [.ref a]) (Sub.in1 sb) FL bL I (.cons rfl .nil) hsp) (fun r s2 z => ?_) fun _ _ z => z)
    obtain ⟨w2, H2, I2, rw2, n, rfl, hn, rfl⟩ := z
    obtain ⟨t, rfl⟩ := rw2
    exact ⟨⟨by omega, by omega⟩, n, _, rfl, hn, I2.tok _⟩
  unfold Builtin.List.listLengthHint
  refine wpAny_bind (wpAny_bind (J.type.here ((PySem.W.looks_findIn I.kIn hs).here ?_)))
  refine PySem.W.KFB.if_not rfl ?_
  refine wpAny_ite_split (fun _ => ?_) (fun z => absurd rfl z)
  refine wpAny_bind (wpAny_rule ?_)
  refine wpAny_bind (wpAny_attempt (wpAny_mono said (fun r s2 z => ?_) fun _ _ z => z.elim))
  obtain ⟨n, t, rfl, hn, I2⟩ := z
  refine wpAny_bind (wpAny_of_eq (a := some (n : Int)) rfl ?_)
  refine PySem.W.KFB.if_not ?_ (wpAny_pure (q _ _ I2))
  exact notLongL (by show n ≤ sizeLine; rw [sizeLine_eq]; omega)
theorem upd_self {q : Addr} {o : HO} (h : H q = some o) : upd H q o = H := by
  funext b
  by_cases e : b = q
  · rw [e, upd_same, h]
  · rw [upd_ne e]
/-- room is made in an empty list -/
theorem touch_own {q : Addr} {E' : Value → Shared → Prop} {Q : Unit → Shared → Prop} (I : Inv X pins σ H s) (hq : H q = some (.lst [])) (h : ∀ s2, Inv X pins σ H s2 → Q () s2) :
    wpAny (model X.prog X.w) A (updateSeq q (·.push .none) >>= fun _ => updateSeq q (·.pop)) Q E' s := by
  obtain ⟨_, its, c, r, _, e⟩ := I.lstM hq
  cases r
  have one : 1 ≤ sizeLine := by rw [sizeLine_eq]; decide
  have I1 := I.lset (f := (·.push Value.none)) (its' := [Value.none]) (ys := [.non]) (t' := s.toks) hq e (by simp) (.cons rfl .nil) one
  refine wpAny_bind (wpAny_updateSeq e rfl ?_)
  obtain ⟨_, its2, c2, r2, _, e2⟩ := I1.lstM upd_same
  obtain ⟨v, rfl, _⟩ := vals1 r2
  have I2 := I1.lset (f := (·.pop)) (its := [v]) (its' := []) (ys := []) (t' := s.toks) upd_same e2 (by rfl) .nil (Nat.zero_le _)
  rw [upd_upd, upd_self hq] at I2
  exact wpAny_updateSeq e2 rfl (h _ I2) one (Nat.zero_le _)
variable {kI : Nat} {fi l q : Addr} {fdI : FuncData} {psI : List Str} {spI : Sp} {EI : XK} {xs : List V} {Rs : Result → Shared → Prop}
theorem extend_own (sbL : Sub X (kL + 1) A1.in1) (sbI : Sub X kI A1.in1) (hs : PySem.W.findIn X.K (.ref C) "__len__" = some (some (.ref fl))) (hf : PySem.W.isFn X.K (.ref fl) = true) (FL : FnOk X.prog X.w X.K X.mg X.base CX0 kL fl fdL psL spL) (bL : Binds X.K fdL psL [])
    (hi : PySem.W.findIn X.K (.ref C) "__iter__" = some (some (.ref fi))) (hfi : PySem.W.isFn X.K (.ref fi) = true) (FI : FnOk X.prog X.w X.K X.mg X.base CX0 kI fi fdI psI spI) (bI : Binds X.K fdI psI [])
    (hh : A1.in1.handled = none) (I : Inv X pins σ H s) (ha : H a = some (.ins C dx fs)) (hq : H q = some (.lst [])) (hl : H l = some (.lst xs)) (lq : l ≠ q) (hsz : xs.length < sizeLine)
    (qI : spI [.ref a] H (fun v H2 => ∃ it, v = .ref it ∧ H it = none ∧ H2 = upd H it (ItO l it 0)) EI)
    (qL : ∀ H2, H2 a = some (.ins C dx fs) → H2 l = some (.lst xs) → (∀ b o, H b = some o → H2 b = some o) → spL [.ref a] H2 (fun v H3 => ∃ n : Nat, v = .int n ∧ n ≤ 100000 ∧ H3 = H2) EL)
    (fin : ∀ H2 s2, Inv X pins σ H2 s2 → H2 q = some (.lst xs) → (∀ b o, b ≠ q → H b = some o → H2 b = some o) → Rs (.ok (.ret .none)) s2) :
    wpAny (model X.prog X.w) A1.in1 (Builtin.List.listExtendWith (.ref q) (.ref a) .none) (fun f s2 => match f with | .done r => Rs (.ok r) s2 | .again c => c.quiet = true ∧ codeAny (model X.prog X.w) A1 c Rs s2) (fun e s2 => Rs (.error e) s2) s := by
  have qa : q ≠ a := ne_of hq ha fun z => by cases z
  obtain ⟨mA, O, _, _, _, _⟩ := ins_get I.hok ha
  obtain ⟨od, J, _⟩ := O.look
  obtain ⟨m, hF⟩ := I.fr
  unfold Builtin.List.listExtendWith
  refine wpAny_bind (J.type.here ?_)
  have g1 : Builtin.List.listSameRef (.ref q) (.ref a) = false := by simp [Builtin.List.listSameRef, qa]
  have g2 : (Value.ref C == Value.type "list" || Value.ref C == Value.type "tuple") = false := rfl
  refine PySem.W.KFB.if_not (by rw [g1]; exact g2) ?_
  refine wpAny_bind (PySem.W.owit_iter hF I.ok.mod.kin J hi hfi (wpAny_mono (run_sub0 (vs := [.ref a]) (us := [.ref a]) sbI FI bI I (.cons rfl .nil) qI) (fun r s2 z => ?_) fun _ _ z => z.elim))
  obtain ⟨w2, H2, I2, rw2, it, rfl, nit, rfl⟩ := z
  cases rw2
  have hit : upd H it (ItO l it 0) it = some (ItO l it 0) := upd_same
  have old : ∀ b o, H b = some o → upd H it (ItO l it 0) b = some o := fun b o e => by
    rw [upd_ne (ne_of_none e nit)]
    exact e
  have ty : s2.TypeIs (.ref it) "list_iterator" := ⟨_, itO_get I2 hit, rfl⟩
  unfold PySem.W.OwitIt
  refine wpAny_specialOf (name := Str.ofString "__next__") ty slot_listiter_next.lookup ?_
  refine wpAny_bind (wpAny_holding (hint_own sbL hs hf FL bL I2 (old _ _ ha) (qL _ (old _ _ ha) (old _ _ hl) old) fun b s3 I3 => ?_))
  · have loop : ∀ s4, Inv X pins σ (upd H it (ItO l it 0)) s4 → codeAny (model X.prog X.w) A1 (.builtin "list.extend.loop" ⟨[.ref q, .ref it, .none], []⟩) Rs s4 := fun s4 I4 =>
      it_fill (H0 := H) hh hl lq (ne_of_none hl nit) (Ne.symm (ne_of_none hq nit)) hsz (fun H5 s5 I5 h5 k5 => fin H5 s5 I5 h5 fun b o nb e => k5 b o nb (ne_of_none e nit) e) xs.length 0 _ s4 (Nat.zero_add _) I4 (old _ _ hq) hit fun b o _ _ e => old b o e
    refine wpAny_ite_split (fun _ => ?_) (fun _ => wpAny_pure ⟨plainId_quiet PySem.F.plain_extend_loop _, loop _ I3⟩)
    refine wpAny_bind (wpAny_rule ?_)
    refine wpAny_bind (touch_own I3 (old _ _ hq) fun s4 I4 => ?_)
    exact wpAny_pure ⟨plainId_quiet PySem.F.plain_extend_loop _, loop _ I4⟩
/-- list(o) -/
def rListOwn (C : Addr) (spI spL : Sp) (EI EL : XK) : List V → Hp → VK → Prop := fun vs H Q => ∃ (a dx l : Addr) (fs : List (Str × V)) (xs : List V), vs = [.ref a] ∧ H a = some (.ins C dx fs) ∧ H l = some (.lst xs) ∧ xs.length < sizeLine ∧
  (∀ G, (∀ b o, H b = some o → G b = some o) → spI [.ref a] G (fun v H2 => ∃ it, v = .ref it ∧ G it = none ∧ H2 = upd G it (ItO l it 0)) EI) ∧
  (∀ G, (∀ b o, H b = some o → G b = some o) → spL [.ref a] G (fun v H3 => ∃ n : Nat, v = .int n ∧ n ≤ 100000 ∧ H3 = G) EL) ∧
  ∀ G q, Same H G → H q = none → G q = some (.lst xs) → Q (.ref q) G
theorem call_listIt (hs : PySem.W.findIn X.K (.ref C) "__len__" = some (some (.ref fl))) (hf : PySem.W.isFn X.K (.ref fl) = true) (FL : FnOk X.prog X.w X.K X.mg X.base CX0 kL fl fdL psL spL) (bL : Binds X.K fdL psL [])
    (hi : PySem.W.findIn X.K (.ref C) "__iter__" = some (some (.ref fi))) (hfi : PySem.W.isFn X.K (.ref fi) = true) (FI : FnOk X.prog X.w X.K X.mg X.base CX0 kI fi fdI psI spI) (bI : Binds X.K fdI psI [])
    (hrL : Room (kL + 3) X.A) (hrI : Room (kI + 2) X.A) : CallR X (.type "list") (rListOwn C spI spL EI EL) := by
  intro pins s σ H vs us Q I rv h
  obtain ⟨a, dx, l, fs, xs, rfl, ha, hl, hz, qI, qL, q⟩ := h
  obtain ⟨u, rfl, ru⟩ := vals1 rv
  cases ru
  have sbL : Sub X (kL + 1) X.A.in1.in1 := Sub.in1 (Sub.in1 ⟨hrL, rfl⟩)
  have sbI : Sub X kI X.A.in1.in1 := Sub.in1 (Sub.in1 ⟨hrI, rfl⟩)
  refine callType_codes (Q₁ := fun o s1 => o = .ref s.heap.objs.size ∧ s1 = { s with heap := s.heap.push { cls := .type "list", data := .seq #[] } }) PySem.F.called_list (PySem.F.typeCall_list_1 _) PySem.F.entry_list_init (code_list_new _ ⟨rfl, rfl⟩) fun o s1 h1 => ?_
  obtain ⟨rfl, rfl⟩ := h1
  have there : (s.heap.push { cls := .type "list", data := .seq #[] }).get? s.heap.objs.size = some { cls := .type "list", data := .seq #[] } := Heap.get?_push_size _ rfl
  refine ⟨⟨_, there, rfl⟩, PySem.F.args_list_init_2 _ _, ?_⟩
  have nq : H s.heap.objs.size = none := I.hok.fresh (Nat.le_refl _)
  have old : ∀ b o, H b = some o → upd H s.heap.objs.size (.lst []) b = some o := same_new nq
  have I1 : Inv X pins σ (upd H s.heap.objs.size (.lst [])) { s with heap := s.heap.push { cls := .type "list", data := .seq #[] } } := I.lnew (its := []) (t' := s.toks) .nil (Nat.zero_le _)
  show wpAny _ _ (Builtin.List.listItems (.ref s.heap.objs.size) >>= fun z => updateSeq s.heap.objs.size (fun _ => #[]) >>= fun _ => letGo z.toList.reverse >>= fun _ => Builtin.List.listExtendWith (.ref s.heap.objs.size) (.ref a) .none) _ _ _
  refine wpAny_bind (m := Builtin.List.listItems _) ?_
  unfold Builtin.List.listItems
  refine wpAny_bind (wpAny_seqItems there rfl (wpAny_pure (wpAny_bind (wpAny_updateSeq there rfl (wpAny_bind (wpAny_letGo ?_))))))
  have I2 := I1.lset (f := fun _ => #[]) (its := []) (its' := []) (ys := []) (t' := s.toks) upd_same there rfl .nil (Nat.zero_le _)
  rw [upd_upd] at I2
  exact extend_own (A1 := X.A.in1) (l := l) (xs := xs) (spI := spI) (spL := spL) (EI := EI) (EL := EL) (Rs := wants (fun r s2 => r = .none ∧ EP X pins σ Q (.ref s.heap.objs.size) s2) X.xe) sbL sbI hs hf FL bL hi hfi FI bI hrL.hd I2 (old _ _ ha) upd_same (old _ _ hl) (ne_of_none hl nq) hz
    (qI _ old) (fun G h1 h2 h3 => qL G fun b o e => h3 b o (old b o e)) fun G s2 J hq k => ⟨rfl, .ref s.heap.objs.size, G, J, rfl, q G _ (fun b o e => k b o (ne_of_none e nq) (old b o e)) nq hq⟩
end
end L2

set_option Elab.async false
set_option linter.all false
set_option maxRecDepth 100000
set_option maxHeartbeats 4000000
/-! The end of a law whose defs make lambdas and ask that no guarded built-in runs beneath. -/
namespace L2
open PySem PySem.Spec PyProof.Rows
/-- the abstract heap of the script and of tables of code objects -/
theorem script_heapT {P : Program} {w : World} {K : PySem.W.Frag} {h : Heap} {a : Addr} {vs : List Value} {ns : List Int} {T : List Addr} (X : K.In h) (ha : h.get? a = some { cls := .type "list", data := .seq vs.toArray }) (hi : IntsAre vs ns) (hl : ns.length ≤ sizeLine)
    (hT : ∀ p ∈ T, h.get? p = some { cls := .none, data := .fields #[] }) :
    ∃ H : Hp, SqL K H a (ns.map V.int) ∧ HOk P w H h ∧ (∀ p ∈ T, H p = some (.tbl #[])) ∧ ∀ b, H b = none ∨ (b ∈ T ∧ H b = some (.tbl #[])) ∨ (b = a ∧ K.lookup a = none ∧ ∃ o xs, H b = some (.frz o (.lst xs))) := by
  obtain ⟨H0, hS, hok, hA⟩ := script_heap (P := P) (w := w) X ha hi hl
  have aT : a ∉ T := fun z => by
    have e := (hT a z).symm.trans ha
    cases e
  have out : ∀ b, b ∉ T → (if b ∈ T then some (HO.tbl #[]) else H0 b) = H0 b := fun b n => if_neg n
  refine ⟨fun b => if b ∈ T then some (.tbl #[]) else H0 b, ?_, fun b u z => ?_, fun p hp => if_pos hp, fun b => ?_⟩
  · unfold SqL Rd at hS ⊢
    simp only [if_neg aT]
    exact hS
  · by_cases hb : b ∈ T
    · cases (if_pos hb).symm.trans z
      exact hT b hb
    · have z2 := (if_neg hb).symm.trans z
      obtain ⟨_, _, o, xs, rfl⟩ := hA b u z2
      exact hok b _ z2
  · by_cases hb : b ∈ T
    · exact .inr (.inl ⟨hb, if_pos hb⟩)
    · dsimp only
      rw [if_neg hb]
      cases q : H0 b with
      | none => exact .inl rfl
      | some u =>
        obtain ⟨e1, e2, o, xs, rfl⟩ := hA b u q
        exact .inr (.inr ⟨e1, e2, o, xs, rfl⟩)
theorem law_callGT {P : Program} {w : World} {K : PySem.W.Frag} {mg mb : Str → Option Value} {k : Nat} {fa a : Addr} {cs : List (Addr × Addr)} {fd : FuncData} {x : Str} {sp : Sp} {s1 : Shared} {vs : List Value} {ns : List Int} (KX : K.In s1.heap) (hns : s1.heap.Ns mainGlobals mg)
    (hb : s1.heap.Ns builtinsNs mb ∧ ∀ y : Str, y ≠ "__name__" → mb y = bootBuiltins y) (hlim : s1.heap.NoLimit) (hg : s1.gens = #[]) (hT : ∀ p ∈ cs, s1.heap.get? p.2 = some { cls := .none, data := .fields #[] }) (nT : ∀ p ∈ cs, K.lookup p.2 = none) (hC : ∀ p ∈ cs, PySem.W.CodeHd s1.heap p.1 p.2)
    (hm : ∃ (bm : Addr) (ob : Obj), mg "__builtins__" = some (.ref bm) ∧ bm ≠ builtinsNs ∧ s1.heap.get? bm = some ob ∧ ob.cls = .type "module" ∧ ob.dict = some builtinsNs ∧ ob.data = .plain) (ha : s1.heap.get? a = some { cls := .type "list", data := .seq vs.toArray }) (hi : IntsAre vs ns) (hl : ns.length ≤ sizeLine)
    (hr : Room k callerA) (F : ∀ b0 : Heap, K.In b0 → b0.Ns mainGlobals mg → (∀ p ∈ cs, LamX.TabB b0 mg p.1 p.2) → FnG P w K mg b0 CX0 k fa fd [x] sp) (bind : ∀ (s : Shared) (u : Value), BindsTo s fd ⟨[u], []⟩ [(x, u)])
    (hsp : ∀ H : Hp, (∀ p ∈ cs, H p.2 = some (.tbl #[])) → SqL K H a (ns.map V.int) → sp [.ref a] H (fun v _ => v = .bl true) fun _ _ _ => False) (noX : ∀ H e s', CX0 [] H s1 (fun _ _ _ => False) e s' → False) :
    codeAny (model P w) callerA (.call (.ref fa) ⟨[.ref a], []⟩) (fun r s' => r = .ok (.ret (.bool true)) ∧ OldK s1.heap s'.heap ∧ s'.os = s1.os ∧ AllBare s'.gens) s1 := by
  have inT : ∀ {b}, b ∈ cs.map (·.2) → s1.heap.get? b = some { cls := .none, data := .fields #[] } := fun {b} m => by
    obtain ⟨p, hp, e⟩ := List.mem_map.mp m
    exact e ▸ hT p hp
  obtain ⟨H, hS, hok, hH, tell⟩ := script_heapT (P := P) (w := w) (T := cs.map (·.2)) KX ha hi hl fun _ m => inT m
  have tabs : ∀ p ∈ cs, H p.2 = some (.tbl #[]) := fun p hp => hH _ (List.mem_map.mpr ⟨p, hp, rfl⟩)
  -- what is neither the script nor a table is in the ground
  have base1 : ∀ {b : Addr} {o : Obj}, s1.heap.get? b = some o → (∀ v n, o.data ≠ .seq v n) → o.data ≠ .fields #[] → (hidT s1.heap H).get? b = some o := fun {b o} e n1 n2 => hidT_get e (by
    rcases tell b with z | ⟨m, _⟩ | ⟨z, _⟩
    · exact z
    · cases e.symm.trans (inT m)
      exact (n2 rfl).elim
    · rw [z, ha] at e
      cases e
      exact (n1 _ _ rfl).elim)
  have low : ∀ {b : Addr} {m : Str → Option Value}, s1.heap.Ns b m → (hidT s1.heap H).Ns b m := fun {b m} n => by
    obtain ⟨o, es, ep, e, d, r⟩ := n
    exact ⟨o, es, ep, base1 e (fun v n z => by rw [d] at z; cases z) (fun z => by rw [d] at z; cases z), d, r⟩
  have kin : K.In (hidT s1.heap H) := fun b o e => hidT_get (KX b o e) (by
    rcases tell b with z | ⟨m, _⟩ | ⟨z, y, _⟩
    · exact z
    · obtain ⟨p, hp, ep⟩ := List.mem_map.mp m
      rw [← ep, nT p hp] at e
      cases e
    · rw [z, y] at e
      cases e)
  have tb : ∀ p ∈ cs, LamX.TabB (hidT s1.heap H) mg p.1 p.2 := fun p hp => by
    have hp2 := hT p hp
    obtain ⟨og, eg, pg, gg, dg, _⟩ := hns
    refine ⟨?_, ?_, fun z => by rw [z, hp2] at gg; cases gg; cases dg⟩
    · obtain ⟨o, v, c3, c4, c5, c6, c7, c8, c9, e1, e2, e3, e4, rest⟩ := hC p hp
      exact ⟨o, v, c3, c4, c5, c6, c7, c8, c9, base1 e1 (fun v n z => by rw [e3] at z; cases z) (fun z => by rw [e3] at z; cases z; simp at e4), e2, e3, e4, rest⟩
    · obtain ⟨bm, ob, b1, b2, b3, b4, b5, b6⟩ := hm
      refine ⟨bm, ob, b1, b2, fun z => ?_, fun z => ?_, base1 b3 (fun v n z => by rw [b6] at z; cases z) (fun z => by rw [b6] at z; cases z), b4, b5, b6⟩
      · rw [z, gg] at b3
        cases b3
        rw [dg] at b6
        cases b6
      · rw [z, hp2] at b3
        cases b3
        cases b6
  obtain ⟨mc, l1, l2⟩ := hlim
  have e0 : Env0 P w K mg (hidT s1.heap H) callerA [] s1 H :=
    { frames := rfl, mod := { kin := kin, glob := low hns, blt := ⟨mb, low hb.1, hb.2⟩, nolimit := ⟨mc, low l1, l2⟩ }, bs := fun _ _ e => of_hidT e, bsz := Nat.le_of_eq (hidT_size _ _), funs := trivial, frf := fun _ z => (nomatch z), hok := hok, bare := .of_eq hg }
  refine codeAny_mono ((F _ kin (low hns) tb).go callerA [] s1 H _ [.ref a] [.ref a] _ _ rfl hr e0 (bind s1 (.ref a)) (.cons rfl .nil) (hsp H tabs hS)) fun r s2 h => ?_
  rcases r with e | fl
  · exact (noX H e s2 h).elim
  rcases fl with _ | _ | _ | u <;> try exact False.elim h
  obtain ⟨v, H2, os, bare, un, ok2, rv, q⟩ := h
  cases (q : v = .bl true)
  cases (rv : u = Value.bool true)
  have grown : ∀ p ∈ cs, ∃ more : Array Value, s2.heap.get? p.2 = some { cls := .none, data := .fields more } := fun p hp => by
    obtain ⟨more, z⟩ := un.tbls p.2 #[] (tabs p hp)
    exact ⟨_, ok2 p.2 _ z⟩
  have rest : ∀ b o, b ∉ cs.map (·.2) → s1.heap.get? b = some o → s2.heap.get? b = some o := fun b o n e => by
    rcases tell b with z | ⟨m, _⟩ | ⟨_, _, ob, xs, z⟩
    · exact un.keep b o e z (fun y => by cases y) fun y => by cases y
    · exact (n m).elim
    · have k1 := (hok b _ z).1
      rw [← e, k1] at *
      exact (ok2 b _ (un.frzs b ob _ z)).1
  refine ⟨rfl, ⟨fun b o e => ?_, fun b o e => ?_⟩, os, bare⟩
  · by_cases m : b ∈ cs.map (·.2)
    · obtain ⟨p, hp, rfl⟩ := List.mem_map.mp m
      obtain ⟨more, hm2⟩ := grown p hp
      cases e.symm.trans (hT p hp)
      exact .inr (.inl ⟨((hC p hp).tab (hT p hp)).isCodeTable, rfl, #[], more, rfl, by rw [Array.empty_append]; exact hm2⟩)
    · exact .inl (rest b o m e)
  · by_cases m : b ∈ cs.map (·.2)
    · obtain ⟨p, hp, rfl⟩ := List.mem_map.mp m
      obtain ⟨more, hm2⟩ := grown p hp
      exact ⟨_, hm2⟩
    · exact ⟨o, rest b o m e⟩
/-- what is known of the law's promise at the head's heap h, tables among it -/
def LawAtG (l : PySem.W.OpenLaw) (w : World) (K : PySem.W.Frag) (k n : Nat) (x : Str) (mg : Str → Option Value) (fa : Addr) (h : Heap) : Prop :=
  ∃ (fd : FuncData) (cs : List (Addr × Addr)) (sp : Sp), (∀ p ∈ cs, h.get? p.2 = some { cls := .none, data := .fields #[] } ∧ K.lookup p.2 = none ∧ PySem.W.CodeHd h p.1 p.2) ∧ (∀ (s : Shared) (u : Value), BindsTo s fd ⟨[u], []⟩ [(x, u)]) ∧
    (∀ (H : Hp) (a : Addr) (ns : List Int), ns.length ≤ n → (∀ p ∈ cs, H p.2 = some (.tbl #[])) → SqL K H a (ns.map V.int) → sp [.ref a] H (fun v _ => v = .bl true) fun _ _ _ => False) ∧
    ∀ b0 : Heap, K.In b0 → b0.Ns mainGlobals mg → (∀ p ∈ cs, LamX.TabB b0 mg p.1 p.2) → FnG l.prog w K mg b0 CX0 k fa fd [x] sp
theorem walk_ofGT {l : PySem.W.OpenLaw} {n k : Nat} {q : Program} {loose : List Str} {XP : (Str → Option Value) → Heap → Prop} {YP : World → Heap → Prop} {d : DefRec} {K : Params → PySem.W.Frag} {x : Str} (hn : l.most = some n) (hn2 : n ≤ sizeLine)
    (hdf : d.params.defaults = []) (hr : Room k callerA) (hY : ∀ (w : World) (h : Heap), YP w h → (K w.params).In h)
    (F : ∀ (w : World) (mg : Str → Option Value) (fa : Addr) (h : Heap), YP w h → (K w.params).In h → h.Ns mainGlobals mg → mg d.name = some (.ref fa) →
      (∀ (e : DefRec) (y : Str) (c p : Addr), (recsOf q).find? (fun r => r.name == y) = some e → PySem.W.tabIn (K w.params) y = some (c, p) → PySem.W.CodeHd h c p ∧ h.get? p = some { cls := .none, data := .fields #[] }) → LawAtG l w (K w.params) k n x mg fa h)
    (noX : ∀ (H : Hp) (s : Shared) (e : Value) (s' : Shared), CX0 [] H s (fun _ _ _ => False) e s' → False) : PySem.W.WalkO q loose XP YP l.row.toRowW d [] (fun f vs => PySem.call f vs) := by
  refine Att.attach_call hn hdf fun w s0 s1 mg mb fa o pm cd doc a vs ns G Y _ _ _ hmg hobj hints hlen hg => ?_
  obtain ⟨fd, cs, sp, hT, hb, hsp, hF⟩ := F w mg fa _ Y (hY w _ Y) G.T.g hmg fun _ _ _ _ e1 e2 => PySem.W.tab_of G.T (hY w _ Y) e1 e2
  exact law_callGT (hY w _ Y) G.T.g ⟨G.T.b, G.T.builtins⟩ G.T.nolimit hg (fun p hp => (hT p hp).1) (fun p hp => (hT p hp).2.1) (fun p hp => (hT p hp).2.2) G.T.bmain hobj hints (Nat.le_trans hlen hn2) hr hF hb (fun H => hsp H a ns hlen) fun H => noX H s1
/-- as Fun.okG, the code object being known (a def that makes lambdas) -/
theorem okGC {P : Program} {w : World} {K : PySem.W.Frag} {mg : Str → Option Value} {base : Heap} {k : Nat} {f c : Addr} {ps : List Str} {sp : Sp} {x qual : Str} {st : Stmt} {N : List Str} {oc kV doc pm ct : Value} {od an : Option Addr} {osl : Array (Option Value)}
    (lk : K.lookup f = some ⟨oc, od, .func (PySem.W.fnOf x qual (defArgs st) (defBody st) (defScope st) .none kV doc pm an (.ref c) ct), osl⟩) (hcd : PySem.W.codeIn K (.ref c) qual = true) (S : FnScope N ps (defScope st)) (len : ∀ vs H Q E, sp vs H Q E → vs.length = ps.length)
    (body : ∀ (A : Around) (outer : List Env) (s : Shared) (H : Hp) (vs : List V) (Q : VK) (E : XK), (A.deeper (envOfC qual (defScope st) s.heap.objs.size f (.ref c))).guards = some [] →
      Room k (A.deeper (envOfC qual (defScope st) s.heap.objs.size f (.ref c))) → sp vs H Q E →
      ∃ t, PSs (cxOf CX0 P w K mg base N qual (defScope st) f (.ref c) A outer s H E).nox (defBody st) t ∧ t { nx := fun _ H' => Q .non H', rt := Q } (start N vs) H) :
    FnG P w K mg base CX0 (k + 1) f (PySem.W.fnOf x qual (defArgs st) (defBody st) (defScope st) .none kV doc pm an (.ref c) ct) ps sp := by
  refine { len := len, go := fun A outer s H args us vs Q E hg hr e0 hb r hsp => ?_ }
  have up := fun b o e => (e0.bs b o e).1
  refine Att.call_fn (e0.mod.kin.keeps up) (e0.mod.nolimit.keeps up) lk hcd hr.depth hb ?_ (fun s1 ic => ?_) S.co S.gen S.kind
  · refine List.all_eq_true.mpr fun y hy => ?_
    obtain ⟨n, v⟩ := y
    rcases S.par n (List.of_mem_zip hy).1 with q | q <;> (dsimp only; rw [q]; rfl)
  · obtain ⟨t, ht, hq⟩ := body A outer s H vs Q E hg (hr.deeper _) hsp
    have I := inv_start (CX := CX0) (E := E) S hr.hd e0 (len _ _ _ _ hsp) r ic
    refine wpAny_mono (ht.nox.run [] s1 _ H _ I hq) (fun fl s2 h => ?_) fun _ _ h => h
    cases fl with
    | ret u =>
      obtain ⟨v, _, H2, J, rv, h⟩ := h
      exact ⟨v, H2, J.os, J.bare, J.base, J.hok, rv, h⟩
    | next =>
      obtain ⟨_, H2, J, h⟩ := h
      exact ⟨.non, H2, J.os, J.bare, J.base, J.hok, rfl, h⟩
    | brk => obtain ⟨_, _, _, h⟩ := h; exact h.elim
    | cont => obtain ⟨_, _, _, h⟩ := h; exact h.elim
end L2

set_option Elab.async false
set_option linter.all false
set_option maxRecDepth 100000
set_option maxHeartbeats 4000000
/-! How long the text of a list of pairs of short words is. -/
namespace L2
open PySem PySem.Spec PyProof.Rows
theorem from_len : ∀ (ts : List Str) (k m : Nat) (acc : Str), (∀ t ∈ ts, t.length ≤ m) → (textFrom k acc ts).length ≤ acc.length + ts.length * (m + 2)
  | [], k, m, acc, _ => by
    show acc.length ≤ _
    omega
  | t :: ts, k, m, acc, h => by
    have ih := from_len ts (k + 1) m (acc ++ (if k > 0 then ", " else "" : String) ++ t) fun u hu => h u (List.mem_cons_of_mem _ hu)
    have h1 := h t (List.mem_cons_self ..)
    have h2 : (Str.ofString (if k > 0 then ", " else "")).length ≤ 2 := by
      split <;> decide
    show (textFrom (k + 1) (acc ++ (if k > 0 then ", " else "" : String) ++ t) ts).length ≤ _
    rw [Str.length_append, Str.length_append] at ih
    rw [List.length_cons, Nat.succ_mul]
    omega
def pairD (p : Str × Str) : PyData := .tuple [.str p.1, .str p.2]
theorem pair_text {p : Str × Str} (h1 : (reprText p.1).length ≤ 12) (h2 : (reprText p.2).length ≤ 12) : (pairD p).shown.length ≤ 30 := by
  unfold pairD
  simp only [PyData.shown, PyData.shownAll]
  have e := join_length_add [reprText p.1, reprText p.2] (by simp)
  rw [piled_cons, piled_cons, piled_nil] at e
  unfold tupleText
  rw [Str.length_append, Str.length_append]
  have c1 : (Str.ofString "(").length = 1 := by decide
  have c2 : (Str.ofString (if ([reprText p.1, reprText p.2].length == 1) = true then ",)" else ")")).length ≤ 2 := by
    split <;> decide
  omega
theorem pairs_data_ok : ∀ ps : List (Str × Str), PyData.showableAll (ps.map pairD) = true ∧ PyData.hasDictAll (ps.map pairD) = false ∧ PyData.depthAll (ps.map pairD) ≤ 2
  | [] => ⟨rfl, rfl, by simp [PyData.depthAll]⟩
  | p :: ps => by
    obtain ⟨h1, h2, h3⟩ := pairs_data_ok ps
    refine ⟨?_, ?_, ?_⟩
    · rw [List.map_cons, PyData.showableAll, h1]
      rfl
    · rw [List.map_cons, PyData.hasDictAll, h2]
      rfl
    · simp only [List.map_cons, PyData.depthAll]
      have : (pairD p).depth ≤ 2 := by
        unfold pairD
        simp [PyData.depth, PyData.depthAll]
      omega
theorem pairs_shown : ∀ {ps : List (Str × Str)}, (∀ p ∈ ps, (reprText p.1).length ≤ 12 ∧ (reprText p.2).length ≤ 12) → ∀ t ∈ PyData.shownAll (ps.map pairD), t.length ≤ 30
  | [], _, t, h => by cases h
  | p :: ps, hp, t, h => by
    rw [List.map_cons, PyData.shownAll] at h
    rcases List.mem_cons.mp h with e | e
    · rw [e]
      obtain ⟨h1, h2⟩ := hp p (List.mem_cons_self ..)
      exact pair_text h1 h2
    · exact pairs_shown (fun q hq => hp q (List.mem_cons_of_mem _ hq)) t e
theorem shownAll_len : ∀ ds : List PyData, (PyData.shownAll ds).length = ds.length
  | [] => rfl
  | d :: ds => by
    rw [PyData.shownAll, List.length_cons, List.length_cons, shownAll_len ds]
/-- repr of a list of pairs: all that rReprD asks -/
theorem pairs_repr {ps : List (Str × Str)} (hp : ∀ p ∈ ps, (reprText p.1).length ≤ 12 ∧ (reprText p.2).length ≤ 12) (hl : ps.length ≤ 64) :
    (PyData.list (ps.map pairD)).hasDict = false ∧ (PyData.list (ps.map pairD)).showable = true ∧ (PyData.list (ps.map pairD)).depth ≤ 100 ∧ (PyData.list (ps.map pairD)).shown.length ≤ sizeLine := by
  obtain ⟨h1, h2, h3⟩ := pairs_data_ok ps
  refine ⟨by rw [PyData.hasDict]; exact h2, by rw [PyData.showable]; exact h1, by rw [PyData.depth]; omega, ?_⟩
  rw [PyData.shown]
  unfold listText
  rw [Str.length_append]
  have h4 := from_len (PyData.shownAll (ps.map pairD)) 0 30 "[" (pairs_shown hp)
  rw [shownAll_len, List.length_map] at h4
  have c1 : (Str.ofString "[").length = 1 := by decide
  have c2 : (Str.ofString "]").length = 1 := by decide
  have h5 : ps.length * (30 + 2) ≤ 64 * 32 := Nat.mul_le_mul_right _ hl
  rw [sizeLine_eq]
  omega
theorem Tps.dp {K : PySem.W.Frag} {H : Hp} : ∀ {ys : List V} {ps : List (Str × Str)}, Tps H ys ps → DpAll K H ys (ps.map pairD)
  | [], [], _ => .nil
  | y :: ys, p :: ps, t => by
    obtain ⟨q, rfl, h⟩ := t.2 0 y p rfl rfl
    exact .cons (.tup (SqT.of h) (.cons (.str _) (.cons (.str _) .nil))) (Tps.dp ⟨Nat.succ.inj t.1, fun j z r h1 h2 => t.2 (j + 1) z r (by simpa using h1) (by simpa using h2)⟩)
  | [], _ :: _, t => by cases t.1
  | _ :: _, [], t => by cases t.1
theorem names_short : ∀ z ∈ names8, (reprText z).length ≤ 12 ∧ PyData.strOk z = true := by decide +kernel
theorem strOk_app {a b : Str} (h1 : PyData.strOk a = true) (h2 : PyData.strOk b = true) : PyData.strOk (a ++ b) = true := by
  unfold PyData.strOk at *
  show (a.cps ++ b.cps).all _ = true
  rw [Array.all_append, h1, h2]
  rfl
theorem strOk_from : ∀ {ts : List Str} {k : Nat} {acc : Str}, PyData.strOk acc = true → (∀ t ∈ ts, PyData.strOk t = true) → PyData.strOk (textFrom k acc ts) = true
  | [], _, _, h, _ => h
  | t :: ts, k, acc, h, ht => by
    refine strOk_from (ts := ts) (strOk_app (strOk_app h ?_) (ht t (List.mem_cons_self ..))) fun u hu => ht u (List.mem_cons_of_mem _ hu)
    split <;> decide +kernel
theorem strOk_list {ts : List Str} (h : ∀ t ∈ ts, PyData.strOk t = true) : PyData.strOk (listText ts) = true := strOk_app (strOk_from (by decide +kernel) h) (by decide +kernel)
theorem strOk_one {t : Str} (h : PyData.strOk t = true) : PyData.strOk (tupleText [t]) = true := by
  show PyData.strOk ((("(" : Str) ++ t) ++ ((if ([t] : List Str).length == 1 then ",)" else ")" : String) : Str)) = true
  exact strOk_app (strOk_app (by decide +kernel) h) (by show PyData.strOk (Str.ofString ",)") = true; decide +kernel)
theorem names_text : ∀ z ∈ names8, PyData.strOk (reprText z) = true := by decide +kernel
theorem eqvAll_bls : ∀ bs : List Bool, PyData.eqvAll (bs.map .bool) (bs.map .bool) = true
  | [] => rfl
  | b :: bs => by
    rw [List.map_cons, PyData.eqvAll, eqvAll_bls bs, PyData.eqv]
    simp
theorem lay_bls : ∀ bs : List Bool, PyData.canLayAll0 (bs.map .bool) = true ∧ PyData.depthAll (bs.map .bool) ≤ 1
  | [] => ⟨rfl, by simp [PyData.depthAll]⟩
  | b :: bs => by
    obtain ⟨h1, h2⟩ := lay_bls bs
    refine ⟨by rw [List.map_cons, PyData.canLayAll0, h1]; rfl, ?_⟩
    simp only [List.map_cons, PyData.depthAll, PyData.depth]
    omega
theorem bls_ok (bs : List Bool) : SeqAt.shaped (.list (bs.map .bool)) = true ∧ PyData.eqv (.list (bs.map .bool)) (.list (bs.map .bool)) = true := by
  obtain ⟨h1, h2⟩ := lay_bls bs
  refine ⟨?_, by rw [PyData.eqv, eqvAll_bls]⟩
  unfold SeqAt.shaped
  rw [PyData.canLay0, h1, Bool.true_and, PyData.depth]
  exact decide_eq_true (by omega)
theorem eqvAll_ints : ∀ ns : List Int, PyData.eqvAll (ns.map .int) (ns.map .int) = true
  | [] => rfl
  | n :: ns => by
    rw [List.map_cons, PyData.eqvAll, eqvAll_ints ns, PyData.eqv]
    simp
theorem lay_ints : ∀ ns : List Int, PyData.canLayAll0 (ns.map .int) = true ∧ PyData.depthAll (ns.map .int) ≤ 1
  | [] => ⟨rfl, by simp [PyData.depthAll]⟩
  | n :: ns => by
    obtain ⟨h1, h2⟩ := lay_ints ns
    refine ⟨by rw [List.map_cons, PyData.canLayAll0, h1]; rfl, ?_⟩
    simp only [List.map_cons, PyData.depthAll, PyData.depth]
    omega
theorem ints_ok (ns : List Int) : SeqAt.shaped (.list (ns.map .int)) = true ∧ PyData.eqv (.list (ns.map .int)) (.list (ns.map .int)) = true := by
  obtain ⟨h1, h2⟩ := lay_ints ns
  refine ⟨?_, by rw [PyData.eqv, eqvAll_ints]⟩
  unfold SeqAt.shaped
  rw [PyData.canLay0, h1, Bool.true_and, PyData.depth]
  exact decide_eq_true (by omega)
theorem dp_ints {K : PySem.W.Frag} {H : Hp} : ∀ ns : List Int, DpAll K H (ns.map V.int) (ns.map PyData.int)
  | [] => .nil
  | n :: ns => .cons (.int n) (dp_ints ns)
theorem small_int : ∀ k : Nat, k ≤ 10 → (PyData.int k).showable = true ∧ (PyData.int k).shown.length ≤ sizeLine := by decide +kernel
theorem mem_pairs {zs : List Str} {p : Str × Str} (h : p ∈ pairsOf zs) : p.1 ∈ zs ∧ p.2 ∈ zs ∧ p.1 ≠ p.2 := by
  obtain ⟨a, ha, hp⟩ := List.mem_flatMap.mp h
  obtain ⟨b, hb, rfl⟩ := List.mem_map.mp hp
  obtain ⟨h1, h2⟩ := List.mem_filter.mp hb
  exact ⟨ha, h1, of_decide_eq_true h2⟩
theorem rgV0 (n : Nat) : rgV 0 (n : Int) = ((List.range n).map fun i : Nat => (i : Int)).map V.int := by
  unfold rgV
  rw [List.map_map]
  have e : ((n : Int) - 0).toNat = n := by omega
  rw [e]
  refine List.map_congr_left fun i _ => ?_
  show V.int (0 + (i : Int)) = V.int (i : Int)
  rw [Int.zero_add]
theorem isPair_true {zs : List Str} {p : Str × Str} (h : p ∈ pairsOf zs) : isPairB (.str p.1) (.str p.2) zs = true := by
  obtain ⟨h1, h2, h3⟩ := mem_pairs h
  unfold isPairB
  show (decide (p.1 ∈ zs) && (decide (p.2 ∈ zs) && !decide (V.str p.1 = V.str p.2))) = true
  rw [decide_eq_true h1, decide_eq_true h2, decide_eq_false fun z => h3 (V.str.inj z)]
  rfl
theorem shown_words : ∀ zs : List Str, PyData.shownAll (zs.map .str) = zs.map reprText
  | [] => rfl
  | z :: zs => by
    rw [List.map_cons, PyData.shownAll, shown_words zs, PyData.shown]
    rfl
theorem words_flat : ∀ zs : List Str, PyData.showableAll (zs.map .str) = true ∧ PyData.hasDictAll (zs.map .str) = false
  | [] => ⟨rfl, rfl⟩
  | z :: zs => by
    obtain ⟨h1, h2⟩ := words_flat zs
    exact ⟨by rw [List.map_cons, PyData.showableAll, h1]; rfl, by rw [List.map_cons, PyData.hasDictAll, h2]; rfl⟩
/-- all that repr asks of data, and that its text can be laid -/
def ReprOk (D : PyData) : Prop := D.hasDict = false ∧ D.showable = true ∧ D.depth ≤ 100 ∧ D.shown.length ≤ sizeLine ∧ PyData.strOk D.shown = true
theorem words_repr {zs : List Str} (h : ∀ z ∈ zs, (reprText z).length ≤ 12 ∧ PyData.strOk (reprText z) = true) (hl : zs.length ≤ 8) : ReprOk (.list (zs.map .str)) := by
  obtain ⟨h1, h2⟩ := words_flat zs
  have h3 := depth_strs zs
  refine ⟨by rw [PyData.hasDict]; exact h2, by rw [PyData.showable]; exact h1, by rw [PyData.depth]; omega, ?_, ?_⟩
  · rw [PyData.shown, shown_words]
    unfold listText
    rw [Str.length_append]
    have h4 := from_len (zs.map reprText) 0 12 "[" (fun t ht => by
      obtain ⟨z, hz, rfl⟩ := List.mem_map.mp ht
      exact (h z hz).1)
    rw [List.length_map] at h4
    have c1 : (Str.ofString "[").length = 1 := by decide
    have c2 : (Str.ofString "]").length = 1 := by decide
    have h5 : zs.length * (12 + 2) ≤ 8 * 14 := Nat.mul_le_mul_right _ hl
    rw [sizeLine_eq]
    omega
  · rw [PyData.shown, shown_words]
    exact strOk_list fun t ht => by
      obtain ⟨z, hz, rfl⟩ := List.mem_map.mp ht
      exact (h z hz).2
theorem one_repr : ∀ z ∈ names8, ReprOk (.tuple [.str z]) := by
  unfold ReprOk
  decide +kernel
theorem odd_repr : ReprOk .none ∧ ReprOk (.int 5) ∧ ReprOk (.str "") ∧ ReprOk (.str "nobody") ∧ ReprOk (.str "A") ∧ ReprOk (.bool true) := by
  unfold ReprOk
  decide +kernel
theorem names_not : ∀ z ∈ names8, z ≠ "" ∧ z ≠ "nobody" ∧ z ≠ "A" ∧ z ≠ "ab" := by decide +kernel
theorem tyN_ext {K : PySem.W.Frag} {H : Hp} : True := trivial
end L2

set_option Elab.async false
set_option linter.all false
set_option maxRecDepth 100000
set_option maxHeartbeats 4000000
/-! An own error made by its field's name. -/
namespace Km
open PySem PySem.W PySem.Calls PySem.HandSPX
section
variable {prog : Program} {w : World} {A : Around} {E : Value → Shared → Prop} {R : Result → Shared → Prop} {h : Heap} {g : Array GenState} {d : Drawn} {t : Nat} {os : OsState}
variable {nm q : Str} {C N : Addr} {bs bm bmB : List Value} {hdct : Bool} {sn : List Str} {sub : List Value} {ab : Bool} {col : Option Bool} {dd : Option Addr} {k0 k1 k2 k3 k5 : Option Value} {B newId initId : String} {kw : List (Str × Value)}
theorem kw_check {M : Model} (F : ExcBaseFacts B newId initId bmB) (hT : ∀ X : String, bm.contains (.type X) = bmB.contains (.type X)) {Q : Unit → Shared → Prop}
    (hC : h.get? C = some (excClassObj nm q C N bs bm hdct sn sub ab col dd k0 k1 k2 k3 k5 newId)) (hq : Q () ⟨h, g, d, t, os⟩) :
    wpAny M A (checkBuiltinCall newId ⟨[.ref C], kw⟩) Q E ⟨h, g, d, t, os⟩ := by
  have inB : (Value.ref C :: bm).contains (.type B) = true := by rw [List.contains_cons, hT, F.hasB, Bool.or_true]
  have star := F.noStar
  simp only [checkBuiltinCall, F.newKind, F.newSplit, F.newRow]
  repeat (first
    | refine wpAny_loadPart_at hC ?_
    | (refine wpAny_isSubtype_exc hC ?_; rw [inB])
    | refine wpAny_staticBase_exc hC ?_
    | refine wpAny_madeBy_exc hC ?_
    | simp only [bne_self_eq_false, Bool.false_eq_true, if_false]
    | wp_step)
  exact hq
theorem kw_new (F : ExcBaseFacts B newId initId bmB) (hT : ∀ X : String, bm.contains (.type X) = bmB.contains (.type X))
    (hC : h.get? C = some (excClassObj nm q C N bs bm hdct sn sub ab col dd k0 k1 k2 k3 k5 newId))
    (hq : R (.ok (.ret (.ref (h.objs.size + 1)))) ⟨(h.push (kdv_tup [])).push (excO C h.objs.size), g, d, t, os⟩) :
    codeAny (model prog w) A (.builtin newId ⟨[.ref C], kw⟩) R ⟨h, g, d, t, os⟩ := by
  have ends := F.ends
  have inB : (Value.ref C :: bm).contains (.type B) = true := by rw [List.contains_cons, hT, F.hasB, Bool.or_true]
  have inA : (Value.ref C :: bm).contains (.type "AttributeError") = false := by rw [List.contains_cons, hT, F.noAttr]; rfl
  have inN : (Value.ref C :: bm).contains (.type "NameError") = false := by rw [List.contains_cons, hT, F.noName]; rfl
  refine codeAny_builtinAt F.entry ?_
  unfold Builtin.«BaseException.__new__»
  refine PySem.wpAt_bind ?_
  refine PySem.wpAt_bind (PySem.wpAt_stack fun p below => PySem.wpAt_of_wpAny ?_)
  wp_walk
  refine PySem.wpAt_of_wpAny ?_
  rw [F.owner]
  repeat (first
    | with_reducible refine wpAny_madeHere_exc F.canon hC ?_
    | with_reducible refine wpAny_loadPart_at hC ?_
    | (with_reducible refine wpAny_isSubtype_exc hC ?_; first | rw [inB] | rw [inA] | rw [inN])
    | wp_step)
  show R _ _
  rw [Heap.size_push]
  exact hq
theorem kw_type (F : ExcBaseFacts B newId initId bmB) (hT : ∀ X : String, bm.contains (.type X) = bmB.contains (.type X)) {fI : Addr} {Q : PySem.Fin → Shared → Prop}
    (hC : h.get? C = some (excClassObj nm q C N bs bm hdct sn sub ab col dd k0 k1 k2 k3 k5 newId))
    (hi : W.Looks (model prog w) h (typeLookup (.ref C) "__init__") (some (.ref fI))) (hb : ∀ self, W.Looks (model prog w) h (bindSpecial (.ref fI) self) (.ref fI, [self]))
    (hq : codeAny (model prog w) A (.call (.ref fI) ⟨[.ref (h.objs.size + 1)], kw⟩)
      (fun r s2 => match r with
        | .ok (.ret v) => v = .none ∧ Q (.done (.ret (.ref (h.objs.size + 1)))) s2
        | .ok _ => False
        | .error e => E e s2) ⟨(h.push (kdv_tup [])).push (excO C h.objs.size), g, d, t, os⟩) :
    wpAny (model prog w) A (Builtin.«type.__call__» ⟨[.ref C], kw⟩) Q E ⟨h, g, d, t, os⟩ := by
  repeat (first
    | with_reducible refine wpAny_loadPart_at hC ?_
    | with_reducible refine wpAny_madeBy_exc hC ?_
    | wp_step)
  refine codeAny_call_builtin_code (Code.quiet_builtin _ F.quiet) (kw_check F hT hC ?_)
  refine kw_new F hT hC ?_
  show wpAny _ _ _ _ _ _
  have kept : ∀ b o, h.get? b = some o → ((h.push (kdv_tup [])).push (excO C h.objs.size)).get? b = some o := fun b o z => Heap.get?_push_of_some _ (Heap.get?_push_of_some _ z)
  have hC1 := kept _ _ hC
  have there : ((h.push (kdv_tup [])).push (excO C h.objs.size)).get? (h.objs.size + 1) = some (excO C h.objs.size) := by heap_get
  have inC : (Value.ref C :: bm).contains (.ref C) = true := by simp
  have i1 := hi.keeps kept
  have b1 := (hb (.ref (h.objs.size + 1))).keeps kept
  unfold isInstance
  repeat (first
    | with_reducible refine wpAny_loadPart_at there ?_
    | (with_reducible refine wpAny_isSubtype_exc hC1 ?_; rw [inC])
    | wp_step)
  refine i1.at ?_
  refine wpAny_holding (wpAny_bind (b1.at ?_))
  refine wpAny_bind (wpAny_call (codeAny_mono hq fun r s2 z => ?_))
  cases r with
  | error e => exact z
  | ok fl =>
    cases fl with
    | ret v =>
      obtain ⟨rfl, z⟩ := z
      first
        | exact wpAny_pure (wpAny_pure z)
        | (wp_walk; exact z)
    | _ => exact z.elim
theorem kw_call (F : ExcBaseFacts B newId initId bmB) (hT : ∀ X : String, bm.contains (.type X) = bmB.contains (.type X)) {fI : Addr}
    (hC : h.get? C = some (excClassObj nm q C N bs bm hdct sn sub ab col dd k0 k1 k2 k3 k5 newId))
    (hi : W.Looks (model prog w) h (typeLookup (.ref C) "__init__") (some (.ref fI))) (hb : ∀ self, W.Looks (model prog w) h (bindSpecial (.ref fI) self) (.ref fI, [self]))
    (hq : codeAny (model prog w) (A.under (.builtin "type.__call__" ⟨[.ref C], kw⟩)) (.call (.ref fI) ⟨[.ref (h.objs.size + 1)], kw⟩) (W.InitBack (h.objs.size + 1) R)
      ⟨(h.push (kdv_tup [])).push (excO C h.objs.size), g, d, t, os⟩) : codeAny (model prog w) A (.call (.ref C) ⟨[], kw⟩) R ⟨h, g, d, t, os⟩ := by
  have f1 := tc_lookup
  have f2 := tc_bind (.ref C)
  have ty : (⟨h, g, d, t, os⟩ : Shared).TypeIs (.ref C) "type" := ⟨_, hC, rfl⟩
  refine codeAny_of_tree ?_
  show wpAny _ _ (callAny (.ref C) _) _ _ _
  repeat (any_goals (first
    | assumption
    | with_reducible refine wpAny_loadPart_at hC ?_
    | wp_step))
  refine ⟨rfl, ?_⟩
  refine codeAny_call_builtin_at (Code.quiet_builtin _ (by decide +kernel)) entry_typeCall (wpAny_check_type_call_sub hC (kw_type F hT hC hi hb (codeAny_mono hq fun r s2 z => ?_)))
  cases r with
  | error e => exact z
  | ok fl =>
    cases fl with
    | ret v => exact z
    | _ => exact z
end
end Km


set_option Elab.async false
set_option linter.all false
set_option maxRecDepth 100000
set_option maxHeartbeats 4000000
/-! Errors made by their field's name; errors without an own __init__; isinstance of either. -/
namespace L2
open PySem PySem.Spec PyProof.Rows
section
variable {X : Cx} {CX : CXT} {x f : Str} {C fI : Addr} {k : Nat} {fd : FuncData} {ps : List Str} {sp : Sp} {E : XK} {e : Expr} {te : TE} {p pos kpos : Pos}
/-- C(f=e), of one parameter beside self -/
def tEcK (C : Addr) (sp : Sp) (E : XK) (tk : TA) : TE := fun σ H Q => tk σ H fun zs H1 => ∃ v, zs = [v] ∧ ∀ a, H1 a = none → sp [.ref a, v] (upd H1 a (exo a C none)) (fun w H2 => w = .non ∧ Q (.ref a) H2) E
theorem pe_eck (T : EcC X.K C) (iC : PySem.W.findIn X.K (.ref C) "__init__" = some (some (.ref fI))) (tI : PySem.W.typeIn X.K (.ref fI) = some (.type "function")) (F : FnOk X.prog X.w X.K X.mg X.base CX k fI fd ps sp) (hr : Room (k + 1) X.A)
    (hb : ∀ (s : Shared) (a u : Value), BindsTo s fd ⟨[a], [(f, u)]⟩ (ps.zip [a, u])) (hx : Passes CX X E) (hg : Gl X x) (hm : X.mg x = some (.ref C)) (he : PE X e te) (hdb : (x == ("__debug__" : Str)) = false := by decide)
    (hall : (backToKw pos (keywordEach [⟨some f, e, kpos⟩] X.env)).all (·.1.isSome) = true := by rfl) (hks : (backToKw pos (keywordEach [⟨some f, e, kpos⟩] X.env)).filterMap (·.1) = [f] := by rfl)
    (hpl : ((backTo pos (starEach [] X.env)).any (·.1) || (backToKw pos (keywordEach [⟨some f, e, kpos⟩] X.env)).any (·.1.isNone)) = false := by rfl) : PE X (.Call (.Name x p) [] [⟨some f, e, kpos⟩] pos) (tEcK C sp E (tCons te tNil)) := by
  constructor
  intro pins s σ H Q I h
  refine wpAny_Call_Name_kw (ld_glob I hg hm ?_ hdb)
  refine PySem.W.callWith_KW0 (h₀ := X.base) I.ok.mod.kin T.kC hall ?_ hpl
  refine thn ((pk_cons (nm := some f) (kpos := kpos) he pk_nil).run pos pins s σ H _ I h) fun ws s1 q0 => ?_
  obtain ⟨zs, H1, I1, r1, v, rfl, q1⟩ := q0
  obtain ⟨u, rfl, ru⟩ := vals1 r1
  rw [hks]
  refine ⟨I1.kIn, ?_⟩
  show wpAny _ _ (call (.ref C) [] [(f, u)]) _ _ _
  obtain ⟨B, newId, initId, bmB, FB, SF, hin, hov⟩ := T.base
  obtain ⟨nm, N, qn, bs, bm, hdct, sn, sub, ab, col, dd, k0, k1, k2, k3, k5, hC, hT⟩ := PySem.W.excInit_of I1.kIn hin
  obtain ⟨hp, g, dr, tk, os⟩ := s1
  have n1 : H1 (hp.objs.size + 1) = none := I1.hok.fresh (Nat.le_succ _)
  have q2 := q1 _ n1
  have kept : ∀ b o, hp.get? b = some o → ((hp.push (PySem.W.kdv_tup [])).push (PySem.HandSPX.excO C hp.objs.size)).get? b = some o := fun b o z => Heap.get?_push_of_some _ (Heap.get?_push_of_some _ z)
  have there : ((hp.push (PySem.W.kdv_tup [])).push (PySem.HandSPX.excO C hp.objs.size)).get? (hp.objs.size + 1) = some (PySem.HandSPX.excO C hp.objs.size) := by heap_get
  have J : Inv X pins σ (upd H1 (hp.objs.size + 1) (exo (hp.objs.size + 1) C none)) ⟨(hp.push (PySem.W.kdv_tup [])).push (PySem.HandSPX.excO C hp.objs.size), g, dr, tk, os⟩ :=
    I1.laid (t' := tk) (a := hp.objs.size + 1) (h' := (hp.push (PySem.W.kdv_tup [])).push (PySem.HandSPX.excO C hp.objs.size)) kept (Nat.le_succ _) (exo_ok there)
  have r2 : Vals [V.ref (hp.objs.size + 1), v] [Value.ref (hp.objs.size + 1), u] := .cons rfl (.cons ru .nil)
  refine wpAny_call (Km.kw_call FB hT hC (PySem.W.looks_findIn I1.kIn iC) (fun self => PySem.W.bind_fn I1.kIn self tI) (codeAny_mono (F.run _ X.stack _ _ ⟨[.ref (hp.objs.size + 1)], [(f, u)]⟩ [.ref (hp.objs.size + 1), u] _ _ E (hr.make C [] [(f, u)]) (J.env0.make C [] [(f, u)]) (hb _ _ _) r2 q2) fun z s2 hz => ?_))
  cases z with
  | error er => exact hx pins σ _ _ er s2 J hz
  | ok fl =>
    cases fl with
    | ret w =>
      obtain ⟨v2, H2, os2, bare2, un2, hok2, rv, e2, q3⟩ := hz
      obtain ⟨hh, g2, d2, t2, o2⟩ := s2
      obtain rfl : o2 = os := os2
      subst e2
      exact ⟨rv, .ref (hp.objs.size + 1), H2, J.call (h' := hh) (g' := g2) (d' := d2) (t' := t2) (ch := []) un2 hok2 bare2 (fun b z => absurd z (by simp)), rfl, q3⟩
    | next => exact False.elim hz
    | brk => exact False.elim hz
    | cont => exact False.elim hz
/-- an error, made by an own __init__ or without one, not raised -/
def Held (H : Hp) (a C : Addr) : Prop := (∃ d : Option Addr, H a = some (exo a C d) ∧ ∀ dx, d = some dx → ∃ fs, H dx = some (exd dx fs)) ∨ H a = some (ExO (.ref C) a)
/-- isinstance(x, c), x an error that is held -/
def rIsH (K : PySem.W.Frag) : List V → Hp → VK → Prop := fun xs H Q => ∃ (a C : Addr) (c : V) (cv : Value) (b : Bool), xs = [.ref a, c] ∧ ClsV c cv ∧ ExcC K C ∧ Held H a C ∧ PySem.W.kitOne K (.ref C) cv = some b ∧ Q (.bl b) H
theorem call_isH : CallR X (.builtin "isinstance") (rIsH X.K) := by
  intro pins s σ H xs us Q I r h
  obtain ⟨a, C, c, cv, b, rfl, hc, T, hh, ek, q⟩ := h
  rcases hh with ⟨d, ea, hd⟩ | ea
  · exact call_isV pins s σ H _ us Q I r ⟨a, C, d, c, cv, b, rfl, hc, T, ea, hd, ek, q⟩
  obtain ⟨u1, u2, rfl, r1, r2⟩ := vals2 r
  cases r1
  obtain rfl := hc.eq r2
  obtain ⟨⟨oe, fs, ho, hz, hdat, _, _, _⟩, _, _⟩ := I.hok a _ ea
  have hcl : (PySem.W.clsIn X.K C).isSome = true := by
    obtain ⟨cd, hc, _⟩ := PySem.W.any_some T.hd
    rw [hc] <;> rfl
  have J : PySem.W.InstAt s.heap a oe C none := ⟨ho, hz.1, by rw [PySem.W.notCls, hdat], by rw [hz.2]; trivial⟩
  exact PySem.W.kia_one (PySem.W.kitx_exc hcl T.hg T.hk T.hs T.ha T.hn T.ht T.hm) I.kIn J ek (fun z => nomatch z) fun tk => ⟨.bl b, H, I.kept (t' := tk) fun _ _ z => z, rfl, q⟩
/-- X(), an own error class without own __init__ -/
theorem pe_exc0 {bmB : List Value} {B newId initId : String} (F : ExcBaseFacts B newId initId bmB) (q : PySem.W.excIn X.K C bmB newId = true) (gC : X.mg x = some (.ref C)) (kC : PySem.W.keepIn X.K (.ref C) = true) (hg : Gl X x) (hdb : (x == ("__debug__" : Str)) = false := by decide) :
    PE X (.Call (.Name x p) [] [] pos) (fun σ H Q => ∀ a, H a = none → Q (.ref a) (upd H a (ExO (.ref C) a))) := by
  constructor
  intro pins s σ H Q I h
  refine wpAny_Call_Name_kw (ld_glob I hg gC ?_ hdb)
  refine PySem.W.callWith_K0 I.kIn kC ?_
  obtain ⟨bm, N, nm, qn, bs, hdct, sn, sub, ab, col, dd, k0, k1, k2, k3, k5, mN, hC, hN, hni, T⟩ := exc_obj I.kIn q
  refine wpAny_call_exc_subT (rest := []) F T hC hN hni (fun h2 a hm => ?_) (Nat.zero_le _)
  obtain ⟨t, ht, _⟩ := hm.there
  exact ⟨.ref a, upd H a (ExO (.ref C) a), I.laidN hm.keeps hm.new (I.hok.gone hm.new) (exO_ok ht ⟨rfl, rfl⟩ rfl rfl rfl (show 4 < 6 by decide)), rfl, h a (I.hok.gone hm.new)⟩
end
end L2

set_option Elab.async false
set_option linter.all false
set_option maxRecDepth 100000
set_option maxHeartbeats 4000000
/-! An error class with one field, all that is asked of it; comprehensions with new objects as items. -/
namespace L2
open PySem PySem.Spec PyProof.Rows
structure Ek (P : Program) (w : World) (K : PySem.W.Frag) (mg : Str → Option Value) (base : Heap) (name f : Str) (C : Addr) : Prop where
  g : mg name = some (.ref C)
  ec : EcC K C
  xf : XfC K C
  xc : ExcC K C
  no : PySem.W.findIn K (.ref C) f = some none
  init : ∃ (fI : Addr) (fd : FuncData), PySem.W.findIn K (.ref C) "__init__" = some (some (.ref fI)) ∧ PySem.W.typeIn K (.ref fI) = some (.type "function") ∧ FnOk P w K mg base CX0 1 fI fd ["self", f] (spEcInit K C f) ∧
    Binds K fd ["self", f] [] ∧ ∀ (s : Shared) (a u : Value), BindsTo s fd ⟨[a], [(f, u)]⟩ ((["self", f] : List Str).zip [a, u])
/-- e is a held error of the class at C whose field f is v -/
def Er1 (H : Hp) (C : Addr) (f : Str) (v e : V) : Prop := ∃ a d, e = .ref a ∧ H a = some (exo a C (some d)) ∧ H d = some (exd d [(f, v)])
theorem Er1.same {H H2 : Hp} {C : Addr} {f : Str} {v e : V} (r : Er1 H C f v e) (s : Same H H2) : Er1 H2 C f v e := by
  obtain ⟨a, d, e1, h1, h2⟩ := r
  exact ⟨a, d, e1, s _ _ h1, s _ _ h2⟩
def tMade (C : Addr) (f : Str) (i : Nat) : TE := fun σ H Q => ∃ v, σ[i]? = some (some v) ∧ ∀ e H2, Same H H2 → Er1 H2 C f v e → Q e H2
section
variable {X : Cx} {name f : Str} {C : Addr} {e : Expr} {i : Nat} {p pos kpos : Pos}
theorem made_of {K : PySem.W.Frag} {H : Hp} {v : V} {Q : VK} {E : XK} (T : EcC K C) (no : PySem.W.findIn K (.ref C) f = some none) (q : ∀ e H2, Same H H2 → Er1 H2 C f v e → Q e H2) {a : Addr} (na : H a = none) :
    spEcInit K C f [.ref a, v] (upd H a (exo a C none)) (fun w H2 => w = .non ∧ Q (.ref a) H2) E := by
  refine ⟨a, v, rfl, T, no, upd_same, fun d nd ne => ⟨rfl, q _ _ (fun b o z => ?_) ⟨a, d, rfl, upd_same, by rw [upd_ne ne, upd_same]⟩⟩⟩
  have ba := ne_of_none z na
  have nd1 : H d = none := by
    rw [upd_ne ne] at nd
    exact nd
  rw [upd_ne ba, upd_ne (ne_of_none z nd1), upd_ne ba]
  exact z
theorem pe_mkP (E : Ek X.prog X.w X.K X.mg X.base name f C) (hr : Room 2 X.A) (hg : Gl X name) (he : PE X e (tVar i)) (hdb : (name == ("__debug__" : Str)) = false := by decide)
    (hs : starEach [e] X.env = (false, eval e X.env) :: starEach [] X.env := by rfl) : PE X (.Call (.Name name p) [e] [] pos) (tMade C f i) := by
  obtain ⟨fI, fd, ii, tt, F, b, _⟩ := E.init
  constructor
  intro pins s σ H Q I h
  obtain ⟨v, hv, q⟩ := h
  exact (pe_ecv (E := fun _ _ _ => False) E.ec ii tt F hr b pass0 hg E.g (pa_cons he pa_nil (hs := hs)) hdb hs rfl).run pins s σ H Q I ⟨v, hv, (by show 1 ≤ 1000; decide), fun a na => made_of E.ec E.no q na⟩
theorem pe_mkN (E : Ek X.prog X.w X.K X.mg X.base name f C) (hr : Room 2 X.A) (hg : Gl X name) (he : PE X e (tVar i)) (hdb : (name == ("__debug__" : Str)) = false := by decide)
    (hall : (backToKw pos (keywordEach [⟨some f, e, kpos⟩] X.env)).all (·.1.isSome) = true := by rfl) (hks : (backToKw pos (keywordEach [⟨some f, e, kpos⟩] X.env)).filterMap (·.1) = [f] := by rfl)
    (hpl : ((backTo pos (starEach [] X.env)).any (·.1) || (backToKw pos (keywordEach [⟨some f, e, kpos⟩] X.env)).any (·.1.isNone)) = false := by rfl) : PE X (.Call (.Name name p) [] [⟨some f, e, kpos⟩] pos) (tMade C f i) := by
  obtain ⟨fI, fd, ii, tt, F, _, b⟩ := E.init
  constructor
  intro pins s σ H Q I h
  obtain ⟨v, hv, q⟩ := h
  exact (pe_eck (E := fun _ _ _ => False) E.ec ii tt F hr b pass0 hg E.g he hdb hall hks hpl).run pins s σ H Q I ⟨v, hv, v, rfl, fun a na => made_of E.ec E.no q na⟩
end
section
variable {J : It} {n : Nat} {G : Hp → Prop}
/-- a comprehension without a test whose items are known by what is true of them, apart from the list that grows -/
theorem lc_rel {xs : List V} (w : Walk J n G (YAt xs)) (hsz : n < sizeLine) {slot : Nat} {te : TE} {vs : List Nat} {σ : St} {H1 : Hp} {D : Addr} {Qd : Hp → Prop} (R : Nat → V → Hp → Prop) (hR : ∀ i y H H', R i y H → But D H H' → R i y H') (hD : H1 D = none)
    (hG : ∀ H, Same H1 H → G H) (hw : ∀ x, wipe ((wipe σ vs).set slot (some x)) vs = wipe σ vs)
    (hs : ∀ (i : Nat) (x : V) (H : Hp) (Q : VK), xs[i]? = some x → Same H1 H → (∃ o, H D = some o) → (∀ y H4, Same H H4 → R i y H4 → Q y H4) → te ((wipe σ vs).set slot (some x)) H Q)
    (hd : ∀ (H : Hp) (ys : List V), Same H1 H → H D = some (.lst ys) → ys.length = n → (∀ (i : Nat) (y : V), ys[i]? = some y → R i y H) → Qd H) :
    ∃ W : Nat → Nat → Hp → Prop, (∃ m, W 0 m (upd H1 D (.lst []))) ∧ ∀ i m H, W i m H →
      (J.stop i H ∧ Qd H) ∨ (J.go i H ∧ ∃ Nx : Hp → Prop, (∀ H', Nx H' → ∃ m', m' < m ∧ W (i + 1) m' H') ∧ ∀ x H', J.yld i H x H' → gName slot x (wipe σ vs) H' fun σ2 H2 => wipe σ2 vs = wipe σ vs ∧ tYes σ2 H2 fun b H3 =>
        if b = true then te σ2 H3 fun y H4 => ∃ acc, H4 D = some (.lst acc) ∧ acc.length < sizeLine ∧ Nx (upd H4 D (.lst (acc ++ [y]))) else Nx H3) := by
  refine lc_it w (fun i H => Same H1 H ∧ ∃ acc : List V, H D = some (.lst acc) ∧ acc.length = i ∧ ∀ (j : Nat) (y : V), acc[j]? = some y → R j y H) ⟨same_new hD, [], upd_same, rfl, fun j y z => by simp at z⟩ (fun i H _ h => hG H h.1) (fun i x H H' hi h y => ?_) (fun H h => by
    obtain ⟨s, acc, h1, h2, h3⟩ := h
    exact hd H acc s h1 h2 h3)
  obtain ⟨s1, acc, hl, len, ha⟩ := h
  obtain ⟨rfl, hx⟩ := y
  refine ⟨hw x, ?_⟩
  unfold tYes
  dsimp only
  rw [if_pos rfl]
  refine hs i x _ _ hx s1 ⟨_, hl⟩ fun y H4 s4 hy => ⟨acc, s4 _ _ hl, by omega, fun b o e => ?_, acc ++ [y], upd_same, by rw [List.length_append, len]; rfl, fun j z hz => ?_⟩
  · rw [upd_ne (ne_of_none e hD)]
    exact s4 _ _ (s1 _ _ e)
  · rcases Nat.lt_or_ge j acc.length with q | q
    · rw [List.getElem?_append_left q] at hz
      exact hR _ _ _ _ (hR _ _ _ _ (ha j z hz) (But.of_same s4)) But.upd
    · rw [List.getElem?_append_right q] at hz
      have ej : j - acc.length = 0 := by
        rcases Nat.eq_zero_or_pos (j - acc.length) with z | z
        · exact z
        · rw [List.getElem?_eq_none (by rw [List.length_singleton]; exact z)] at hz
          cases hz
      rw [ej] at hz
      obtain rfl : y = z := by simpa using hz
      obtain rfl : j = i := by omega
      exact hR _ _ _ _ hy But.upd
theorem dp_list {K : PySem.W.Frag} {H : Hp} : ∀ {ys : List V} {ds : List PyData}, ys.length = ds.length → (∀ (i : Nat) (y : V) (d : PyData), ys[i]? = some y → ds[i]? = some d → Dp K H y d) → DpAll K H ys ds
  | [], [], _, _ => .nil
  | y :: ys, d :: ds, l, h => .cons (h 0 y d rfl rfl) (dp_list (Nat.succ.inj l) fun i z e a b => h (i + 1) z e (by simpa using a) (by simpa using b))
  | [], _ :: _, l, _ => by cases l
  | _ :: _, [], l, _ => by cases l
theorem dp_bls {K : PySem.W.Frag} {H : Hp} : ∀ bs : List Bool, DpAll K H (bs.map V.bl) (bs.map PyData.bool)
  | [] => .nil
  | b :: bs => .cons (.bl b) (dp_bls bs)
end
end L2

set_option Elab.async false
set_option linter.all false
set_option maxRecDepth 100000
set_option maxHeartbeats 4000000
/-! A crowd that is made, its own list new; comparisons of crowds; tests whose ways meet; slices. -/
namespace L2
open PySem PySem.Spec PyProof.Rows
section
variable {X : Cx} {e : Expr} {t : TT}
/-- a test by a contract: ways meet -/
def tCutT (P : St → Hp → Bool → Hp → Prop) (t : TT) : TT := fun σ H Q => t σ H (P σ H) ∧ ∀ c H', P σ H c H' → Q c H'
theorem pt_cut (P : St → Hp → Bool → Hp → Prop) (h : PT X e t) : PT X e (tCutT P t) := ⟨fun pins s σ H Q I z => thn (h.run pins s σ H _ I z.1) fun _ _ q => by
  obtain ⟨H1, I1, p⟩ := q
  exact ⟨H1, I1, z.2 _ H1 p⟩⟩
end
/-- Crowd.__init__, the list that it keeps being new -/
def spCrowdNew (K : PySem.W.Frag) (C CB : Addr) : Sp := fun vs H Q E => ∃ (x dx : Addr) (v m : V) (b : Bool) (xs : List V), vs = [.ref x, v, m] ∧ H x = some (.ins C dx []) ∧ ArgP K H v b xs ∧ (∃ T, TyN K H m T) ∧
  (b = false → ∀ H' d, Raised H H' d "part" (.str "people") → E (.ref CB) (some d) H') ∧
  (b = true → markB 1 10 m = false → ∀ H' d, Raised H H' d "part" (.str "most") → E (.ref CB) (some d) H') ∧
  (b = true → ∀ i, m = .int i → markB 1 10 m = true → ∀ H' dx p, But x H H' → H p = none → H' x = some (.ins C dx (crowdFs p i)) → H' p = some (.lst xs) → Q .non H')
section
variable {K : PySem.W.Frag} {σ : St} {H : Hp} {Q : VK}
theorem rd_made {C CB : Addr} {m : Int} {xs : List V} {t : TA} (hm : markB 1 10 (.int m) = true) (ht : ∀ Q' : List V → Hp → Prop, (∀ H1 v, Same H H1 → ArgP K H1 v true xs → Q' [v, .int m] H1) → t σ H Q')
    (k : ∀ H' x dx p, Same H H' → H x = none → H p = none → H' x = some (.ins C dx (crowdFs p m)) → H' p = some (.lst xs) → Q (.ref x) H') : tMake C (spCrowdNew K C CB) [] (fun _ _ _ => False) t σ H Q := by
  refine ht _ fun H1 v s1 ha => ?_
  intro x dx nx ndx nex
  have s2 : Same H1 (upd (upd H1 dx (.own x)) x (.ins C dx [])) := fun c o e => by
    rw [upd_ne (ne_of_none e nx), upd_ne (ne_of_none e ndx)]
    exact e
  refine ⟨x, dx, v, .int m, true, xs, rfl, upd_same, ha.same s2, ⟨"int", .base (.int m), by decide⟩, fun z => (nomatch z), fun _ z => ?_, fun _ i hi _ H' dx2 p hB np h1 h2 => ?_⟩
  · rw [hm] at z
    cases z
  · cases V.int.inj hi
    exact ⟨rfl, k H' x dx2 p (s1.trans fun c o e => hB c o (ne_of_none e nx) (s2 _ _ e)) (s1.free nx) (s1.free (s2.free np)) h1 h2⟩
variable {C a b : Addr} {zs ys : List Str} {m n : Int} {E : XK}
theorem rd_eqC (nf : PySem.W.notFirst K C (.ref C) = true) (ha : CrowdOf H C a zs m) (hb : CrowdOf H C b ys n) (oz : ∀ z ∈ zs, PyData.strOk z = true) (oy : ∀ z ∈ ys, PyData.strOk z = true) (q : Q (.bl (decide (m = n) && decide (zs = ys))) H) :
    rEqOwn K C (spCrowdEq K C) E (.ref a) (.ref b) H Q := by
  obtain ⟨dx, p, h1, h2⟩ := id ha
  obtain ⟨dy, p2, h3, h4⟩ := id hb
  exact ⟨a, dx, b, _, _, rfl, rfl, h1, .ins h3, nf, a, b, zs, m, rfl, ha, oz, .inl ⟨ys, n, hb, oy, _, rfl, q⟩⟩
theorem rd_eqL {xs : List V} (nf : PySem.W.notFirst K C (.type "list") = true) (ha : CrowdOf H C a zs m) (hb : H b = some (.lst xs)) (oz : ∀ z ∈ zs, PyData.strOk z = true) (q : Q (.bl false) H) :
    rEqOwn K C (spCrowdEq K C) E (.ref a) (.ref b) H Q := by
  obtain ⟨dx, p, h1, h2⟩ := id ha
  exact ⟨a, dx, b, _, _, rfl, rfl, h1, .lst hb, nf, a, b, zs, m, rfl, ha, oz, .inr ⟨⟨_, hb⟩, _, rfl, q⟩⟩
theorem rd_neC (ha : CrowdOf H C a zs m) (hb : CrowdOf H C b ys n) (oz : ∀ z ∈ zs, PyData.strOk z = true) (oy : ∀ z ∈ ys, PyData.strOk z = true) (q : Q (.bl (!(decide (m = n) && decide (zs = ys)))) H) :
    rNeOwn C (spCrowdEq K C) E (.ref a) (.ref b) H Q := by
  obtain ⟨dx, p, h1, h2⟩ := id ha
  obtain ⟨dy, p2, h3, h4⟩ := id hb
  exact ⟨a, dx, b, dy, _, _, rfl, rfl, h1, h3, a, b, zs, m, rfl, ha, oz, .inl ⟨ys, n, hb, oy, _, rfl, q⟩⟩
end
section
variable {i j : Nat} {ta : TE} {tr t : TA} {T U : TS} {D : Ends} {v : V} {σ : St} {H : Hp} {Q : List V → Hp → Prop} {R : St → Hp → Prop}
theorem st_name (h : R (List.set σ i (some v)) H) : gName i v σ H R := h
theorem st_seq (h : T { nx := U D, rt := D.rt, bk := D.bk, ct := D.ct } σ H) : tSeq T U D σ H := h
theorem st_par (h : t σ H fun vs H1 => ∃ v w, vs = [v, w] ∧ D.nx ((List.set σ i (some v)).set j (some w)) H1) : tPar i j t D σ H := h
theorem st_cons (h : ta σ H fun x H1 => tr σ H1 fun xs H2 => Q (x :: xs) H2) : tCons ta tr σ H Q := h
end
theorem km_take {xs : List V} (k : Nat) : cutV xs none (some (k : Int)) = xs.take k := by
  unfold cutV
  rw [HT.sIx_none, HT.sIx_nat, List.drop_zero, Nat.sub_zero]
  rcases Nat.le_total k xs.length with h | h
  · rw [Nat.min_eq_left h]
  · rw [Nat.min_eq_right h, List.take_of_length_le h, List.take_of_length_le (Nat.le_refl _)]
theorem km_drop {xs : List V} (k : Nat) : cutV xs (some (k : Int)) none = xs.drop k := by
  unfold cutV
  rw [HT.sIx_none, HT.sIx_nat]
  rcases Nat.le_total k xs.length with h | h
  · rw [Nat.min_eq_left h, List.take_of_length_le (by rw [List.length_drop]; exact Nat.le_refl _)]
  · rw [Nat.min_eq_right h, List.drop_of_length_le h, List.drop_of_length_le (Nat.le_refl _), List.take_nil]
theorem extN_sq {K : PySem.W.Frag} {H G : Hp} {a : Addr} {xs : List V} (e : LamX.ExtN H G) (h : SqL K H a xs) : SqL K G a xs := by
  unfold SqL Rd at h ⊢
  rcases h with (h | ⟨o, h⟩) | h
  · exact .inl (.inl (e _ _ h fun ps z => (nomatch z)))
  · exact .inl (.inr ⟨o, e _ _ h fun ps z => (nomatch z)⟩)
  · exact .inr h
theorem CrowdAt.extN {H G : Hp} {C x : Addr} {xs : List V} {m : Int} (e : LamX.ExtN H G) (h : CrowdAt H C x xs m) : CrowdAt G C x xs m := by
  obtain ⟨dx, p, h1, h2⟩ := h
  exact ⟨dx, p, e _ _ h1 fun ps z => (nomatch z), e _ _ h2 fun ps z => (nomatch z)⟩
theorem more_word : wordB "more" = true ∧ ("more" : Str) ∉ names8 ∧ PyData.strOk "more" = true ∧ ("more" : Str).length ≤ 1000 := by decide +kernel
theorem Drawn8.more {zs : List Str} (d : Drawn8 zs) (h : zs.length < 8) : peopleB ((zs ++ [("more" : Str)]).map V.str) = true := by
  show ((decide (1 ≤ ((zs ++ [("more" : Str)]).map V.str).length) && decide (((zs ++ [("more" : Str)]).map V.str).length ≤ 8)) && (((zs ++ [("more" : Str)]).map V.str).all isW && decide ((zs ++ [("more" : Str)]).map V.str).Nodup)) = true
  have nd : (zs ++ [("more" : Str)]).Nodup := by
    rw [List.nodup_append]
    refine ⟨d.nd, by simp, fun a ha b hb e => ?_⟩
    rw [List.mem_singleton] at hb
    subst hb
    subst e
    exact more_word.2.1 (d.mem _ ha)
  have al : ((zs ++ [("more" : Str)]).map V.str).all isW = true := by
    rw [List.map_append, List.all_append, d.allW]
    show (true && (wordB "more" && true)) = true
    rw [more_word.1]
    rfl
  rw [al, List.length_map, List.length_append, List.length_singleton, decide_eq_true (show 1 ≤ zs.length + 1 by omega), decide_eq_true (show zs.length + 1 ≤ 8 by omega), decide_eq_true ((nodup_map_inj (f := V.str) (fun _ _ e => V.str.inj e)).mpr nd)]
  rfl
theorem Drawn8.sub {zs ys : List Str} (d : Drawn8 zs) (h : ys.Sublist zs) : Drawn8 ys := ⟨d.nd.sublist h, fun z hz => d.mem z (h.subset hz)⟩
theorem Drawn8.perm {zs ys : List Str} (d : Drawn8 zs) (h : ys.Perm zs) : Drawn8 ys := ⟨h.nodup_iff.mpr d.nd, fun z hz => d.mem z (h.mem_iff.mp hz)⟩
theorem rev_ne {zs : List Str} (nd : zs.Nodup) (h : 1 < zs.length) : zs.reverse ≠ zs := fun e => by
  match zs, nd, h with
  | a :: b :: zr, nd, h =>
    have e1 : (a :: b :: zr).reverse.getLast? = (a :: b :: zr).getLast? := by rw [e]
    rw [List.getLast?_reverse] at e1
    have e2 : (a :: b :: zr).getLast? = some a := e1.symm
    have e3 : a ∈ b :: zr := by
      rw [List.getLast?_cons_cons] at e2
      exact List.mem_of_getLast? e2
    exact (List.nodup_cons.mp nd).1 e3
  | [a], nd, h => exact absurd h (Nat.lt_irrefl 1)
  | [], nd, h => exact absurd h (by decide)
end L2

set_option Elab.async false
set_option linter.all false
set_option maxRecDepth 100000
set_option maxHeartbeats 4000000
/-! Dicts whose keys are tuples: their values and items walked, comprehensions that make them. -/
namespace L2
open PySem PySem.Spec PyProof.Rows
section
variable {X : Cx} {pins : List (Addr × Obj)} {σ : St} {H : Hp} {s : Shared} {d : Addr} {o : Obj}
theorem Inv.frzTV {kvs : List (List Key × V)} (I : Inv X pins σ H s) (h : H d = some (.frz o (.dT kvs))) :
    (d == sysModules) = false ∧ ∃ (es : Array DictEntry) (ep : Nat), s.heap.DictRaw d es ep ∧ o.data = .dict es ep ∧ es.size = kvs.length ∧
      ∀ (i : Nat) (k : List Key) (v : V), kvs[i]? = some (k, v) → ∃ (hi : i < es.size) (q : Addr), es[i].key = .ref q ∧ H q = some (.tup (k.map kV)) ∧ RelV v es[i].val := by
  obtain ⟨hd, z, hs, xs, pr, o', es, ep, ho, hx, hdt, he, _⟩ := I.hok d _ h
  rw [hd] at ho
  cases ho
  have l1 : es.size = xs.length := size_of_entries he
  have l2 : kvs.length = xs.length := Paired.length pr
  refine ⟨hs, es, ep, ⟨o, hd, hx, hdt⟩, hdt, by omega, fun i k v e => ?_⟩
  obtain ⟨b, hb, e1, e2, e3⟩ := paired_get pr e
  have hi : i < es.size := by
    have := (List.getElem?_eq_some_iff.mp e).1
    omega
  have q := entry_at he i
  rw [hb, Array.getElem?_eq_getElem hi, Option.map_some] at q
  have q2 := Option.some.inj q
  exact ⟨hi, b.2.1, by rw [q2]; rfl, e2, by rw [q2]; exact e3⟩
end
theorem raw_noDict {h : Heap} {d : Addr} {es : Array DictEntry} {ep : Nat} (r : h.DictRaw d es ep) : ∀ b, Value.ref d = .ref b → ∃ ob, h.get? b = some ob ∧ ob.dict = none := fun b e => by
  cases e
  obtain ⟨o, ho, hc, _⟩ := r
  exact ⟨o, ho, hc.2.1⟩
/-- the values of the locked dict at d, its keys tuples -/
def Itvt (d : Addr) (o : Obj) (kvs : List (List Key × V)) : It :=
  ⟨fun i H => H d = some (.frz o (.dT kvs)) ∧ i < kvs.length, fun i H x H' => H' = H ∧ ∃ k, kvs[i]? = some (k, x), fun i H => H d = some (.frz o (.dT kvs)) ∧ kvs.length ≤ i⟩
/-- the pairs, each a new tuple of the key's own tuple and the value -/
def Itit (d : Addr) (o : Obj) (kvs : List (List Key × V)) : It :=
  ⟨fun i H => H d = some (.frz o (.dT kvs)) ∧ i < kvs.length, fun i H x H' => ∃ T k v q, kvs[i]? = some (k, v) ∧ x = .ref T ∧ H T = none ∧ H q = some (.tup (k.map kV)) ∧ H' = upd H T (.tup [.ref q, v]), fun i H => H d = some (.frz o (.dT kvs)) ∧ kvs.length ≤ i⟩
section
variable {P : Program} {w : World} {K : PySem.W.Frag} {tg : Expr} {d : Addr} {o : Obj} {es : Array DictEntry} {ep : Nat}
theorem turn_valsT {kvs : List (List Key × V)} (it : Addr) (hod : o.data = .dict es ep) : Turn P w K tg (Itvt d o kvs) [it] it (fun i h => h.IsValIter it d i kvs.length ep) where
  mem := by simp
  obj := fun i h st b hb => by
    have e : b = it := by simpa using hb
    subst e
    obtain ⟨oi, e, c, dd⟩ := st
    exact ⟨oi, e, fun v z => by rw [dd] at z; cases z⟩
  keep := fun i h h' st k => st.at fun oi e => k it (by simp) oi e
  item := by
    intro X hP hw hK hc i pins s σ H E I hf st hg
    subst hP hw hK
    obtain ⟨hd, hi⟩ := hg
    obtain ⟨f0, f1, f2, f3, f4, f5⟩ := hf it (by simp)
    obtain ⟨hs, es', ep', hr, hdt, hsz, ent⟩ := I.frzTV hd
    obtain ⟨rfl, rfl⟩ := dict_ep hod hdt
    obtain ⟨⟨k, v⟩, hkv⟩ : ∃ p, kvs[i]? = some p := ⟨kvs[i], List.getElem?_eq_getElem hi⟩
    obtain ⟨hie, q, hkey, hq, rv⟩ := ent i k v hkv
    rw [← hsz] at st
    refine PySem.wpAny_pyNext_values_item_raw st hr hie fun h' st' sb => ?_
    have I1 : Inv X pins σ H { s with heap := h' } := I.turned (t' := s.toks) (fun b ob hb e => (sb.2 b hb).trans e) f0 f1 f3 f4 f5
    obtain ⟨oi, e, c, dd⟩ := id st'
    refine ⟨_, rfl, go_of (s := { s with heap := h' }) e c dd (by decide) ⟨v, H, I1, rv, ⟨rfl, k, hkv⟩, ?_, fun b hb => (hf b hb).1⟩⟩
    show h'.IsValIter it d (i + 1) kvs.length _
    rw [← hsz]
    exact st'
  done := by
    intro X hP hw hK hc i pins s σ H E I hf st hg
    subst hP hw hK
    obtain ⟨hd, hi⟩ := hg
    obtain ⟨f0, f1, f2, f3, f4, f5⟩ := hf it (by simp)
    obtain ⟨hs, es', ep', hr, hdt, hsz, ent⟩ := I.frzTV hd
    obtain ⟨rfl, rfl⟩ := dict_ep hod hdt
    rw [← hsz] at st
    exact PySem.wpAny_pyNext_values_end_raw (I.ok.hd hc) st hr (by omega) fun h' eb => ⟨rfl, I.turned (t' := s.toks) (fun b ob hb e => eb b ob hb e) f0 f1 f3 f4 f5⟩
  self := fun A i s Q E st h => wpAny_pyIter_valiter st h
theorem turn_itemsT {kvs : List (List Key × V)} {elts : List Expr} {kk : Nat} {tpos : Pos} (it : Addr) (hod : o.data = .dict es ep) :
    Turn P w K (.Tuple elts kk tpos) (Itit d o kvs) [it] it (fun i h => ∃ ok ov, IsItemIter h it d i kvs.length ep ok ov) where
  mem := by simp
  obj := fun i h st b hb => by
    have e : b = it := by simpa using hb
    subst e
    obtain ⟨ok, ov, e⟩ := st
    exact ⟨_, e, fun v z => nomatch z⟩
  keep := fun i h h' st k => let ⟨ok, ov, e⟩ := st; ⟨ok, ov, k it (by simp) _ e⟩
  item := by
    intro X hP hw hK hc i pins s σ H E I hf st hg
    subst hP hw hK
    obtain ⟨hd, hi⟩ := hg
    obtain ⟨hs, es', ep', hr, hdt, hsz, ent⟩ := I.frzTV hd
    obtain ⟨rfl, rfl⟩ := dict_ep hod hdt
    obtain ⟨⟨k, v⟩, hkv⟩ : ∃ p, kvs[i]? = some p := ⟨kvs[i], List.getElem?_eq_getElem hi⟩
    obtain ⟨hie, q, hkey, hq, rv⟩ := ent i k v hkv
    obtain ⟨ok, ov, he⟩ := st
    rw [← hsz] at he
    have hlt : it < s.heap.objs.size := Heap.lt_size he
    refine PySem.wpAny_pyNext_items_item_raw he hr hie fun h' ho hT hz hk => ?_
    refine ⟨_, rfl, wpAny_letOwnedTupleGo_items (s := { s with heap := h' }) ho fun h'' he' sb => ?_⟩
    have hT2 : h''.get? s.heap.objs.size = some { cls := .type "tuple", data := .seq #[es'[i].key, es'[i].val] } := (sb.2 _ (Nat.ne_of_gt hlt)).trans hT
    have new : ObjOk X.prog X.w (upd H s.heap.objs.size (.tup [.ref q, v])) h'' s.heap.objs.size (.tup [.ref q, v]) :=
      ⟨by show 2 ≤ sizeLine; decide, [es'[i].key, es'[i].val], .cons (by rw [hkey]; rfl) (.cons rv .nil), ⟨_, hT2, rfl, _, rfl⟩⟩
    have I1 : Inv X pins σ (upd H s.heap.objs.size (.tup [.ref q, v])) { s with heap := h'' } :=
      I.turnedNew (t' := s.toks) (ch := [it]) (fun b ob hb e => (sb.2 b (by simpa using hb)).trans (hk b ob (by simpa using hb) e)) hf (Nat.le_refl _) new
    refine ⟨.ref s.heap.objs.size, _, I1, rfl, ⟨_, k, v, q, hkv, rfl, I.hok.fresh (Nat.le_refl _), hq, rfl⟩, ⟨es'[i].key, es'[i].val, ?_⟩, fun b hb => ?_⟩
    · rw [← hsz]; exact he'
    · have e : b = it := by simpa using hb
      rw [e, upd_ne (Nat.ne_of_lt hlt)]
      exact (hf it (by simp)).1
  done := by
    intro X hP hw hK hc i pins s σ H E I hf st hg
    subst hP hw hK
    obtain ⟨hd, hi⟩ := hg
    obtain ⟨f0, f1, f2, f3, f4, f5⟩ := hf it (by simp)
    obtain ⟨hs, es', ep', hr, hdt, hsz, ent⟩ := I.frzTV hd
    obtain ⟨rfl, rfl⟩ := dict_ep hod hdt
    obtain ⟨ok, ov, he⟩ := st
    rw [← hsz] at he
    exact PySem.wpAny_pyNext_items_end_raw (I.ok.hd hc) he hr (by omega) fun h' eb => ⟨rfl, I.turned (t' := s.toks) (fun b ob hb e => eb b ob hb e) f0 f1 f3 f4 f5⟩
  self := fun A i s Q E st h => let ⟨_, _, e⟩ := st; PySem.W.kcp_self e h
end
def iValsT (td : TE) : TI := fun σ H R => td σ H fun x H1 => ∃ d o kvs, x = .ref d ∧ H1 d = some (.frz o (.dT kvs)) ∧ R (Itvt d o kvs) H1
def iItemsT (td : TE) : TI := fun σ H R => td σ H fun x H1 => ∃ d o kvs, x = .ref d ∧ H1 d = some (.frz o (.dT kvs)) ∧ R (Itit d o kvs) H1
section
variable {X : Cx} {tg e : Expr} {td : TE} {apos cpos : Pos}
theorem pi_valuesT (he : PE X e td) (hbase : attributeBase e "values" X.env (eval e X.env) = eval e X.env := by rfl) (hline : (apos.endLine == cpos.line) = true := by rfl) : PI X tg (.Call (.Attribute e "values" apos) [] [] cpos) (iValsT td) := by
  refine ⟨fun pins s σ H R I h => ?_⟩
  refine wpAny_Call_method (T := "dict") (id := "dict.values") hbase rfl hline F.plainAttrs_dict F.slot_dict_values F.type_dict_values (thn (he.run pins s σ H _ I h) fun u s1 ⟨x, H1, I1, rx, d, o, kvs, ex, hd, q⟩ => ?_)
  subst ex
  obtain rfl : u = Value.ref d := rx
  obtain ⟨hs, es, ep, hr, hdt, hsz, ent⟩ := I1.frzTV hd
  refine ⟨hr.typeIs, raw_noDict hr, ?_⟩
  have I2 : Inv X pins σ H1 { s1 with heap := s1.heap.push { cls := .type "dict_values", data := .fields #[.ref d] } } := I1.kept (t' := s1.toks) fun b ob q => Heap.get?_push_of_some _ q
  have fin : wpAny (model X.prog X.w) X.A (pyIter (.ref s1.heap.objs.size)) (PIE X pins σ tg R) X.xe { s1 with heap := s1.heap.push { cls := .type "dict_values", data := .fields #[.ref d] } } := by
    refine PySem.wpAny_pyIter_values_raw (d := d) ⟨_, Heap.get?_push_size _ rfl, rfl, rfl⟩ (hr.push _) (pi_one (tk := s1.toks) I2 _ (turn_valsT _ hdt) ⟨_, Heap.get?_push_size _ rfl, rfl, ?_⟩ q)
    rw [hsz] <;> rfl
  show wpAny _ _ (callWith cpos (.builtin "dict.values") [.ref d] [] []) _ X.xe s1
  exact method_meetsIn F.slot_dict_values F.entry_dict_values rfl (PySem.evalArgs_none ⟨rfl, hr.typeIs, F.args_dict_values_1 _, _, PySem.meets_dict_values_raw d hs, ⟨_, _, hr⟩, fin⟩)
theorem pi_itemsT {elts : List Expr} {kk : Nat} {tpos : Pos} (he : PE X e td) (hbase : attributeBase e "items" X.env (eval e X.env) = eval e X.env := by rfl) (hline : (apos.endLine == cpos.line) = true := by rfl) :
    PI X (.Tuple elts kk tpos) (.Call (.Attribute e "items" apos) [] [] cpos) (iItemsT td) := by
  refine ⟨fun pins s σ H R I h => ?_⟩
  refine wpAny_Call_method (T := "dict") (id := "dict.items") hbase rfl hline F.plainAttrs_dict F.slot_dict_items F.type_dict_items (thn (he.run pins s σ H _ I h) fun u s1 ⟨x, H1, I1, rx, d, o, kvs, ex, hd, q⟩ => ?_)
  subst ex
  obtain rfl : u = Value.ref d := rx
  obtain ⟨hs, es, ep, hr, hdt, hsz, ent⟩ := I1.frzTV hd
  refine ⟨hr.typeIs, raw_noDict hr, ?_⟩
  have I2 : Inv X pins σ H1 { s1 with heap := s1.heap.push { cls := .type "dict_items", data := .fields #[.ref d] } } := I1.kept (t' := s1.toks) fun b ob q => Heap.get?_push_of_some _ q
  have fin : wpAny (model X.prog X.w) X.A (pyIter (.ref s1.heap.objs.size)) (PIE X pins σ (.Tuple elts kk tpos) R) X.xe { s1 with heap := s1.heap.push { cls := .type "dict_items", data := .fields #[.ref d] } } := by
    refine PySem.wpAny_pyIter_items_raw (d := d) ⟨_, Heap.get?_push_size _ rfl, rfl, rfl⟩ (hr.push _) (pi_one (tk := s1.toks) I2 _ (turn_itemsT _ hdt) ⟨.none, .none, ?_⟩ q)
    rw [← hsz]
    exact Heap.get?_push_size _ rfl
  show wpAny _ _ (callWith cpos (.builtin "dict.items") [.ref d] [] []) _ X.xe s1
  exact method_meetsIn F.slot_dict_items F.entry_dict_items rfl (PySem.evalArgs_none ⟨rfl, hr.typeIs, F.args_dict_items_1 _, _, PySem.meets_dict_items_raw d hs, ⟨_, _, hr⟩, fin⟩)
end
theorem walk_valuesT {d : Addr} {o : Obj} {kvs : List (List Key × V)} : Walk (Itvt d o kvs) kvs.length (fun H => H d = some (.frz o (.dT kvs))) (fun i H x H' => H' = H ∧ ∃ k, kvs[i]? = some (k, x)) :=
  { goes := fun _ _ hi q => ⟨q, hi⟩, stops := fun _ q => ⟨q, Nat.le_refl _⟩, yields := fun _ _ _ _ _ _ y => y }
theorem walk_itemsT {d : Addr} {o : Obj} {kvs : List (List Key × V)} : Walk (Itit d o kvs) kvs.length (fun H => H d = some (.frz o (.dT kvs)))
    (fun i H x H' => ∃ T k v q, kvs[i]? = some (k, v) ∧ x = .ref T ∧ H T = none ∧ H q = some (.tup (k.map kV)) ∧ H' = upd H T (.tup [.ref q, v])) :=
  { goes := fun _ _ hi q => ⟨q, hi⟩, stops := fun _ q => ⟨q, Nat.le_refl _⟩, yields := fun _ _ _ _ _ _ y => y }
end L2

set_option Elab.async false
set_option linter.all false
set_option maxRecDepth 100000
set_option maxHeartbeats 4000000
/-! {k: v for target in iter if ..} with tuple keys. -/
namespace L2
open PySem PySem.Spec PyProof.Rows
/-- one entry more, by a comprehension -/
theorem dT_set {X : Cx} {pins : List (Addr × Obj)} {σ : St} {H : Hp} {s : Shared} {E : Value → Shared → Prop} {D b : Addr} {kvs : List (List Key × V)} {k : List Key} {v : V} {u r : Value} {Q : Unit → Shared → Prop}
    (hu : X.A.units + 1 < cLine) (I : Inv X pins σ H s) (hD : H D = some (.dT kvs)) (hb : H b = some (.tup (k.map kV))) (hz : kvs.length < sizeLine) (ry : RelV (.ref b) u) (rv : RelV v r)
    (h : ∀ s', Inv X pins σ (upd H D (.dT (putK kvs k v))) s' → Q () s') : wpAny (model X.prog X.w) X.A (dictSet D u r) Q E s := by
  cases (show u = Value.ref b from ry)
  obtain ⟨z, low, xs, rel, dd⟩ := dt_of I.hok hD
  have lx : xs.length ≤ sizeLine := (Paired.length rel) ▸ z
  have lp : (putK kvs k v).length ≤ sizeLine := Nat.le_trans (length_putK kvs k v) hz
  refine PySem.wpAny_dictSet_heap (hsz := lx) (by show X.A.units < cLine; omega) (key_of I.hok hb) dd fun h' dd' hs => h _ ?_
  obtain ⟨q, es, ep, hq, a2, a3, a4, _, a5⟩ := dd'
  have keep : ∀ c ys, H c = some (.tup ys) → upd H D (.dT (putK kvs k v)) c = some (.tup ys) := fun c ys ec => (upd_ne (ne_of ec hD (fun z => nomatch z))).trans ec
  exact d_write I (by rw [hD]; exact True.intro) hs ⟨q, hq⟩ ⟨lp, low, _, (rel.put k hb rv).keeps keep, q, es, ep, hq, a2, a3, a4, a5⟩
/-- what one turn asks: the new dict stands at D -/
def dcTurn (D : Addr) (tt : TT) (tk tv : TE) (Nx : Hp → Prop) : St → Hp → Prop := fun σ H => tt σ H fun b H3 => if b = true then tk σ H3 fun y H4 => tv σ H4 fun z H5 =>
  ∃ kvs k c, y = .ref c ∧ H5 c = some (.tup (k.map kV)) ∧ H5 D = some (.dT kvs) ∧ kvs.length < sizeLine ∧ Nx (upd H5 D (.dT (putK kvs k z))) else Nx H3
def tDcT (wi : TI) (g : TG) (tt : TT) (tk tv : TE) (vs : List Nat) : TE := fun σ H Q => wi σ H fun J H1 => ∀ D, H1 D = none → ∃ W : Nat → Nat → Hp → Prop, (∃ m, W 0 m (upd H1 D (.dT []))) ∧ ∀ i m H, W i m H →
  (J.stop i H ∧ Q (.ref D) H) ∨ (J.go i H ∧ ∃ Nx : Hp → Prop, (∀ H', Nx H' → ∃ m', m' < m ∧ W (i + 1) m' H') ∧ ∀ x H', J.yld i H x H' → g x (wipe σ vs) H' fun σ2 H2 => wipe σ2 vs = wipe σ vs ∧ dcTurn D tt tk tv Nx σ2 H2)
section
variable {X : Cx}
theorem dcT_core {kx vx tg iter : Expr} {ifs : List Expr} {scope : Scope} {own : List (Str × Nat)} {pos : Pos} {wi : TI} {g : TG} {tt : TT} {tk tv : TE} {pins : List (Addr × Obj)} {s : Shared} {σ : St} {H : Hp} {Q : VK} {pos' : Pos} {use : Option (Value → Sem Unit)} {Qf : Value → Shared → Prop} (I : Inv X pins σ H s) (hu : X.A.units + 1 < cLine) (hc : X.calm = true) (hN : X.N.Nodup) (hi : PI X tg iter wi) (ok : BlkOk X.N X.env.scope scope own)
    (hg : ∀ (s : Shared) (H : Hp) (C : Addr) (cl : List (Str × Addr)) (fp : List Addr), PG (X.blk s H scope (compEnvC scope cl C X.env) fp) tg g)
    (ht : ∀ (s : Shared) (H : Hp) (C : Addr) (cl : List (Str × Addr)) (fp : List Addr), PTs (X.blk s H scope (compEnvC scope cl C X.env) fp) ifs tt)
    (hk : ∀ (s : Shared) (H : Hp) (C : Addr) (cl : List (Str × Addr)) (fp : List Addr), PE (X.blk s H scope (compEnvC scope cl C X.env) fp) kx tk)
    (he : ∀ (s : Shared) (H : Hp) (C : Addr) (cl : List (Str × Addr)) (fp : List Addr), PE (X.blk s H scope (compEnvC scope cl C X.env) fp) vx tv)
    (hs : ∀ x, foldedSetIterable iter X.env x = pure x) (h : tDcT wi g tt tk tv (own.map (·.2)) σ H Q)
    (hRR : ∀ D C s' m H', Inv X pins σ H' s' → Q (.ref D) H' → s'.heap.Ns C m → FpOk X pins H' C → compPost (model X.prog X.w) X.A X.xe use Qf (.ref D) C (.ok .next) s') :
    wpAny (model X.prog X.w) X.A (comprehension (.DictComp kx vx [⟨tg, iter, ifs, 0⟩] scope pos) scope X.env pos' newDict false (eval iter X.env) use) Qf X.xe s := by
  have cells : ∀ y ∈ scope.names, y.2 = .free → ∃ c, X.env.cells.lookup y.1 = some c := fun y hy e => (ok.free y hy e).elim (fun k => I.ok.has _ (.inl k)) fun k => I.ok.has _ (.inr k)
  refine wpAny_comprehension_free (use := use) rfl hs (closure_ok cells) ok.kind (fun y hy e => by rw [ok.uniq y hy, e]) (thn (hi.run pins s σ H _ I h) fun xv s1 hx => thn hx fun itv s2 h2 => ?_)
  obtain ⟨it, fp, tn, J, H2, rfl, I2, T, st2, f2, q⟩ := h2
  refine wpAny_newObj_type (newEnv_comp ?_)
  generalize eD : s2.heap.objs.size = D
  obtain ⟨W, ⟨m0, w0⟩, turn⟩ := q D (I2.hok.fresh (Nat.le_of_eq eD))
  generalize e3 : ({ s2 with heap := s2.heap.push { cls := .type "dict", data := .dict #[] } } : Shared) = s3
  have up3 : s3.heap = s2.heap.push { cls := .type "dict", data := .dict #[] } := by rw [← e3]
  have I3 : Inv X pins σ (upd H2 D (.dT [])) s3 := by
    rw [← e3, ← eD]
    exact I2.laid (t' := s2.toks) (fun b o e => Heap.get?_push_of_some _ e) (Nat.le_refl _) (dt_empty s2.heap I2.big)
  have grown : ∀ {b o}, s2.heap.get? b = some o → s3.heap.get? b = some o := fun e => by rw [up3]; exact Heap.get?_push_of_some _ e
  have f3 : ∀ b ∈ fp, FpOk X pins (upd H2 D (.dT [])) b ∧ b < s3.heap.objs.size := fun b hb => by
    obtain ⟨o, e, _⟩ := T.obj _ _ st2 b hb
    have lt := Heap.lt_size e
    refine ⟨⟨?_, (f2 b hb).2⟩, by rw [up3, Heap.size_push]; exact Nat.lt_succ_of_lt lt⟩
    rw [upd_ne (by rw [← eD]; exact Nat.ne_of_lt lt)]
    exact (f2 b hb).1
  have I4 := block_start I3 ok hN f3
  have pg := hg s3 (upd H2 D (.dT [])) s3.heap.objs.size (cellsFrom (s3.heap.objs.size + 1) scope.names (cloFrom X.env.cells scope.names [])) fp
  have pt := ht s3 (upd H2 D (.dT [])) s3.heap.objs.size (cellsFrom (s3.heap.objs.size + 1) scope.names (cloFrom X.env.cells scope.names [])) fp
  have pk := hk s3 (upd H2 D (.dT [])) s3.heap.objs.size (cellsFrom (s3.heap.objs.size + 1) scope.names (cloFrom X.env.cells scope.names [])) fp
  have pv := he s3 (upd H2 D (.dT [])) s3.heap.objs.size (cellsFrom (s3.heap.objs.size + 1) scope.names (cloFrom X.env.cells scope.names [])) fp
  show codeAny (model X.prog X.w) X.A (.compStart (.DictComp kx vx [⟨tg, iter, ifs, 0⟩] scope pos) 0 (.ref it) (.ref D) (compEnvC scope (cellsFrom (s3.heap.objs.size + 1) scope.names (cloFrom X.env.cells scope.names [])) s3.heap.objs.size X.env))
    (compPost (model X.prog X.w) X.A X.xe use Qf (.ref D) s3.heap.objs.size) { s3 with heap := pushCells (s3.heap.push { cls := .type "dict", data := .dict #[] }) scope.names }
  generalize ec : compEnvC scope (cellsFrom (s3.heap.objs.size + 1) scope.names (cloFrom X.env.cells scope.names [])) s3.heap.objs.size X.env = ce at I4 pg pt pk pv ⊢
  have cl : ce.locals = s3.heap.objs.size := by rw [← ec]; rfl
  generalize e4 : ({ s3 with heap := pushCells (s3.heap.push { cls := .type "dict", data := .dict #[] }) scope.names } : Shared) = s4 at I4 ⊢
  generalize eH : upd H2 D (.dT []) = H3 at I3 I4 pg pt pk pv w0 f3
  have st4 : tn 0 s4.heap := T.keep _ _ _ st2 fun b _ o e => by
    rw [← e4]
    exact pushCells_keeps _ _ _ _ (Heap.get?_push_of_some _ (grown e))
  have foot : ∀ {σ' : St} {H' : Hp} {s' : Shared}, Inv (X.blk s3 H3 scope ce fp) [] σ' H' s' → (∀ b ∈ fp, H' b = none) → ∀ b ∈ fp, FpOk (X.blk s3 H3 scope ce fp) [] H' b := fun J' hn b hb =>
    ⟨hn b hb, (J'.ok.exf b hb).1, J'.ok.exfs b hb, .inl hb, fun x c e => (J'.ok.exf b hb).2 x c e, fun p hp => absurd (show p ∈ ([] : List (Addr × Obj)) ++ [] from hp) (by simp)⟩
  have loop : codeAny (model X.prog X.w) X.A (.compLoop (.DictComp kx vx [⟨tg, iter, ifs, 0⟩] scope pos) 0 (.ref it) (.ref D) ce)
      (compPost (model X.prog X.w) X.A X.xe use Qf (.ref D) s3.heap.objs.size) s4 := by
    refine compLoop_anyD (fun n s' => ∃ i H', Inv (X.blk s3 H3 scope ce fp) [] (wipe σ (own.map (·.2))) H' s' ∧ tn i s'.heap ∧ (∀ b ∈ fp, H' b = none) ∧ W i n H') ?_ m0 ⟨0, H3, I4, st4, fun b hb => (f3 b hb).1.1, w0⟩
    rintro n s5 ⟨i, H5, I5, st5, n5, w5⟩
    rcases turn i n H5 w5 with ⟨stop, qq⟩ | ⟨go, Nx, hNx, step⟩
    · refine thnF (T.done (X.blk s3 H3 scope ce fp) rfl rfl rfl hc i [] s5 _ H5 (fun _ _ => False) I5 (foot I5 n5) st5 stop) fun r s6 z => ?_
      obtain ⟨rfl, I6⟩ := z
      have I7 : Inv X pins σ H5 s6 := I3.call' (ch := fp) I6.os I6.base I6.hok I6.bare fun b hb => ⟨(f3 b hb).1.2.2.2.1, (f3 b hb).1.2.1, (f3 b hb).1.2.2.2.2.1, (f3 b hb).1.2.2.2.2.2⟩
      obtain ⟨m, hn, _⟩ := I6.loc
      have free : H5 s3.heap.objs.size = none := cl ▸ (show H5 ce.locals = none from I6.free)
      exact hRR D s3.heap.objs.size s6 m H5 I7 qq (cl ▸ (show s6.heap.Ns ce.locals m from hn)) (I3.fpOk (Nat.le_refl _) free)
    · refine thnF (T.item (X.blk s3 H3 scope ce fp) rfl rfl rfl hc i [] s5 _ H5 (fun _ _ => False) I5 (foot I5 n5) st5 go) fun r s6 z => ?_
      obtain ⟨u, rfl, h6⟩ := z
      refine thnF h6 fun _ s7 z7 => ?_
      obtain ⟨x, H7, I7, r7, y7, st7, n7⟩ := z7
      refine thnF (pg.run _ s7 _ H7 x u _ (I7.pinned (foot I7 n7) (T.obj _ _ st7)) r7 (step x H7 y7)) fun _ s8 z8 => ?_
      obtain ⟨σ8, H8, I8, hw8, q8⟩ := z8
      refine thnF (pt.run _ s8 σ8 H8 _ I8 q8) fun b s9 z9 => ?_
      obtain ⟨H9, I9, q9⟩ := z9
      have close : ∀ {s' : Shared} {H' : Hp}, Inv (X.blk s3 H3 scope ce fp) ([] ++ pinsAt fp s7.heap) σ8 H' s' → Nx H' → ∃ m, m < n ∧ ∃ i H', Inv (X.blk s3 H3 scope ce fp) [] (wipe σ (own.map (·.2))) H' s' ∧ tn i s'.heap ∧ (∀ b ∈ fp, H' b = none) ∧ W i m H' := fun {s' H'} I' nx => by
        obtain ⟨m', lt, w'⟩ := hNx H' nx
        have pin : ∀ b ∈ fp, ∀ o, s7.heap.get? b = some o → s'.heap.get? b = some o ∧ H' b = none := fun b hb o e =>
          let z := I'.pin (b, o) (List.mem_append_right _ (List.mem_append_right _ (mem_pinsAt hb e)))
          ⟨z.1, z.2.1⟩
        refine ⟨m', lt, i + 1, H', (I'.unpinned (pins := [])).weak (by rw [← hw8, wipe_length]) (fun j v e => ?_), T.keep _ _ _ st7 fun b hb o e => (pin b hb o e).1, fun b hb => ?_, w'⟩
        · exact (wipe_some (hw8.symm ▸ e)).1
        · obtain ⟨o, e, _⟩ := T.obj _ _ st7 b hb
          exact (pin b hb o e).2
      cases b with
      | false => exact close I9 q9
      | true =>
        refine thnF (pk.run _ s9 σ8 H9 _ I9 q9) fun z s10 z10 => ?_
        obtain ⟨yk, H10, I10, r10, q10⟩ := z10
        refine thnF (pv.run _ s10 σ8 H10 _ I10 q10) fun z2 s11 z11 => ?_
        obtain ⟨yv, H11, I11, r11, kvs, k, c, rfl, hcK, hD, hz, nx⟩ := z11
        exact dT_set (X := X.blk s3 H3 scope ce fp) hu I11 hD hcK hz r10 r11 fun s12 I12 => close I12 nx
  exact codeAny_compStart_dict loop (T.self X.A 0 _ _ _ st4 loop)

theorem pe_dcT {kx vx tg iter : Expr} {ifs : List Expr} {scope : Scope} {own : List (Str × Nat)} {pos : Pos} {wi : TI} {g : TG} {tt : TT} {tk tv : TE} (hu : X.A.units + 1 < cLine) (hc : X.calm = true) (hN : X.N.Nodup) (hi : PI X tg iter wi) (ok : BlkOk X.N X.env.scope scope own)
    (hg : ∀ (s : Shared) (H : Hp) (C : Addr) (cl : List (Str × Addr)) (fp : List Addr), PG (X.blk s H scope (compEnvC scope cl C X.env) fp) tg g)
    (ht : ∀ (s : Shared) (H : Hp) (C : Addr) (cl : List (Str × Addr)) (fp : List Addr), PTs (X.blk s H scope (compEnvC scope cl C X.env) fp) ifs tt)
    (hk : ∀ (s : Shared) (H : Hp) (C : Addr) (cl : List (Str × Addr)) (fp : List Addr), PE (X.blk s H scope (compEnvC scope cl C X.env) fp) kx tk)
    (he : ∀ (s : Shared) (H : Hp) (C : Addr) (cl : List (Str × Addr)) (fp : List Addr), PE (X.blk s H scope (compEnvC scope cl C X.env) fp) vx tv)
    (hs : ∀ x, foldedSetIterable iter X.env x = pure x := by intro _; rfl) : PE X (.DictComp kx vx [⟨tg, iter, ifs, 0⟩] scope pos) (tDcT wi g tt tk tv (own.map (·.2))) := by
  refine ⟨fun pins s σ H Q I h => ?_⟩
  rw [arm_eval_DictComp]
  refine dcT_core I hu hc hN hi ok hg ht hk he hs h fun D C s' m H' I' q hn f => ⟨m, hn, fun h'' sb => ?_⟩
  obtain ⟨g0, g1, _, g3, g4, g5⟩ := f
  exact ⟨.ref D, H', I'.turned (t' := s'.toks) (fun b o hb e => (sb.2 b hb).trans e) g0 g1 g3 g4 g5, rfl, q⟩
theorem swD_true {scope : Scope} {pos py : Pos} {kx vx : Expr} {gs : List Comprehension} {y : Str} {l : Nat} {env : Env} (hk : env.scope.kind = .function) (hy : env.scope.names.lookup y = some .local) (hl : (py.line == pos.line) = true)
    (ha : (scope.names.any fun (n, k) => n == y && (k == .local || k == .cell)) = false) : swapsWith (.DictComp kx vx gs scope pos) (some (.Name y py)) l env = pure true := by
  have b1 : env.kindOf y = some .local := hy
  have b2 : env.blockKind = .function := by
    unfold Env.blockKind
    rw [hk]
    rfl
  unfold swapsWith
  simp only [b1, b2, ha, Expr.pos, hl]
  rfl
/-- name = {..} on one line -/
theorem ps_setDcT {kx vx tg iter : Expr} {ifs : List Expr} {scope : Scope} {own : List (Str × Nat)} {pos : Pos} {wi : TI} {g : TG} {tt : TT} {tk tv : TE} {i : Nat} {y : Str} {py spos : Pos} (hu : X.A.units + 1 < cLine) (hc : X.calm = true) (hN : X.N.Nodup) (hy : X.N[i]? = some y) (hyl : X.env.scope.names.lookup y = some .local) (hsw : swapsWith (.DictComp kx vx [⟨tg, iter, ifs, 0⟩] scope pos) (some (.Name y py)) spos.line X.env = pure true)
    (hi : PI X tg iter wi) (ok : BlkOk X.N X.env.scope scope own)
    (hg : ∀ (s : Shared) (H : Hp) (C : Addr) (cl : List (Str × Addr)) (fp : List Addr), PG (X.blk s H scope (compEnvC scope cl C X.env) fp) tg g)
    (ht : ∀ (s : Shared) (H : Hp) (C : Addr) (cl : List (Str × Addr)) (fp : List Addr), PTs (X.blk s H scope (compEnvC scope cl C X.env) fp) ifs tt)
    (hk : ∀ (s : Shared) (H : Hp) (C : Addr) (cl : List (Str × Addr)) (fp : List Addr), PE (X.blk s H scope (compEnvC scope cl C X.env) fp) kx tk)
    (he : ∀ (s : Shared) (H : Hp) (C : Addr) (cl : List (Str × Addr)) (fp : List Addr), PE (X.blk s H scope (compEnvC scope cl C X.env) fp) vx tv) (hs : ∀ x, foldedSetIterable iter X.env x = pure x := by intro _; rfl) : PS X (.Assign [.Name y py] (.DictComp kx vx [⟨tg, iter, ifs, 0⟩] scope pos) spos) (tAsg (tDcT wi g tt tk tv (own.map (·.2))) (gName i)) := by
  refine ⟨fun pins s σ H D I h => ?_⟩
  rw [exec_Assign_Name_used _ _ _ _ hsw]
  refine wpAny_bind (wpAny_standAt (wpAny_bind ?_))
  show wpAny _ X.A (do let _ ← comprehension (.DictComp kx vx [⟨tg, iter, ifs, 0⟩] scope pos) scope X.env (firstIterPos [⟨tg, iter, ifs, 0⟩] pos) newDict false (eval iter X.env) (some (assign (.Name y py) X.env))) _ _ s
  have z : tDcT wi g tt tk tv (own.map (·.2)) σ H (fun x H1 => gName i x σ H1 D.nx) := h
  refine wpAny_bind (thn (dcT_core (Qf := fun _ s' => SP X pins D .next s') I hu hc hN hi ok hg ht hk he hs z fun L C s' m H' I' q hn f => ?_) fun _ s' hq => wpAny_pure (wpAny_pure hq))
  obtain ⟨g0, g1, _, g3, g4, g5⟩ := f
  show wpAny _ _ (assign (.Name y py) X.env (.ref L)) _ _ _
  refine wpAny_assign_Name (store_ok2 (v := V.ref L) I' hN hy (.inl hyl) rfl (fun s2 I2 st => ?_) (.inr hyl))
  obtain ⟨a, sb, ha⟩ := st
  have apart : C ≠ a := ha.elim (fun z => z ▸ g1) fun z e => g4 y a z e.symm
  exact ⟨m, hn.sameBut sb apart, fun h3 sb3 => ⟨_, H', I2.turned (t' := s2.toks) (fun b o hb e => (sb3.2 b hb).trans e) g0 g1 g3 g4 g5, q⟩⟩
end
end L2

set_option Elab.async false
set_option linter.all false
set_option maxRecDepth 100000
set_option maxHeartbeats 4000000
/-! Dicts with tuple keys: d.clear(), list(d.values()), dict(list of pairs). -/
namespace L2
open PySem PySem.Spec PyProof.Rows
theorem vals_at : ∀ {xs : List V} {us : List Value}, xs.length = us.length → (∀ (j : Nat) x u, xs[j]? = some x → us[j]? = some u → RelV x u) → Vals xs us
  | [], [], _, _ => .nil
  | [], _ :: _, h, _ => by cases h
  | _ :: _, [], h, _ => by cases h
  | x :: xs, u :: us, h, r => .cons (r 0 x u rfl rfl) (vals_at (Nat.succ.inj h) fun j a b h1 h2 => r (j + 1) a b h1 h2)
section
variable {X : Cx}
/-- the entries of a dict with tuple keys -/
theorem Inv.rawT {pins : List (Addr × Obj)} {σ : St} {H : Hp} {s : Shared} {d : Addr} {kvs : List (List Key × V)} (I : Inv X pins σ H s) (h : H d = some (.dT kvs)) :
    (d == sysModules) = false ∧ ∃ (es : Array DictEntry) (ep : Nat), s.heap.DictRaw d es ep ∧ es.size = kvs.length ∧ kvs.length ≤ sizeLine ∧
      ∀ (i : Nat) (k : List Key) (v : V), kvs[i]? = some (k, v) → ∃ (hi : i < es.size) (q : Addr), es[i].key = .ref q ∧ H q = some (.tup (k.map kV)) ∧ RelV v es[i].val := by
  obtain ⟨z, low, xs, pr, o, es, ep, ho, hx, hdt, he, _⟩ := (show ObjOk X.prog X.w H s.heap d (.dT kvs) from I.hok d _ h)
  have l1 : es.size = xs.length := size_of_entries he
  have l2 : kvs.length = xs.length := Paired.length pr
  refine ⟨low, es, ep, ⟨o, ho, hx, hdt⟩, by omega, z, fun i k v e => ?_⟩
  obtain ⟨b, hb, _, e2, e3⟩ := paired_get pr e
  have hi : i < es.size := by
    have := (List.getElem?_eq_some_iff.mp e).1
    omega
  have q := entry_at he i
  rw [hb, Array.getElem?_eq_getElem hi, Option.map_some] at q
  have q2 := Option.some.inj q
  exact ⟨hi, b.2.1, by rw [q2]; rfl, e2, by rw [q2]; exact e3⟩
def rClearT : V → List V → Hp → VK → Prop := fun x xs H Q => ∃ (a : Addr) (kvs : List (List Key × V)), x = .ref a ∧ xs = [] ∧ H a = some (.dT kvs) ∧ Q .non (upd H a (.dT []))
theorem mt_clearT : MtR X "dict.clear" rClearT := by
  intro pins s σ H x xs v us Q I rx rxs h
  obtain ⟨a, kvs, rfl, rfl, ha, q⟩ := h
  cases rx
  cases rxs
  obtain ⟨low, es, ep, hr, hsz, z, _⟩ := I.rawT ha
  refine call_meetsIn PySem.F.slot_dict_clear hr.typeIs PySem.F.entry_dict_clear (PySem.F.args_dict_clear_1 _) (meets_dict_clear_raw a) ⟨es, ep, hr, by omega, fun h' hr' hs' => ?_⟩
  obtain ⟨o, ho, hc, hdat⟩ := hr'
  exact ⟨.non, _, d_write (t' := s.toks) (ob := .dT []) I (by rw [ha]; exact True.intro) hs' ⟨o, ho⟩ (show ObjOk X.prog X.w _ _ _ (.dT []) from ⟨Nat.zero_le _, low, [], .nil, o, #[], ep + 1, ho, hc, hdat, rfl, List.nodup_nil⟩), rfl, q⟩
/-- the view d.values() at p -/
def valsO (p d : Addr) : HO := .ext fun h => h.IsValuesView p d
def rValuesT : V → List V → Hp → VK → Prop := fun x xs H Q => ∃ (a : Addr) (kvs : List (List Key × V)), x = .ref a ∧ xs = [] ∧ H a = some (.dT kvs) ∧ ∀ p, H p = none → Q (.ref p) (upd H p (valsO p a))
theorem mt_valuesT : MtR X "dict.values" rValuesT := by
  intro pins s σ H x xs v us Q I rx rxs h
  obtain ⟨a, kvs, rfl, rfl, ha, q⟩ := h
  cases rx
  cases rxs
  obtain ⟨low, es, ep, hr, hsz, z, _⟩ := I.rawT ha
  refine call_meetsIn PySem.F.slot_dict_values hr.typeIs PySem.F.entry_dict_values (PySem.F.args_dict_values_1 _) (meets_dict_values_raw a low) ⟨⟨es, ep, hr⟩, ?_⟩
  have e : (s.heap.push { cls := .type "dict_values", data := .fields #[.ref a] }).get? s.heap.objs.size = some { cls := .type "dict_values", data := .fields #[.ref a] } := Heap.get?_push_size _ rfl
  refine ⟨.ref s.heap.objs.size, upd H s.heap.objs.size (valsO s.heap.objs.size a), I.laid (t' := s.toks) (fun b u e => Heap.get?_push_of_some _ e) (Nat.le_refl _) ?_, rfl, q _ (I.hok.fresh (Nat.le_refl _))⟩
  exact ⟨⟨_, e, rfl, rfl⟩, ⟨_, e⟩, fun h1 h2 x k => let ⟨o, ho, r⟩ := x; ⟨o, k o ho, r⟩⟩
/-- list(d.values()) -/
theorem call_list_vals (hc : X.calm = true) : CallR X (.type "list") (fun xs H Q => ∃ p d kvs, xs = [V.ref p] ∧ H p = some (valsO p d) ∧ H d = some (.dT kvs) ∧ ∀ l, H l = none → Q (.ref l) (upd H l (.lst (kvs.map (·.2))))) := by
  intro pins s σ H xs us Q I r h
  obtain ⟨p, d, kvs, rfl, hp, hd, q⟩ := h
  obtain ⟨u, rfl, rx⟩ := r.one
  cases rx
  obtain ⟨low, es, ep, hr, hsz, z, ent⟩ := I.rawT hd
  have hv : s.heap.IsValuesView p d := (show ObjOk X.prog X.w H s.heap p (valsO p d) from I.hok p _ hp).1
  refine PySem.W.kdl_call (KdlSrc.rawValues (r := p) (d := d) (es := es) (ep := ep)) (I.ok.hd hc) ⟨hv, hr⟩ (by omega) fun h' tk acc' c' kp e it => ?_
  have len : acc'.toList.length = kvs.length := by rw [Array.length_toList, it.1, hsz]
  have rv : Vals (kvs.map (·.2)) acc'.toList := vals_at (by rw [List.length_map, len]) fun j x u hx hu => by
    rw [List.getElem?_map] at hx
    cases hj : kvs[j]? with
    | none =>
      rw [hj] at hx
      cases hx
    | some kv =>
      rw [hj] at hx
      obtain rfl := Option.some.inj hx
      obtain ⟨hi, q, _, _, r2⟩ := ent j kv.1 kv.2 hj
      obtain ⟨hi2, e2⟩ := it.2 j u (by rw [← Array.getElem?_toList]; exact hu)
      rw [e2]
      exact r2
  refine ⟨.ref s.heap.objs.size, _, I.laid (t' := tk) (o := .lst (kvs.map (·.2))) kp (Nat.le_refl _) ?_, rfl, q _ (I.hok.fresh (Nat.le_refl _))⟩
  exact ⟨by rw [List.length_map]; exact z, acc'.toList, c', rv, by rw [Array.toArray_toList]; exact e⟩
end
end L2

set_option Elab.async false
set_option linter.all false
set_option maxRecDepth 100000
set_option maxHeartbeats 4000000
/-! dict(list of pairs), the first of each a tuple, all unlike. -/
namespace L2
open PySem PySem.Spec PyProof.Rows
/-- the pairs of a list that makes a dict with tuple keys: p a tuple of the key's tuple and the value -/
def IsPairT (H : Hp) (p : Addr) (kv : List Key × V) : Prop := ∃ q, H p = some (.tup [.ref q, kv.2]) ∧ H q = some (.tup (kv.1.map kV))
section
variable {X : Cx}
theorem pairsT_of {pins : List (Addr × Obj)} {σ : St} {H : Hp} {s : Shared} (I : Inv X pins σ H s) : ∀ {ps : List Addr} {kvs : List (List Key × V)}, Paired (IsPairT H) ps kvs →
    ∃ xs : List (List Key × Addr × Value), KT H kvs xs ∧ xs.length = ps.length ∧ ∀ (j : Nat) (x : List Key × Addr × Value), xs[j]? = some x → ∃ b, ps[j]? = some b ∧ s.heap.IsTuple b #[.ref x.2.1, x.2.2] ∧ H x.2.1 = some (.tup (x.1.map kV))
  | _, _, .nil => ⟨[], .nil, rfl, fun j x e => by simp at e⟩
  | _, _, .cons (a := p) (b := kv) h t => by
    obtain ⟨xs, r, hl, hp⟩ := pairsT_of I t
    obtain ⟨q, h1, h2⟩ := h
    obtain ⟨_, its, rv, ht⟩ := (show ObjOk X.prog X.w H s.heap p (.tup [.ref q, kv.2]) from I.hok p _ h1)
    obtain ⟨u, y, rfl, ru, ry⟩ := vals2 rv
    cases ru
    refine ⟨(kv.1, q, y) :: xs, .cons ⟨rfl, h2, ry⟩ r, by rw [List.length_cons, List.length_cons, hl], fun j x e => ?_⟩
    cases j with
    | zero =>
      obtain rfl := Option.some.inj e
      exact ⟨p, rfl, by obtain ⟨o, a, b, n, c⟩ := ht; exact ⟨o, a, b, n, c⟩, h2⟩
    | succ j => exact hp j x e
theorem call_dictT (hc : X.calm = true) (hu : X.A.units + 2 < cLine) : CallR X (.type "dict") (fun xs H Q => ∃ (a : Addr) (ps : List Addr) (kvs : List (List Key × V)), xs = [.ref a] ∧ H a = some (.lst (ps.map V.ref)) ∧ Paired (IsPairT H) ps kvs ∧ (kvs.map (·.1)).Nodup ∧
    ∀ p, H p = none → Q (.ref p) (upd H p (.dT kvs))) := by
  intro pins s σ H xs us Q I r h
  obtain ⟨a, ps, kvs, rfl, ha, hp, nd, q⟩ := h
  obtain ⟨u, rfl, rx⟩ := r.one
  cases rx
  obtain ⟨z, its, n, rv, ho⟩ := (show ObjOk X.prog X.w H s.heap a (.lst (ps.map V.ref)) from I.hok a _ ha)
  obtain rfl := refs_at rv
  rw [List.length_map] at z
  obtain ⟨ys, rel, hl, at_⟩ := pairsT_of I hp
  have lk : kvs.length = ys.length := Paired.length rel
  have keys : ys.map (·.1) = kvs.map (·.1) := by
    clear at_ hl lk nd q hp
    induction rel with
    | nil => rfl
    | cons h t ih => rw [List.map_cons, List.map_cons, ih, h.1]
  have ndy : (ys.map (·.1)).Nodup := keys ▸ nd
  let Ts : Nat → Addr := fun j => (ps[j]?).getD 0
  let prs : List (Value × Value) := ys.map fun x => (Value.ref x.2.1, x.2.2)
  have lp : prs.length = ys.length := List.length_map ..
  have items : PairItems s.heap (ps.map Value.ref).toArray Ts prs := by
    refine ⟨by rw [List.size_toArray, List.length_map, lp, hl], fun j k v e => ?_⟩
    rw [List.getElem?_map] at e
    cases hj : ys[j]? with
    | none =>
      rw [hj] at e
      cases e
    | some x =>
      rw [hj] at e
      cases e
      obtain ⟨b, hb, ht, _⟩ := at_ j x hj
      have eT : Ts j = b := by show (ps[j]?).getD 0 = b; rw [hb]; rfl
      rw [eT]
      exact ⟨by rw [List.getElem?_toArray, List.getElem?_map, hb]; rfl, .inl ht⟩
  have stay : ∀ h', (∀ b o, b ≠ s.heap.objs.size → b ∉ ([] : List Addr) → s.heap.get? b = some o → h'.get? b = some o) → ∀ x ∈ ys, (tupleKind (mixKind X.prog X.w)).is h' x.1 x.2.1 := fun h' hk x hx => by
    obtain ⟨j, hj⟩ := List.mem_iff_getElem?.mp hx
    obtain ⟨b, _, _, hq⟩ := at_ j x hj
    obtain ⟨o, arr, m, k1, k2, k3, k4⟩ := key_of I.hok hq
    exact ⟨o, arr, m, hk _ _ (Nat.ne_of_lt (Heap.lt_size k1)) (by simp) k1, k2, k3, k4⟩
  refine call_dict_pairsH (knd := tupleKind (mixKind X.prog X.w)) (ps := ys) (PairArg.list a (ps.map Value.ref).toArray Ts prs) (I.ok.hd hc) (by show X.A.units + 1 + 1 < cLine; exact hu) ⟨⟨_, n, ho, rfl, rfl, rfl⟩, items⟩ ⟨lp.symm, fun i key v e => ?_⟩ stay (by omega) fun h' tk hd' hk => ?_
  · have e2 : (ys.map fun x => (Value.ref x.2.1, x.2.2))[i]? = some (key, v) := e
    rw [List.getElem?_map] at e2
    cases hj : ys[i]? with
    | none =>
      rw [hj] at e2
      cases e2
    | some x =>
      rw [hj] at e2
      cases e2
      exact ⟨x.1, x.2.1, rfl, rfl⟩
  · rw [storedAllH_nil_of_nodup ys ndy] at hd'
    have low : (s.heap.objs.size == sysModules) = false := beq_eq_false_iff_ne.mpr (Nat.ne_of_gt I.big)
    obtain ⟨o, es, ep, g1, g2, g3, g4, _, g5⟩ := hd'
    have new : ∀ c zs, H c = some (.tup zs) → upd H s.heap.objs.size (.dT kvs) c = some (.tup zs) := fun c zs e => (upd_ne (Nat.ne_of_lt (I.hok.lt e))).trans e
    refine ⟨.ref s.heap.objs.size, upd H s.heap.objs.size (.dT kvs), I.laid (t' := tk) (fun b o e => hk b o (by simp) e) (Nat.le_refl _) (show ObjOk X.prog X.w _ _ _ (.dT kvs) from ⟨by omega, low, ys, rel.keeps new, o, es, ep, g1, g2, g3, g4, g5⟩), rfl, q _ (I.hok.fresh (Nat.le_refl _))⟩
end
end L2

set_option Elab.async false
set_option linter.all false
set_option maxRecDepth 100000
set_option maxHeartbeats 4000000
/-! == and != of two dicts with tuple keys, their values None and integers. -/
namespace L2
open PySem PySem.Spec PyProof.Rows
/-- None, or an integer -/
def isMk : V → Bool
  | .non => true
  | .int _ => true
  | _ => false
theorem eqAt_mk {A : Around} {s : Shared} {v w : V} {u u' : Value} (hv : isMk v = true) (hw : isMk w = true) (r : RelV v u) (r' : RelV w u') : SeqAt.EqAt A s u u' (decide (v = w)) := by
  cases v with
  | non =>
    cases (show u = Value.none from r)
    cases w with
    | non =>
      cases (show u' = Value.none from r')
      exact SeqAt.EqAt.same _
    | int j =>
      obtain ⟨t, rfl⟩ := (show ∃ t, u' = Value.int j t from r')
      exact SeqAt.EqAt.none_int j t
    | _ => cases hw
  | int i =>
    obtain ⟨t, rfl⟩ := (show ∃ t, u = Value.int i t from r)
    cases w with
    | non =>
      cases (show u' = Value.none from r')
      exact SeqAt.EqAt.int_none i t
    | int j =>
      obtain ⟨t', rfl⟩ := (show ∃ t, u' = Value.int j t from r')
      have e : decide (V.int i = V.int j) = (i == j) := by
        by_cases h : i = j
        · subst h
          simp
        · rw [decide_eq_false (fun z => h (V.int.inj z))]
          simp [h]
      rw [e]
      exact SeqAt.EqAt.int_int i t j t'
    | _ => cases hw
  | _ => cases hv
theorem valV_mem {κ : Type} [DecidableEq κ] {kvs : List (κ × V)} {k : κ} {v : V} (h : valV kvs k = some v) : ∃ q ∈ kvs, q.2 = v := by
  unfold valV at h
  obtain ⟨q, hq, e⟩ := Option.map_eq_some_iff.mp h
  exact ⟨q, List.mem_of_find?_eq_some hq, e⟩
/-- the entries of ka are those of kb -/
def sameB (ka kb : List (List Key × V)) : Bool := decide (ka.length = kb.length) && ka.all fun p => decide (valV kb p.1 = some p.2)
section
variable {X : Cx} {pins : List (Addr × Obj)} {σ : St} {H : Hp} {s : Shared} {E : Value → Shared → Prop} {a b : Addr} {ka kb : List (List Key × V)}
theorem samePairsT {A : Around} {nm : String} {Q : Bool → Shared → Prop} (hu : A.units + 1 < cLine) (I : Inv X pins σ H s) (ha : H a = some (.dT ka)) (hb : H b = some (.dT kb)) (ma : ∀ p ∈ ka, isMk p.2 = true) (mb : ∀ p ∈ kb, isMk p.2 = true) (h : Q (sameB ka kb) s) :
    wpAny (model X.prog X.w) A (Builtin.Dict.samePairs nm a b) Q E s := by
  obtain ⟨za, lowa, xa, ra, oa, es, ep, hoa, _, hda, hea, hia, _⟩ := dt_of I.hok ha
  obtain ⟨zb, lowb, xb, rb, ob, es', ep', hob, _, hdb, heb, hib, hnb⟩ := dt_of I.hok hb
  have la : es.size = ka.length := (size_of_entries hea).trans (Paired.length ra).symm
  have lb : es'.size = kb.length := (size_of_entries heb).trans (Paired.length rb).symm
  have room : (tupleKind (mixKind X.prog X.w)).room A := by
    show A.units < cLine
    omega
  unfold Builtin.Dict.samePairs Builtin.Dict.showsAll
  rw [if_neg (by rw [lowa]; exact Bool.false_ne_true), if_neg (by rw [lowb]; exact Bool.false_ne_true)]
  refine wpAny_bind (wpAny_pure (wpAny_bind (wpAny_pure (wpAny_bind (wpAny_dictEntries hoa hda ?_)))))
  dsimp only
  refine wpAny_bind (wpAny_dictEntries hob hdb ?_)
  by_cases hsz : es.size = es'.size
  case neg =>
    have e : sameB ka kb = false := by
      unfold sameB
      rw [decide_eq_false (by omega), Bool.false_and]
    rw [e] at h
    rw [if_pos (by simpa using hsz)]
    exact wpAny_bind (wpAny_rule (wpAny_pure h))
  have e0 : sameB ka kb = ka.all fun p => decide (valV kb p.1 = some p.2) := by
    unfold sameB
    rw [decide_eq_true (by omega), Bool.true_and]
  rw [e0] at h
  rw [if_neg (by rw [hsz]; simp)]
  refine wpAny_bind (wpAny_dictEpoch hoa hda (wpAny_bind ?_))
  rw [Std.Legacy.Range.forIn_eq_forIn_range']
  simp only [Std.Legacy.Range.size, Nat.sub_zero, Nat.add_sub_cancel, Nat.div_one]
  refine wpAny_forIn_list _
    (fun rest q s' => s' = s ∧ q = (none, ()) ∧ ∃ i, rest = List.range' i (es.size - i) ∧ i ≤ es.size ∧ (ka.all fun p => decide (valV kb p.1 = some p.2)) = (ka.drop i).all fun p => decide (valV kb p.1 = some p.2))
    _ ?_ ?_ _ _ ⟨rfl, rfl, 0, by simp, Nat.zero_le _, rfl⟩
  · rintro x rest q s' ⟨rfl, rfl, i, hr, hi, pre⟩
    have hlt : i < es.size := Nat.lt_of_not_le fun z => by
      rw [Nat.sub_eq_zero_of_le z] at hr
      simp at hr
    obtain ⟨rfl, hrest⟩ : x = i ∧ rest = List.range' (i + 1) (es.size - (i + 1)) := by
      rw [show es.size - i = (es.size - (i + 1)) + 1 by omega, List.range'_succ] at hr
      injection hr with h1 h2
      exact ⟨h1, h2⟩
    refine wpAny_bind (wpAny_dictEntries hoa hda ?_)
    have hk : x < ka.length := by omega
    obtain ⟨y, hy, y1, y2, y3⟩ := paired_get ra (List.getElem?_eq_getElem hk)
    have en := entry_at hea x
    rw [hy] at en
    rw [en, Option.map_some]
    have drop : ka.drop x = ka[x] :: ka.drop (x + 1) := List.drop_eq_getElem_cons hk
    rw [drop, List.all_cons] at pre
    have mk1 : isMk ka[x].2 = true := ma _ (List.getElem_mem hk)
    have key : (tupleKind (mixKind X.prog X.w)).is s'.heap y.1 y.2.1 := hia _ (List.mem_of_getElem? hy)
    generalize ka[x] = p at y1 y2 y3 pre mk1
    refine wpAny_bind (wpAny_holding (wpAny_bind ?_))
    refine PySem.wpAny_dictFind_heap room key hob hdb heb hib hnb (fun none_ => ?_) fun j z hj => ?_
    · have miss : valV kb p.1 = none := by
        rw [y1]
        have this := rb.val y.1
        rw [atKey_none_of_get none_, Option.map_none] at this
        cases hv : valV kb y.1 with
        | none => rfl
        | some v =>
          rw [hv] at this
          cases this
      rw [miss, decide_eq_false (by simp), Bool.false_and] at pre
      rw [pre] at h
      refine wpAny_pure ?_
      show wpAny _ _ (if (!false) = true then _ else _) _ _ _
      rw [if_pos (by decide)]
      exact wpAny_pure (wpAny_pure h)
    · have enb := entry_at heb j
      rw [hj] at enb
      refine wpAny_bind (wpAny_dictEntries hob hdb ?_)
      rw [enb, Option.map_some]
      obtain ⟨v2, hv2, rv2, mk2⟩ : ∃ v2, valV kb p.1 = some v2 ∧ RelV v2 z.2 ∧ isMk v2 = true := by
        rw [y1]
        have hat : atKey xb y.1 = some z := atKey_of_get hnb hj
        have := rb.val y.1
        rw [hat, Option.map_some] at this
        cases hv : valV kb y.1 with
        | none =>
          rw [hv] at this
          cases this
        | some v2 =>
          rw [hv] at this
          refine ⟨v2, rfl, this, ?_⟩
          obtain ⟨q, hq, e⟩ := valV_mem hv
          rw [← e]
          exact mb q hq
      refine wpAny_holding (eqAt_mk mk1 mk2 y3 rv2 X.prog X.w _ _ ?_)
      rw [hv2] at pre
      have ed : decide (some v2 = some p.2) = decide (p.2 = v2) := by
        by_cases e : p.2 = v2
        · rw [e]
          simp
        · rw [decide_eq_false e, decide_eq_false (fun z => e (Option.some.inj z).symm)]
      rw [ed] at pre
      cases hd : decide (p.2 = v2) with
      | false =>
        rw [hd, Bool.false_and] at pre
        rw [pre] at h
        show wpAny _ _ (if (!false) = true then _ else _) _ _ _
        rw [if_pos (by decide)]
        exact wpAny_pure (wpAny_pure h)
      | true =>
        rw [hd, Bool.true_and] at pre
        show wpAny _ _ (if (!true) = true then _ else _) _ _ _
        rw [if_neg (by decide)]
        refine wpAny_bind (wpAny_dictEpoch hoa hda ?_)
        rw [if_neg (by simp)]
        exact wpAny_pure ⟨rfl, rfl, x + 1, hrest, hlt, pre⟩
  · rintro q s' ⟨rfl, rfl, i, hr, hi, pre⟩
    have all : es.size ≤ i := Nat.le_of_not_lt fun z => by
      rw [show es.size - i = (es.size - (i + 1)) + 1 by omega, List.range'_succ] at hr
      cases hr
    rw [List.drop_of_length_le (by omega), List.all_nil] at pre
    rw [pre] at h
    exact wpAny_pure h
end
end L2

set_option Elab.async false
set_option linter.all false
set_option maxRecDepth 100000
set_option maxHeartbeats 4000000
namespace L2
open PySem PySem.Spec PyProof.Rows
def rEqT (neg : Bool) : R2 := fun x y H Q => ∃ a b ka kb, x = .ref a ∧ y = .ref b ∧ H a = some (.dT ka) ∧ H b = some (.dT kb) ∧ (∀ p ∈ ka, isMk p.2 = true) ∧ (∀ p ∈ kb, isMk p.2 = true) ∧ Q (.bl (neg ^^ sameB ka kb)) H
section
variable {X : Cx}
theorem op_eqT (hu : X.A.units + 2 < cLine) : OpR X (compareOp .Eq) (rEqT false) := by
  intro pins s σ H x y v u Q I rx ry h
  obtain ⟨a, b, ka, kb, rfl, rfl, ha, hb, ma, mb, q⟩ := h
  cases rx
  cases ry
  obtain ⟨_, _, _, da, _, _, _⟩ := I.rawT ha
  obtain ⟨_, _, _, db, _, _, _⟩ := I.rawT hb
  refine wpAny_richCompare_same_room (op := .Eq) da.typeIs db.typeIs PySem.F.slot_dict_eq (wpAny_call_entry PySem.F.slot_dict_eq da.typeIs PySem.F.entry_dict_eq ?_ (PySem.F.args_dict_eq_2 _ _)) (by omega)
  refine wpAny_bind ?_
  unfold Builtin.Dict.dictSlotArgs
  refine wpAny_bind (wpAny_notOrdered_dict da.typeIs ?_)
  show wpAny _ _ (pure (Value.ref a, Value.ref b)) _ _ s
  refine wpAny_pure (wpAny_bind (wpAny_isInstance (T := "dict") db.typeIs PySem.F.sub_dict_dict ?_))
  simp only [Bool.not_true, Bool.false_eq_true, if_false]
  refine wpAny_bind (wpAny_pure (wpAny_bind (wpAny_pure (wpAny_bind (samePairsT (by show X.A.units + 1 + 1 < cLine; exact hu) I ha hb ma mb (wpAny_pure ⟨_, rfl, by simp, ?_⟩))))))
  rw [Bool.false_xor] at q
  exact ⟨.bl (sameB ka kb), H, I, by show Value.bool (sameB ka kb == true) = _; cases sameB ka kb <;> rfl, q⟩
theorem op_neT (hu : X.A.units + 2 < cLine) : OpR X (compareOp .NotEq) (rEqT true) := by
  intro pins s σ H x y v u Q I rx ry h
  obtain ⟨a, b, ka, kb, rfl, rfl, ha, hb, ma, mb, q⟩ := h
  cases rx
  cases ry
  obtain ⟨_, _, _, da, _, _, _⟩ := I.rawT ha
  obtain ⟨_, _, _, db, _, _, _⟩ := I.rawT hb
  refine wpAny_richCompare_same_room (op := .NotEq) da.typeIs db.typeIs PySem.F.slot_dict_ne (wpAny_call_entry PySem.F.slot_dict_ne da.typeIs PySem.F.entry_dict_ne ?_ (PySem.F.args_dict_ne_2 _ _)) (by omega)
  refine wpAny_bind ?_
  unfold Builtin.Dict.dictSlotArgs
  refine wpAny_bind (wpAny_notOrdered_dict da.typeIs ?_)
  show wpAny _ _ (pure (Value.ref a, Value.ref b)) _ _ s
  refine wpAny_pure (wpAny_bind (wpAny_isInstance (T := "dict") db.typeIs PySem.F.sub_dict_dict ?_))
  simp only [Bool.not_true, Bool.false_eq_true, if_false]
  refine wpAny_bind (wpAny_pure (wpAny_bind (wpAny_pure (wpAny_bind (samePairsT (by show X.A.units + 1 + 1 < cLine; exact hu) I ha hb ma mb (wpAny_pure ⟨_, rfl, by simp, ?_⟩))))))
  rw [Bool.true_xor] at q
  exact ⟨.bl (!sameB ka kb), H, I, by show Value.bool (sameB ka kb == false) = _; cases sameB ka kb <;> rfl, q⟩
end
end L2

set_option Elab.async false
set_option linter.all false
set_option maxRecDepth 100000
set_option maxHeartbeats 4000000
/-! Pages: a crowd, and a dict from its pairs to marks. -/
namespace L2
open PySem PySem.Spec PyProof.Rows
theorem unlock_same {H H' : Hp} {d : Addr} {u : HO} {od : Obj} (hd : H d = some u) (s : Same (upd H d (.frz od u)) H') : Same H (upd H' d u) := fun b o e => by
  by_cases h : b = d
  · subst h
    rw [upd_same, ← hd, e]
  · rw [upd_ne h]
    exact s _ _ (by rw [upd_ne h]; exact e)
theorem kit_dict {T : String} (h : T ∈ knownT) : kitB T "dict" = some (decide (T = "dict")) := by
  simp only [knownT, List.mem_cons, List.not_mem_nil, or_false] at h
  rcases h with rfl | rfl | rfl | rfl | rfl | rfl | rfl <;> decide +kernel
/-- the key of a pair -/
def key2 (p : Str × Str) : List Key := [.inr p.1, .inr p.2]
theorem key2_inj {p q : Str × Str} (h : key2 p = key2 q) : p = q := by
  unfold key2 at h
  injection h with h1 h2
  injection h2 with h2 _
  exact Prod.ext (Sum.inr.inj h1) (Sum.inr.inj h2)
theorem key2_val (p : Str × Str) : (key2 p).map kV = [V.str p.1, V.str p.2] := rfl
/-- the entries of a page, by what it has for each pair -/
def sheetOf (zs : List Str) (f : Str × Str → V) : List (List Key × V) := (pairsOf zs).map fun p => (key2 p, f p)
theorem sheet_keys (zs : List Str) (f : Str × Str → V) : (sheetOf zs f).map (·.1) = (pairsOf zs).map key2 := by
  unfold sheetOf
  rw [List.map_map]
  rfl
theorem pairs_nodup {zs : List Str} (h : zs.Nodup) : (pairsOf zs).Nodup := by
  have key : ∀ l : List Str, l.Nodup → (l.flatMap (rowOf zs)).Nodup := fun l hl => by
    induction l with
    | nil => exact List.nodup_nil
    | cons a l ih =>
      obtain ⟨ha, hl⟩ := List.nodup_cons.mp hl
      rw [List.flatMap_cons, List.nodup_append]
      refine ⟨?_, ih hl, fun x hx y hy e => ?_⟩
      · unfold rowOf
        exact (nodup_map_inj (f := fun b => (a, b)) (fun b c e => (Prod.mk.inj e).2)).mpr (h.filter _)
      · subst e
        unfold rowOf at hx
        obtain ⟨b, _, rfl⟩ := List.mem_map.mp hx
        obtain ⟨c, hc, hx2⟩ := List.mem_flatMap.mp hy
        unfold rowOf at hx2
        obtain ⟨b2, _, e2⟩ := List.mem_map.mp hx2
        exact ha ((Prod.mk.inj e2).1 ▸ hc)
  exact key zs h
theorem sheet_nodup {zs : List Str} (h : zs.Nodup) (f : Str × Str → V) : ((sheetOf zs f).map (·.1)).Nodup := by
  rw [sheet_keys]
  exact (nodup_map_inj (fun _ _ e => key2_inj e)).mpr (pairs_nodup h)
theorem valV_map2 {f : Str × Str → V} {p : Str × Str} : ∀ {l : List (Str × Str)}, p ∈ l → valV (l.map fun p => (key2 p, f p)) (key2 p) = some (f p)
  | a :: l, h => by
    by_cases e : a = p
    · subst e
      exact valV_pos rfl
    · rw [List.map_cons, valV_neg (fun z => e (key2_inj z))]
      rcases List.mem_cons.mp h with e2 | h
      · exact absurd e2.symm e
      · exact valV_map2 h
theorem valV_sheet {zs : List Str} {f : Str × Str → V} {p : Str × Str} (h : p ∈ pairsOf zs) : valV (sheetOf zs f) (key2 p) = some (f p) := valV_map2 h
theorem sheet_len {zs : List Str} {f : Str × Str → V} : (sheetOf zs f).length = (pairsOf zs).length := List.length_map ..
/-- a mark up to m, or None -/
def mkOk (m : Int) (v : V) : Bool := decide (v = .non) || markB 0 m v
theorem mkOk_isMk {m : Int} {v : V} (h : mkOk m v = true) : isMk v = true := by
  cases v with
  | non => rfl
  | int i => rfl
  | _ => cases h
theorem mkOk_ty {K : PySem.W.Frag} {H : Hp} {m : Int} {v : V} (h : mkOk m v = true) : ∃ T, TyN K H v T := by
  cases v with
  | non => exact ⟨"NoneType", .base .non, by decide⟩
  | int i => exact ⟨"int", .base (.int i), by decide⟩
  | _ => cases h
/-- what an instance of Page holds -/
def pageFs (c d : Addr) : List (Str × V) := [("crowd", V.ref c), ("_marks", V.ref d)]
def PageOf (H : Hp) (C CP x : Addr) (zs : List Str) (m : Int) (f : Str × Str → V) : Prop := ∃ dx c d, H x = some (.ins CP dx (pageFs c d)) ∧ CrowdOf H C c zs m ∧ H d = some (.dT (sheetOf zs f))
theorem PageOf.same {H H2 : Hp} {C CP x : Addr} {zs : List Str} {m : Int} {f : Str × Str → V} (s : Same H H2) (h : PageOf H C CP x zs m f) : PageOf H2 C CP x zs m f := by
  obtain ⟨dx, c, d, h1, h2, h3⟩ := h
  exact ⟨dx, c, d, s _ _ h1, h2.same s, s _ _ h3⟩
/-- a page made since H -/
def PageNew (H H2 : Hp) (C CP x : Addr) (zs : List Str) (m : Int) (f : Str × Str → V) : Prop := H x = none ∧ ∃ dx c d, H d = none ∧ H2 x = some (.ins CP dx (pageFs c d)) ∧ CrowdOf H2 C c zs m ∧ H2 d = some (.dT (sheetOf zs f))
theorem PageNew.of {H H2 : Hp} {C CP x : Addr} {zs : List Str} {m : Int} {f : Str × Str → V} (h : PageNew H H2 C CP x zs m f) : PageOf H2 C CP x zs m f := by
  obtain ⟨_, dx, c, d, _, h1, h2, h3⟩ := h
  exact ⟨dx, c, d, h1, h2, h3⟩
/-- the dict at sd is not the page's own -/
def NotOwn (H : Hp) (CP x sd : Addr) : Prop := ∀ dx c d, H x = some (.ins CP dx (pageFs c d)) → d ≠ sd
theorem PageNew.notOwn {H H2 : Hp} {C CP x sd : Addr} {zs : List Str} {m : Int} {f : Str × Str → V} {o : HO} (h : PageNew H H2 C CP x zs m f) (e : H sd = some o) : NotOwn H2 CP x sd := fun dx2 c2 d2 e2 => by
  obtain ⟨_, dx, c, d, n, h1, _⟩ := h
  rw [h1] at e2
  have e3 := Option.some.inj e2
  injection e3 with _ _ e3
  injection e3 with _ e3
  injection e3 with e3 _
  have e4 : d = d2 := V.ref.inj (Prod.mk.inj e3).2
  exact fun z => by
    rw [← e4] at z
    exact ne_of_none e n z.symm
def spIsMark (K : PySem.W.Frag) (C : Addr) : Sp := fun vs H Q _ => ∃ (c : Addr) (v : V) (zs : List Str) (m : Int), vs = [.ref c, v] ∧ CrowdOf H C c zs m ∧ (∃ T, TyN K H v T) ∧ Q (.bl (markB 0 m v)) H
def spIsMarkN (K : PySem.W.Frag) (C : Addr) : Sp := fun vs H Q _ => ∃ (c : Addr) (v : V) (zs : List Str) (m : Int), vs = [.ref c, v] ∧ CrowdOf H C c zs m ∧ (∃ T, TyN K H v T) ∧ Q (.bl (mkOk m v)) H
/-- marks for all pairs of a crowd -/
def MarksAt (H : Hp) (zs : List Str) (m : Int) (d : Addr) (kvs : List (List Key × V)) : Prop := H d = some (.dT kvs) ∧ kvs.length = (pairsOf zs).length ∧ ∀ e ∈ kvs, (∃ p ∈ pairsOf zs, e.1 = key2 p) ∧ mkOk m e.2 = true
def MarksAll (zs : List Str) (kvs : List (List Key × V)) : Prop := ∀ p ∈ pairsOf zs, ∃ v, valV kvs (key2 p) = some v
def spAreMarks (C : Addr) : Sp := fun vs H Q _ => ∃ (c d : Addr) (zs : List Str) (m : Int) (kvs : List (List Key × V)), vs = [.ref c, .ref d] ∧ CrowdOf H C c zs m ∧ zs.length ≤ 8 ∧ MarksAt H zs m d kvs ∧ ∀ H', Same H H' → Q (.bl true) H'
theorem put_take {E : List (List Key × V)} (nd : (E.map (·.1)).Nodup) {i : Nat} {k : List Key} {v : V} (h : E[i]? = some (k, v)) : putK (E.take i) k v = E.take (i + 1) := by
  have hi := (List.getElem?_eq_some_iff.mp h).1
  have none_ : valV (E.take i) k = none := by
    cases hv : valV (E.take i) k with
    | none => rfl
    | some w =>
      have m1 := valV_in hv
      have e : E = E.take i ++ E.drop i := (List.take_append_drop i E).symm
      rw [e, List.map_append, List.nodup_append] at nd
      have m2 : k ∈ (E.drop i).map (·.1) := by
        refine List.mem_map.mpr ⟨(k, v), ?_, rfl⟩
        rw [List.mem_iff_getElem?]
        exact ⟨0, by rw [List.getElem?_drop, Nat.add_zero]; exact h⟩
      exact absurd rfl (nd.2.2 _ m1 _ m2)
  rw [putK_new v none_, List.take_add_one, h]
  rfl
theorem sheet_at {zs : List Str} {f : Str × Str → V} {i : Nat} {p : Str × Str} (h : (pairsOf zs)[i]? = some p) : (sheetOf zs f)[i]? = some (key2 p, f p) := by
  unfold sheetOf
  rw [List.getElem?_map, h]
  rfl
def spNeedCrowd (C : Addr) : Sp := fun vs H Q _ => ∃ (c : Addr) (zs : List Str) (m : Int), vs = [.ref c] ∧ CrowdOf H C c zs m ∧ Q .non H
def spPageInit (C CP : Addr) : Sp := fun vs H Q _ => ∃ (x dx c d : Addr) (zs : List Str) (m : Int) (kvs : List (List Key × V)), vs = [.ref x, .ref c, .ref d] ∧ H x = some (.ins CP dx []) ∧ CrowdOf H C c zs m ∧ zs.length ≤ 8 ∧ zs.Nodup ∧ MarksAt H zs m d kvs ∧ MarksAll zs kvs ∧
  ∀ H' dx' e, But x H H' → H e = none → H' x = some (.ins CP dx' (pageFs c e)) → H' e = some (.dT (sheetOf zs fun p => (valV kvs (key2 p)).getD .non)) → Q .non H'
theorem page_put {c d : Addr} : putF "_marks" (V.ref d) (putF "crowd" (V.ref c) []) = pageFs c d := by
  show (if (("crowd" : Str)) = "_marks" then _ else _) = _
  rw [if_neg (by decide +kernel)]
  rfl
def spPageMarks (C CP : Addr) : Sp := fun vs H Q _ => ∃ (x : Addr) (zs : List Str) (m : Int) (f : Str × Str → V), vs = [.ref x] ∧ PageOf H C CP x zs m f ∧ zs.length ≤ 8 ∧ zs.Nodup ∧ ∀ H' p, Same H H' → H p = none → H' p = some (.dT (sheetOf zs f)) → Q (.ref p) H'
def fullB (zs : List Str) (f : Str × Str → V) : Bool := (pairsOf zs).all fun p => !decide (f p = .non)
def spPageFull (C CP : Addr) : Sp := fun vs H Q _ => ∃ (x : Addr) (zs : List Str) (m : Int) (f : Str × Str → V), vs = [.ref x] ∧ PageOf H C CP x zs m f ∧ zs.length ≤ 8 ∧ ∀ H', Same H H' → Q (.bl (fullB zs f)) H'
def spPageGet (C CP : Addr) : Sp := fun vs H Q _ => ∃ (x t : Addr) (zs : List Str) (m : Int) (f : Str × Str → V) (p : Str × Str), vs = [.ref x, .ref t] ∧ PageOf H C CP x zs m f ∧ p ∈ pairsOf zs ∧ H t = some (.tup [.str p.1, .str p.2]) ∧ Q (f p) H
def likeB (zs : List Str) (f g : Str × Str → V) : Bool := (pairsOf zs).all fun p => decide (f p = g p)
def spPageEq (C CP : Addr) : Sp := fun vs H Q _ => ∃ (x y : Addr) (zs : List Str) (m : Int) (f : Str × Str → V), vs = [.ref x, .ref y] ∧ PageOf H C CP x zs m f ∧ zs.Nodup ∧ (∀ z ∈ zs, PyData.strOk z = true) ∧ (∀ p ∈ pairsOf zs, isMk (f p) = true) ∧
  ((∃ ys n g, PageOf H C CP y ys n g ∧ (∀ z ∈ ys, PyData.strOk z = true) ∧ (∀ p ∈ pairsOf ys, isMk (g p) = true) ∧ Q (.bl (decide (m = n) && (decide (zs = ys) && likeB zs f g))) H) ∨ ((∃ kvs, H y = some (.dT kvs)) ∧ Q (.bl false) H) ∨ ((∃ ys n, CrowdOf H C y ys n) ∧ Q (.bl false) H))
theorem same_sheets {zs : List Str} (nd : zs.Nodup) (f g : Str × Str → V) : sameB (sheetOf zs f) (sheetOf zs g) = likeB zs f g := by
  unfold sameB likeB
  rw [sheet_len, sheet_len, decide_eq_true rfl, Bool.true_and]
  have key : ∀ l : List (Str × Str), (∀ p ∈ l, p ∈ pairsOf zs) → ((l.map fun p => (key2 p, f p)).all fun e => decide (valV (sheetOf zs g) e.1 = some e.2)) = l.all fun p => decide (f p = g p) := fun l => by
    induction l with
    | nil => intro _; rfl
    | cons p l ih =>
      intro h
      rw [List.map_cons, List.all_cons, List.all_cons, ih fun q hq => h q (List.mem_cons_of_mem _ hq)]
      dsimp only
      rw [valV_sheet (h p (List.mem_cons_self ..))]
      have e : decide (some (g p) = some (f p)) = decide (f p = g p) := by
        by_cases e : f p = g p
        · rw [e]
          simp
        · rw [decide_eq_false e, decide_eq_false (fun z => e (Option.some.inj z).symm)]
      rw [e]
  exact key (pairsOf zs) fun _ h => h
theorem sheet_mk {zs : List Str} {f : Str × Str → V} (h : ∀ p ∈ pairsOf zs, isMk (f p) = true) : ∀ e ∈ sheetOf zs f, isMk e.2 = true := fun e he => by
  unfold sheetOf at he
  obtain ⟨p, hp, rfl⟩ := List.mem_map.mp he
  exact h p hp
theorem valV_none {κ : Type} [DecidableEq κ] {kvs : List (κ × V)} {k : κ} (h : k ∉ kvs.map (·.1)) : valV kvs k = none := by
  cases hv : valV kvs k with
  | none => rfl
  | some v => exact absurd (valV_in hv) h
/-- the row of somebody: its marks for the others -/
def rowK (l : List Str) (f : Str × Str → V) (a : Str) : List (Key × V) := (l.filter fun b => a ≠ b).map fun b => (Sum.inr b, f (a, b))
theorem rowK_take (zs : List Str) (f : Str × Str → V) (a b : Str) (i : Nat) (h : zs[i]? = some b) : rowK (zs.take (i + 1)) f a = rowK (zs.take i) f a ++ (if a ≠ b then [(Sum.inr b, f (a, b))] else []) := by
  unfold rowK
  rw [row_take zs a b i h, List.map_append]
  congr 1
  split <;> rfl
theorem rowK_new {zs : List Str} (nd : zs.Nodup) (f : Str × Str → V) (a b : Str) (i : Nat) (h : zs[i]? = some b) : valV (rowK (zs.take i) f a) (Sum.inr b : Key) = none := by
  refine valV_none fun m => ?_
  unfold rowK at m
  rw [List.map_map] at m
  obtain ⟨c, hc, e⟩ := List.mem_map.mp m
  have e2 : c = b := Sum.inr.inj e
  subst e2
  have m1 := (List.mem_filter.mp hc).1
  have m2 : c ∈ zs.drop i := List.mem_iff_getElem?.mpr ⟨0, by rw [List.getElem?_drop, Nat.add_zero]; exact h⟩
  have e3 : zs = zs.take i ++ zs.drop i := (List.take_append_drop i zs).symm
  rw [e3, List.nodup_append] at nd
  exact absurd rfl (nd.2.2 _ m1 _ m2)
theorem rowK_len {l : List Str} {f : Str × Str → V} {a : Str} : (rowK l f a).length ≤ l.length := by
  unfold rowK
  rw [List.length_map]
  exact List.length_filter_le ..
def spPageRow (C CP : Addr) : Sp := fun vs H Q _ => ∃ (x : Addr) (zs : List Str) (m : Int) (f : Str × Str → V) (a : Str), vs = [.ref x, .str a] ∧ PageOf H C CP x zs m f ∧ zs.Nodup ∧ zs.length ≤ 8 ∧ a ∈ zs ∧ ∀ H' p, Same H H' → H p = none → H' p = some (.dK (rowK zs f a)) → Q (.ref p) H'
theorem mem_pairsOf {zs : List Str} {a b : Str} (ha : a ∈ zs) (hb : b ∈ zs) (h : a ≠ b) : (a, b) ∈ pairsOf zs := by
  unfold pairsOf
  refine List.mem_flatMap.mpr ⟨a, ha, ?_⟩
  unfold rowOf
  exact List.mem_map.mpr ⟨b, List.mem_filter.mpr ⟨hb, by simpa using h⟩, rfl⟩
theorem sheet_congr {zs : List Str} {f g : Str × Str → V} (h : ∀ p ∈ pairsOf zs, f p = g p) : sheetOf zs f = sheetOf zs g := by
  unfold sheetOf
  exact List.map_congr_left fun p hp => by rw [h p hp]
def withF (f : Str × Str → V) (q : Str × Str) (v : V) : Str × Str → V := fun p => if p = q then v else f p
theorem put_sheet {zs : List Str} {f : Str × Str → V} {q : Str × Str} {v : V} (h : q ∈ pairsOf zs) : putK (sheetOf zs f) (key2 q) v = sheetOf zs (withF f q v) := by
  unfold putK
  have any : ((sheetOf zs f).any fun kv => decide (kv.1 = key2 q)) = true := by
    rw [valV_any, valV_sheet h]
    rfl
  rw [if_pos any]
  unfold sheetOf
  rw [List.map_map]
  refine List.map_congr_left fun p hp => ?_
  show (if key2 p = key2 q then (key2 p, v) else (key2 p, f p)) = (key2 p, withF f q v p)
  unfold withF
  by_cases e : p = q
  · subst e
    rw [if_pos rfl, if_pos rfl]
  · rw [if_neg (fun z => e (key2_inj z)), if_neg e]
section
variable {σ : St} {H : Hp} {Q : VK} {C CP : Addr} {zs : List Str} {m : Int} {g : Str × Str → V}
theorem md_page {c d : Addr} {kvs : List (List Key × V)} {H1 : Hp} {R : VK} {E : XK} (s1 : Same H H1) (hc : CrowdOf H1 C c zs m) (z8 : zs.length ≤ 8) (nd : zs.Nodup) (hM : MarksAt H1 zs m d kvs) (hv : ∀ p ∈ pairsOf zs, valV kvs (key2 p) = some (g p))
    (k : ∀ H' x, Same H H' → PageNew H H' C CP x zs m g → R (.ref x) H') : ∀ x dx, H1 x = none → H1 dx = none → dx ≠ x → spPageInit C CP [.ref x, .ref c, .ref d] (upd (upd H1 dx (.own x)) x (.ins CP dx [])) (fun v H2 => v = .non ∧ R (.ref x) H2) E := by
  intro x dx nx ndx nex
  have s2 : Same H1 (upd (upd H1 dx (.own x)) x (.ins CP dx [])) := fun b o e => by
    rw [upd_ne (ne_of_none e nx), upd_ne (ne_of_none e ndx)]
    exact e
  obtain ⟨hd, hl, hk⟩ := hM
  refine ⟨x, dx, c, d, zs, m, kvs, rfl, upd_same, hc.same s2, z8, nd, ⟨s2 _ _ hd, hl, hk⟩, fun p hp => ⟨_, hv p hp⟩, fun H' dx2 e hB ne h1 h2 => ⟨rfl, k H' x (s1.trans fun b o z => hB b o (ne_of_none z nx) (s2 _ _ z)) ⟨s1.free nx, dx2, c, e, s1.free (s2.free ne), h1, ?_, ?_⟩⟩⟩
  · obtain ⟨dc, l, e1, e2⟩ := hc
    exact ⟨dc, l, hB _ _ (ne_of_none e1 nx) (s2 _ _ e1), hB _ _ (ne_of_none e2 nx) (s2 _ _ e2)⟩
  · rw [h2, sheet_congr (g := g) fun p hp => by rw [hv p hp]; rfl]
theorem rd_page {E : XK} {kvs : List (List Key × V)} {t : TA} (z8 : zs.length ≤ 8) (nd : zs.Nodup) (hl : kvs.length = (pairsOf zs).length) (hk : ∀ e ∈ kvs, (∃ p ∈ pairsOf zs, e.1 = key2 p) ∧ mkOk m e.2 = true) (hv : ∀ p ∈ pairsOf zs, valV kvs (key2 p) = some (g p))
    (ht : ∀ Q' : List V → Hp → Prop, (∀ H1 c d, Same H H1 → CrowdOf H1 C c zs m → H1 d = some (.dT kvs) → Q' [.ref c, .ref d] H1) → t σ H Q') (k : ∀ H' x, Same H H' → PageNew H H' C CP x zs m g → Q (.ref x) H') : tMake CP (spPageInit C CP) [] E t σ H Q := by
  refine ht _ fun H1 c d s1 hc hd => ?_
  exact md_page s1 hc z8 nd ⟨hd, hl, hk⟩ hv k
end
theorem sheet_marks {zs : List Str} {m : Int} {f : Str × Str → V} (mk : ∀ p ∈ pairsOf zs, mkOk m (f p) = true) : ∀ e ∈ sheetOf zs f, (∃ p ∈ pairsOf zs, e.1 = key2 p) ∧ mkOk m e.2 = true := fun e he => by
  unfold sheetOf at he
  obtain ⟨p, hp, rfl⟩ := List.mem_map.mp he
  exact ⟨⟨p, hp, rfl⟩, mk p hp⟩
def spWithMark (C CP : Addr) : Sp := fun vs H Q _ => ∃ (x t : Addr) (v : V) (zs : List Str) (m : Int) (f : Str × Str → V) (p : Str × Str), vs = [.ref x, .ref t, v] ∧ PageOf H C CP x zs m f ∧ zs.Nodup ∧ zs.length ≤ 8 ∧ (∀ z ∈ zs, PyData.strOk z = true) ∧
  (∀ p ∈ pairsOf zs, mkOk m (f p) = true) ∧ p ∈ pairsOf zs ∧ H t = some (.tup [.str p.1, .str p.2]) ∧ mkOk m v = true ∧ ∀ H' y, Same H H' → PageNew H H' C CP y zs m (withF f p v) → Q (.ref y) H'
def spFilled (C CP : Addr) : Sp := fun vs H Q _ => ∃ (c : Addr) (v : V) (zs : List Str) (m : Int), vs = [.ref c, v] ∧ CrowdOf H C c zs m ∧ zs.Nodup ∧ zs.length ≤ 8 ∧ mkOk m v = true ∧ ∀ H' y, Same H H' → PageNew H H' C CP y zs m (fun _ => v) → Q (.ref y) H'
theorem eqv_pairD (p q : Str × Str) : PyData.eqv (pairD p) (pairD q) = decide (p = q) := by
  show PyData.eqv (.tuple ([p.1, p.2].map .str)) (.tuple ([q.1, q.2].map .str)) = _
  rw [PyData.eqv, eqvAll_strs]
  refine decide_eq_decide.mpr ⟨fun h => ?_, fun h => by rw [h]⟩
  injection h with h1 h2
  injection h2 with h2 _
  exact Prod.ext h1 h2
theorem shaped_pairD {p : Str × Str} (h1 : PyData.strOk p.1 = true) (h2 : PyData.strOk p.2 = true) : SeqAt.shaped (pairD p) = true := by
  have ok : ∀ z ∈ [p.1, p.2], PyData.strOk z = true := fun z hz => by
    rcases List.mem_cons.mp hz with rfl | hz
    · exact h1
    · rw [List.mem_singleton.mp hz]
      exact h2
  have := depth_strs [p.1, p.2]
  show SeqAt.shaped (.tuple ([p.1, p.2].map .str)) = true
  unfold SeqAt.shaped
  rw [PyData.canLay0, lay_strs ok, Bool.true_and]
  refine decide_eq_true ?_
  rw [PyData.depth]
  omega
theorem dp_pair {K : PySem.W.Frag} {H : Hp} {t : Addr} {p : Str × Str} (h : H t = some (.tup [.str p.1, .str p.2])) : Dp K H (.ref t) (pairD p) := .tup (SqT.of h) (.cons (.str _) (.cons (.str _) .nil))
/-- a row that is given: words and marks -/
def rowD (es : List (Str × V)) : List (Key × V) := es.map fun e => (Sum.inr e.1, e.2)
def RowFor (zs : List Str) (m : Int) (a : Str) (es : List (Str × V)) : Prop := es.length + 1 = zs.length ∧ ∀ e ∈ es, e.1 ∈ zs ∧ e.1 ≠ a ∧ mkOk m e.2 = true
def spIsRow (C : Addr) : Sp := fun vs H Q _ => ∃ (c r : Addr) (a : Str) (zs : List Str) (m : Int) (es : List (Str × V)), vs = [.ref c, .str a, .ref r] ∧ CrowdOf H C c zs m ∧ zs.length ≤ 8 ∧ H r = some (.dK (rowD es)) ∧ RowFor zs m a es ∧ ∀ H', Same H H' → Q (.bl true) H'
def putRow (f : Str × Str → V) (a : Str) (es : List (Str × V)) : Str × Str → V := es.foldl (fun g e => withF g (a, e.1) e.2) f
theorem putRow_snoc (f : Str × Str → V) (a : Str) (es : List (Str × V)) (e : Str × V) : putRow f a (es ++ [e]) = withF (putRow f a es) (a, e.1) e.2 := by
  unfold putRow
  rw [List.foldl_append]
  rfl
theorem putRow_mk {m : Int} {a : Str} {ps : List (Str × Str)} : ∀ {es : List (Str × V)} {f : Str × Str → V}, (∀ e ∈ es, mkOk m e.2 = true) → (∀ p ∈ ps, mkOk m (f p) = true) → ∀ p ∈ ps, mkOk m (putRow f a es p) = true
  | [], _, _, h2 => h2
  | e :: es, f, h1, h2 => fun p hp => by
    refine putRow_mk (es := es) (f := withF f (a, e.1) e.2) (fun x hx => h1 x (List.mem_cons_of_mem _ hx)) (fun q hq => ?_) p hp
    unfold withF
    split
    · exact h1 e (List.mem_cons_self ..)
    · exact h2 q hq
def spWithRow (C CP : Addr) : Sp := fun vs H Q _ => ∃ (x r : Addr) (a : Str) (zs : List Str) (m : Int) (f : Str × Str → V) (es : List (Str × V)), vs = [.ref x, .str a, .ref r] ∧ PageOf H C CP x zs m f ∧ zs.Nodup ∧ zs.length ≤ 8 ∧ a ∈ zs ∧
  (∀ p ∈ pairsOf zs, mkOk m (f p) = true) ∧ H r = some (.dK (rowD es)) ∧ RowFor zs m a es ∧ ∀ H' y, Same H H' → PageNew H H' C CP y zs m (putRow f a es) → Q (.ref y) H'
/-- a law's plan of a crowd: its people and the greatest mark -/
def planK (l : Addr) (m : Int) : List (Key × V) := [(Sum.inr "people", V.ref l), (Sum.inr "most", V.int m)]
theorem plan_people {l : Addr} {m : Int} : valV (planK l m) (Sum.inr "people" : Key) = some (V.ref l) := valV_pos rfl
theorem plan_most {l : Addr} {m : Int} : valV (planK l m) (Sum.inr "most" : Key) = some (V.int m) := by
  unfold planK
  rw [valV_neg (fun z => absurd (Sum.inr.inj z) (by decide +kernel))]
  exact valV_pos rfl
theorem get_people {H : Hp} {pl l : Addr} {m : Int} (h : H pl = some (.dK (planK l m))) : DGet H pl (.str "people") (some (.ref l)) := .inl ⟨_, Sum.inr "people", .inl h, rfl, plan_people.symm⟩
theorem get_most {H : Hp} {pl l : Addr} {m : Int} (h : H pl = some (.dK (planK l m))) : DGet H pl (.str "most") (some (.int m)) := .inl ⟨_, Sum.inr "most", .inl h, rfl, plan_most.symm⟩
def spSheet (K : PySem.W.Frag) : Sp := fun vs H Q _ => ∃ (a pl l : Addr) (r : Int) (zs : List Str) (m : Int), vs = [.ref a, .ref pl, .int r] ∧ Pool H a ∧ H pl = some (.dK (planK l m)) ∧ H l = some (.lst (zs.map V.str)) ∧ zs.Nodup ∧ zs.length ≤ 8 ∧ 1 ≤ m ∧ m ≤ 10 ∧ r ≤ 100 ∧
  ∀ H' p f, Pool H' a → But a H H' → H p = none → H' p = some (.dT (sheetOf zs f)) → (∀ q ∈ pairsOf zs, mkOk m (f q) = true) → Q (.ref p) H'
theorem sheet_take_with {zs : List Str} (nd : zs.Nodup) {f : Str × Str → V} {q : Str × Str} {v : V} {i : Nat} (h : (pairsOf zs)[i]? = some q) : (sheetOf zs (withF f q v)).take i = (sheetOf zs f).take i := by
  unfold sheetOf
  rw [← List.map_take, ← List.map_take]
  refine List.map_congr_left fun p hp => ?_
  have ne : p ≠ q := fun e => by
    subst e
    have e2 : pairsOf zs = (pairsOf zs).take i ++ (pairsOf zs).drop i := (List.take_append_drop i _).symm
    have n := pairs_nodup nd
    rw [e2, List.nodup_append] at n
    exact absurd rfl (n.2.2 _ hp _ (List.mem_iff_getElem?.mpr ⟨0, by rw [List.getElem?_drop, Nat.add_zero]; exact h⟩))
  unfold withF
  rw [if_neg ne]
end L2

set_option Elab.async false
set_option linter.all false
set_option maxRecDepth 100000
set_option maxHeartbeats 4000000
/-! list(d.items()), the keys numbers or texts. -/
namespace L2
open PySem PySem.Spec PyProof.Rows
section
variable {X : Cx}
theorem Inv.rawK {pins : List (Addr × Obj)} {σ : St} {H : Hp} {s : Shared} {d : Addr} {kvs : List (Key × V)} (I : Inv X pins σ H s) (h : H d = some (.dK kvs)) :
    (d == sysModules) = false ∧ ∃ (es : Array DictEntry) (ep : Nat), s.heap.DictRaw d es ep ∧ es.size = kvs.length ∧ kvs.length ≤ sizeLine ∧
      ∀ (i : Nat) (k : Key) (v : V), kvs[i]? = some (k, v) → ∃ (hi : i < es.size), RelV (kV k) es[i].key ∧ RelV v es[i].val := by
  obtain ⟨z, low, vs, rel, dd⟩ := dk_of I.hok h
  obtain ⟨es, ep, hr, hs, he⟩ := dd.raw
  have l : kvs.length = vs.length := Paired.length rel
  refine ⟨low, es, ep, hr, by omega, z, fun i k v e => ?_⟩
  obtain ⟨u, hu, ru⟩ := kv_get rel e
  have hi : i < es.size := by
    have := (List.getElem?_eq_some_iff.mp e).1
    omega
  obtain ⟨e1, e2⟩ := he i hi k u hu
  exact ⟨hi, relV_key (show keyIs k es[i].key = true from e1), by rw [e2]; exact ru⟩
def rItemsK : V → List V → Hp → VK → Prop := fun x xs H Q => ∃ (a : Addr) (kvs : List (Key × V)), x = .ref a ∧ xs = [] ∧ H a = some (.dK kvs) ∧ ∀ p, H p = none → Q (.ref p) (upd H p (DX.itemsO p a))
theorem mt_itemsK : MtR X "dict.items" rItemsK := by
  intro pins s σ H x xs v us Q I rx rxs h
  obtain ⟨a, kvs, rfl, rfl, ha, q⟩ := h
  cases rx
  cases rxs
  obtain ⟨low, es, ep, hr, _⟩ := I.rawK ha
  refine call_meetsIn PySem.F.slot_dict_items hr.typeIs PySem.F.entry_dict_items (PySem.F.args_dict_items_1 _) (meets_dict_items_raw a low) ⟨⟨es, ep, hr⟩, ?_⟩
  exact ⟨.ref s.heap.objs.size, upd H s.heap.objs.size (DX.itemsO s.heap.objs.size a), I.laid (t' := s.toks) (fun b u e => Heap.get?_push_of_some _ e) (Nat.le_refl _) (DX.itemsO_ok (Heap.get?_push_size _ rfl)), rfl, q _ (I.hok.fresh (Nat.le_refl _))⟩
/-- new tuples of the entries of a dict -/
def ItemsK (H : Hp) (ts : List Addr) (kvs : List (Key × V)) : Prop := ts.length = kvs.length ∧ ∀ (j : Nat) (t : Addr) (kv : Key × V), ts[j]? = some t → kvs[j]? = some kv → H t = some (.tup [kV kv.1, kv.2])
theorem call_list_items (hc : X.calm = true) : CallR X (.type "list") (fun xs H Q => ∃ p d kvs, xs = [V.ref p] ∧ H p = some (DX.itemsO p d) ∧ H d = some (.dK kvs) ∧ ∀ H' l ts, Same H H' → H' l = some (.lst (ts.map V.ref)) → ItemsK H' ts kvs → Q (.ref l) H') := by
  intro pins s σ H xs us Q I r h
  obtain ⟨p, d, kvs, rfl, hp, hd, q⟩ := h
  obtain ⟨u, rfl, rx⟩ := r.one
  cases rx
  obtain ⟨low, es, ep, hr, hsz, z, ent⟩ := I.rawK hd
  have hv : s.heap.IsItemsView p d := (show ObjOk X.prog X.w H s.heap p (DX.itemsO p d) from I.hok p _ hp).1
  refine PySem.W.dil_call (es := es) (ep := ep) (I.ok.hd hc) hv hr (by omega) fun h' tk acc c as kp hl len G ea => ?_
  have free : H s.heap.objs.size = none := I.hok.fresh (Nat.le_refl _)
  have I1 : Inv X pins σ (upd H s.heap.objs.size (.lst (as.map V.ref))) { s with heap := h', toks := tk } := by
    refine I.laid (t' := tk) (o := .lst (as.map V.ref)) kp (Nat.le_refl _) ⟨by rw [List.length_map]; omega, acc.toList, c, ?_, by rw [Array.toArray_toList]; exact hl⟩
    rw [ea]
    exact vals_refs as
  have nd : as.Nodup := G.rise.imp fun h => Nat.ne_of_lt h
  obtain ⟨H2, I2, g, qt⟩ := DX.takeT (P := fun b vs => ∃ (j : Nat) (kv : Key × V), as[j]? = some b ∧ kvs[j]? = some kv ∧ vs = [kV kv.1, kv.2]) I as _ I1 nd fun b hb => by
    obtain ⟨j, hj⟩ := List.mem_iff_getElem?.mp hb
    obtain ⟨hje, hg⟩ := G.pairs j b hj
    have hk : j < kvs.length := by omega
    obtain ⟨_, r1, r2⟩ := ent j kvs[j].1 kvs[j].2 (List.getElem?_eq_getElem hk)
    have hbl := G.above b hb
    refine ⟨Nat.le_of_lt hbl, ?_, [kV kvs[j].1, kvs[j].2], ⟨j, kvs[j], hj, List.getElem?_eq_getElem hk, rfl⟩, fun H3 => ⟨by show 2 ≤ sizeLine; decide, [es[j].key, es[j].val], .cons r1 (.cons r2 .nil), ⟨_, hg, rfl, _, rfl⟩⟩⟩
    rw [upd_ne (Nat.ne_of_gt hbl)]
    exact I.hok.fresh (Nat.le_of_lt hbl)
  refine ⟨.ref s.heap.objs.size, H2, I2, rfl, q H2 _ as (fun b o e => g b o (by rw [upd_ne (ne_of_none e free)]; exact e)) (g _ _ upd_same) ⟨by omega, fun j t kv h1 h2 => ?_⟩⟩
  obtain ⟨vs, ⟨i, kv2, j1, j2, ev⟩, hH⟩ := qt t (List.mem_of_getElem? h1)
  have eij : j = i := (List.getElem?_inj (List.getElem?_eq_some_iff.mp h1).1 nd).mp (h1.trans j1.symm)
  subst eij
  obtain rfl := Option.some.inj (h2.symm.trans j2)
  rw [hH, ev]
end
end L2

set_option Elab.async false
set_option linter.all false
set_option maxRecDepth 100000
set_option maxHeartbeats 4000000
/-! Marks, and rows of marks, as data: their texts, and that they are equal to themselves. -/
namespace L2
open PySem PySem.Spec PyProof.Rows
/-- data of few signs -/
def Small (d : PyData) : Prop := d.hasDict = false ∧ d.showable = true ∧ d.depth ≤ 2 ∧ d.shown.length ≤ 30 ∧ d.canLay0 = true
theorem small_all : ∀ {ds : List PyData}, (∀ d ∈ ds, Small d) → PyData.hasDictAll ds = false ∧ PyData.showableAll ds = true ∧ PyData.depthAll ds ≤ 2 ∧ (∀ t ∈ PyData.shownAll ds, t.length ≤ 30) ∧ PyData.canLayAll0 ds = true
  | [], _ => ⟨rfl, rfl, by simp [PyData.depthAll], fun t h => (nomatch h), rfl⟩
  | d :: ds, h => by
    obtain ⟨h1, h2, h3, h4, h5⟩ := small_all fun e he => h e (List.mem_cons_of_mem _ he)
    obtain ⟨k1, k2, k3, k4, k5⟩ := h d (List.mem_cons_self ..)
    refine ⟨?_, ?_, ?_, fun t ht => ?_, ?_⟩
    · rw [PyData.hasDictAll, k1, h1]
      rfl
    · rw [PyData.showableAll, k2, h2]
      rfl
    · simp only [PyData.depthAll]
      omega
    · rw [PyData.shownAll] at ht
      rcases List.mem_cons.mp ht with e | e
      · rw [e]
        exact k4
      · exact h4 t e
    · rw [PyData.canLayAll0, k5, h5]
      rfl
theorem small_list {ds : List PyData} (h : ∀ d ∈ ds, Small d) (hl : ds.length ≤ 64) : (PyData.list ds).hasDict = false ∧ (PyData.list ds).showable = true ∧ (PyData.list ds).depth ≤ 100 ∧ (PyData.list ds).shown.length ≤ sizeLine := by
  obtain ⟨h1, h2, h3, h4, _⟩ := small_all h
  refine ⟨by rw [PyData.hasDict]; exact h1, by rw [PyData.showable]; exact h2, by rw [PyData.depth]; omega, ?_⟩
  rw [PyData.shown]
  unfold listText
  rw [Str.length_append]
  have k := from_len (PyData.shownAll ds) 0 30 "[" h4
  rw [shownAll_len] at k
  have c1 : (Str.ofString "[").length = 1 := by decide
  have c2 : (Str.ofString "]").length = 1 := by decide
  have h5 : ds.length * (30 + 2) ≤ 64 * 32 := Nat.mul_le_mul_right _ hl
  rw [sizeLine_eq]
  omega
theorem small_shaped {ds : List PyData} (h : ∀ d ∈ ds, Small d) : SeqAt.shaped (.list ds) = true := by
  obtain ⟨_, _, h3, _, h5⟩ := small_all h
  unfold SeqAt.shaped
  rw [PyData.canLay0, h5, Bool.true_and]
  refine decide_eq_true ?_
  rw [PyData.depth]
  omega
theorem small_eqv {ds : List PyData} (h : ∀ d ∈ ds, Small d) : PyData.eqv (.list ds) (.list ds) = true := by
  obtain ⟨_, _, _, _, h5⟩ := small_all h
  exact SeqAt.eqv_refl _ (by rw [PyData.canLay0]; exact h5)
def markD : V → PyData
  | .int i => .int i
  | _ => .none
theorem mark_cases {m : Int} {v : V} (h : mkOk m v = true) (hm : m ≤ 10) : v = .non ∨ ∃ k : Nat, k < 11 ∧ v = .int (k : Int) := by
  cases v with
  | non => exact .inl rfl
  | int i =>
    have e : (decide (0 ≤ i) && decide (i ≤ m)) = true := by
      have : (decide (V.int i = V.non) || (decide (0 ≤ i) && decide (i ≤ m))) = true := h
      simpa using this
    rw [Bool.and_eq_true] at e
    have e1 := of_decide_eq_true e.1
    have e2 := of_decide_eq_true e.2
    exact .inr ⟨i.toNat, by omega, by rw [Int.toNat_of_nonneg e1]⟩
  | _ => cases h
theorem small_none : Small .none := by
  unfold Small
  decide +kernel
theorem small_int11 : ∀ k < 11, Small (.int ((k : Nat) : Int)) := by
  unfold Small
  decide +kernel
theorem small_mark {m : Int} {v : V} (h : mkOk m v = true) (hm : m ≤ 10) : Small (markD v) := by
  rcases mark_cases h hm with rfl | ⟨k, hk, rfl⟩
  · exact small_none
  · exact small_int11 k hk
theorem dp_mark {K : PySem.W.Frag} {H : Hp} {m : Int} {v : V} (h : mkOk m v = true) : Dp K H v (markD v) := by
  cases v with
  | non => exact .non
  | int i => exact .int i
  | _ => cases h
theorem dp_marks {K : PySem.W.Frag} {H : Hp} {m : Int} : ∀ {vs : List V}, (∀ v ∈ vs, mkOk m v = true) → DpAll K H vs (vs.map markD)
  | [], _ => .nil
  | v :: vs, h => .cons (dp_mark (h v (List.mem_cons_self ..))) (dp_marks fun x hx => h x (List.mem_cons_of_mem _ hx))
/-- a word and a mark -/
def rowDat (b : Str) (v : V) : PyData := .tuple [.str b, markD v]
theorem small_rows : ∀ b ∈ names8, Small (rowDat b .non) ∧ ∀ k < 11, Small (rowDat b (.int ((k : Nat) : Int))) := by
  unfold Small rowDat
  decide +kernel
theorem small_row {m : Int} {v : V} {b : Str} (hb : b ∈ names8) (h : mkOk m v = true) (hm : m ≤ 10) : Small (rowDat b v) := by
  rcases mark_cases h hm with rfl | ⟨k, hk, rfl⟩
  · exact (small_rows b hb).1
  · exact (small_rows b hb).2 k hk
theorem small_pairs : ∀ a ∈ names8, ∀ b ∈ names8, Small (pairD (a, b)) := by
  unfold Small pairD
  decide +kernel
theorem dp_row {K : PySem.W.Frag} {H : Hp} {m : Int} {t : Addr} {b : Str} {v : V} (h : H t = some (.tup [.str b, v])) (hv : mkOk m v = true) : Dp K H (.ref t) (rowDat b v) := .tup (SqT.of h) (.cons (.str _) (.cons (dp_mark hv) .nil))
theorem small_bool : ∀ b : Bool, (PyData.bool b).hasDict = false ∧ (PyData.bool b).showable = true ∧ (PyData.bool b).depth ≤ 100 ∧ (PyData.bool b).shown.length ≤ sizeLine := by
  intro b
  rw [sizeLine_eq]
  cases b <;> decide +kernel
section
variable {te : TE} {g : TG} {D : Ends} {σ : St} {H : Hp}
theorem st_asg (h : te σ H fun x H1 => g x σ H1 D.nx) : tAsg te g D σ H := h
end
/-- a page as its plan and its sheet tell -/
structure Told (zs : List Str) (m : Int) (f : Str × Str → V) : Prop where
  mem : ∀ z ∈ zs, z ∈ names8
  nd : zs.Nodup
  one : 1 ≤ zs.length
  most : zs.length ≤ 8
  m1 : 1 ≤ m
  m10 : m ≤ 10
  marks : ∀ p ∈ pairsOf zs, mkOk m (f p) = true
def spPageRight (C CP : Addr) : Sp := fun vs H Q _ => ∃ (x pl l sd : Addr) (zs : List Str) (m : Int) (f : Str × Str → V), vs = [.ref x, .ref pl, .ref sd] ∧ PageOf H C CP x zs m f ∧ NotOwn H CP x sd ∧ H pl = some (.dK (planK l m)) ∧ H l = some (.lst (zs.map V.str)) ∧ H sd = some (.dT (sheetOf zs f)) ∧ Told zs m f ∧ ∀ G, Same H G → Q (.bl true) G
theorem eqv_none {m : Int} {v : V} (h : mkOk m v = true) : PyData.eqv (markD v) .none = decide (v = .non) := by
  cases v with
  | non => decide +kernel
  | int i =>
    rw [decide_eq_false (by intro z; cases z)]
    show PyData.eqv (.int i) .none = false
    simp [PyData.eqv]
  | _ => cases h
theorem none_in {m : Int} : ∀ {vs : List V}, (∀ v ∈ vs, mkOk m v = true) → ((vs.map markD).any fun z => PyData.eqv z .none) = vs.any fun v => decide (v = .non)
  | [], _ => rfl
  | v :: vs, h => by
    rw [List.map_cons, List.any_cons, List.any_cons, eqv_none (h v (List.mem_cons_self ..)), none_in fun x hx => h x (List.mem_cons_of_mem _ hx)]
theorem likeB_self (zs : List Str) (f : Str × Str → V) : likeB zs f f = true := by
  unfold likeB
  rw [List.all_eq_true]
  intro p _
  exact decide_eq_true rfl
theorem isKeys_same {H H2 : Hp} (s : Same H H2) {kvs : List (List Key × V)} {bs : List Addr} (h : IsKeys H kvs bs) : IsKeys H2 kvs bs := by
  unfold IsKeys at h ⊢
  induction h with
  | nil => exact .nil
  | cons h t ih => exact .cons (s _ _ h) ih
theorem isKeys_dp {K : PySem.W.Frag} {H : Hp} {f : Str × Str → V} : ∀ {l : List (Str × Str)} {bs : List Addr}, IsKeys H (l.map fun p => (key2 p, f p)) bs → DpAll K H (bs.map V.ref) (l.map pairD)
  | [], _, h => by
    cases h
    exact .nil
  | p :: l, _, h => by
    cases h with
    | cons h t => exact .cons (.tup (SqT.of h) (.cons (.str _) (.cons (.str _) .nil))) (isKeys_dp t)
theorem small_pairsOf {zs : List Str} (h : ∀ z ∈ zs, z ∈ names8) : ∀ d ∈ (pairsOf zs).map pairD, Small d := fun d hd => by
  obtain ⟨p, hp, rfl⟩ := List.mem_map.mp hd
  obtain ⟨h1, h2, _⟩ := mem_pairs hp
  exact small_pairs p.1 (h _ h1) p.2 (h _ h2)
theorem small_sheet {zs : List Str} {m : Int} {f : Str × Str → V} (t : Told zs m f) : ∀ d ∈ ((pairsOf zs).map f).map markD, Small d := fun d hd => by
  obtain ⟨v, hv, rfl⟩ := List.mem_map.mp hd
  obtain ⟨p, hp, rfl⟩ := List.mem_map.mp hv
  exact small_mark (t.marks p hp) t.m10
theorem full_none {zs : List Str} {m : Int} {f : Str × Str → V} (t : Told zs m f) : (!(((pairsOf zs).map f).map markD).any fun z => PyData.eqv z .none) = fullB zs f := by
  rw [none_in (m := m) fun v hv => by obtain ⟨p, hp, rfl⟩ := List.mem_map.mp hv; exact t.marks p hp]
  unfold fullB
  rw [List.any_map]
  induction pairsOf zs with
  | nil => rfl
  | cons p l ih =>
    rw [List.any_cons, List.all_cons, ← ih, Bool.not_or]
    rfl
theorem ItemsK.snoc {H : Hp} {ts : List Addr} {kvs : List (Key × V)} {t : Addr} {k : Key} {v : V} (h : ItemsK H ts kvs) (e : H t = some (.tup [kV k, v])) : ItemsK H (ts ++ [t]) (kvs ++ [(k, v)]) := by
  refine ⟨by rw [List.length_append, List.length_append, h.1]; rfl, fun j x kv h1 h2 => ?_⟩
  rcases Nat.lt_trichotomy j ts.length with c | c | c
  · rw [List.getElem?_append_left c] at h1
    rw [List.getElem?_append_left (by rw [← h.1]; exact c)] at h2
    exact h.2 j x kv h1 h2
  · subst c
    rw [List.getElem?_append_right (Nat.le_refl _), Nat.sub_self] at h1
    rw [h.1, List.getElem?_append_right (Nat.le_refl _), Nat.sub_self] at h2
    cases h1
    cases h2
    exact e
  · rw [List.getElem?_eq_none (by rw [List.length_append, List.length_singleton]; omega)] at h1
    cases h1
theorem ItemsK.keep {H H2 : Hp} {ts : List Addr} {kvs : List (Key × V)} (h : ItemsK H ts kvs) (k : ∀ t ∈ ts, ∀ o, H t = some o → H2 t = some o) : ItemsK H2 ts kvs := ⟨h.1, fun j t kv h1 h2 => k t (List.mem_of_getElem? h1) _ (h.2 j t kv h1 h2)⟩
theorem itemsK_dp {K : PySem.W.Frag} {H : Hp} {m : Int} : ∀ {es : List (Str × V)} {ts : List Addr}, ItemsK H ts (rowD es) → (∀ e ∈ es, mkOk m e.2 = true) → DpAll K H (ts.map V.ref) (es.map fun e => rowDat e.1 e.2)
  | [], [], _, _ => .nil
  | [], t :: ts, h, _ => by cases h.1
  | e :: es, [], h, _ => by cases h.1
  | e :: es, t :: ts, h, hm => .cons (dp_row (h.2 0 t _ rfl rfl) (hm e (List.mem_cons_self ..))) (itemsK_dp ⟨Nat.succ.inj h.1, fun j x kv h1 h2 => h.2 (j + 1) x kv h1 h2⟩ fun x hx => hm x (List.mem_cons_of_mem _ hx))
/-- the row of somebody, word by word -/
def rowEs (zs : List Str) (f : Str × Str → V) (a : Str) : List (Str × V) := (zs.filter fun b => a ≠ b).map fun b => (b, f (a, b))
theorem rowK_es (zs : List Str) (f : Str × Str → V) (a : Str) : rowK zs f a = rowD (rowEs zs f a) := by
  unfold rowK rowD rowEs
  rw [List.map_map]
  rfl
theorem mem_rowEs {zs : List Str} {f : Str × Str → V} {a : Str} {e : Str × V} (h : e ∈ rowEs zs f a) : e.1 ∈ zs ∧ e.1 ≠ a ∧ e.2 = f (a, e.1) := by
  unfold rowEs at h
  obtain ⟨b, hb, rfl⟩ := List.mem_map.mp h
  obtain ⟨h1, h2⟩ := List.mem_filter.mp hb
  exact ⟨h1, fun z => (of_decide_eq_true h2) z.symm, rfl⟩
theorem small_rowEs {zs : List Str} {m : Int} {f : Str × Str → V} (t : Told zs m f) {a : Str} (ha : a ∈ zs) : ∀ d ∈ (rowEs zs f a).map fun e => rowDat e.1 e.2, Small d := fun d hd => by
  obtain ⟨e, he, rfl⟩ := List.mem_map.mp hd
  obtain ⟨h1, h2, h3⟩ := mem_rowEs he
  rw [h3]
  exact small_row (t.mem _ h1) (t.marks _ (mem_pairsOf ha h1 h2.symm)) t.m10
end L2

set_option Elab.async false
set_option linter.all false
set_option maxRecDepth 100000
set_option maxHeartbeats 4000000
namespace K45
open PySem PySem.Spec PyProof.Rows L2
def topS (i : Nat) : Stmt := PySem.Challenge.pw_ownmarks_k45_whole_worst_lots.main.body.getD i (.Pass ⟨0, 0, 0, 0⟩)
abbrev sIsInteger : Stmt := topS 13
theorem scIsInteger : FnScope ["value"] ["value"] (defScope sIsInteger) := ⟨rfl, rfl, rfl, by decide +kernel, rfl, by decide +kernel, by decide +kernel⟩
abbrev sIsIntegerWithin : Stmt := topS 14
theorem scIsIntegerWithin : FnScope ["value", "least", "most"] ["value", "least", "most"] (defScope sIsIntegerWithin) := ⟨rfl, rfl, rfl, by decide +kernel, rfl, by decide +kernel, by decide +kernel⟩
abbrev sIsWord : Stmt := topS 15
theorem scIsWord : FnScope ["value", "sign"] ["value"] (defScope sIsWord) := ⟨rfl, rfl, rfl, by decide +kernel, rfl, by decide +kernel, by decide +kernel⟩
abbrev sBadCrowdInit : Stmt := inClass (topS 4) 0
theorem scBadCrowdInit : FnScope ["self", "part"] ["self", "part"] (defScope sBadCrowdInit) := ⟨rfl, rfl, rfl, by decide +kernel, rfl, by decide +kernel, by decide +kernel⟩
abbrev sTooManyInit : Stmt := inClass (topS 8) 0
theorem scTooManyInit : FnScope ["self", "most"] ["self", "most"] (defScope sTooManyInit) := ⟨rfl, rfl, rfl, by decide +kernel, rfl, by decide +kernel, by decide +kernel⟩
abbrev sLowestTerms : Stmt := topS 16
theorem scLowestTerms : FnScope ["top", "bottom", "part"] ["top", "bottom"] (defScope sLowestTerms) := ⟨rfl, rfl, rfl, by decide +kernel, rfl, by decide +kernel, by decide +kernel⟩
abbrev sIsLess : Stmt := topS 17
theorem scIsLess : FnScope ["one", "other"] ["one", "other"] (defScope sIsLess) := ⟨rfl, rfl, rfl, by decide +kernel, rfl, by decide +kernel, by decide +kernel⟩
abbrev sPower : Stmt := topS 18
theorem scPower : FnScope ["base", "many", "told", "_"] ["base", "many"] (defScope sPower) := ⟨rfl, rfl, rfl, by decide +kernel, rfl, by decide +kernel, by decide +kernel⟩
abbrev sAllTuples : Stmt := topS 19
theorem scAllTuples : FnScope ["most", "many", "told", "_", "row", "number"] ["most", "many"] (defScope sAllTuples) := ⟨rfl, rfl, rfl, by decide +kernel, rfl, by decide +kernel, by decide +kernel⟩
abbrev sArePeople : Stmt := topS 23
theorem scArePeople : FnScope ["value", "person"] ["value"] (defScope sArePeople) := ⟨rfl, rfl, rfl, by decide +kernel, rfl, by decide +kernel, by decide +kernel⟩
abbrev sCrowdInit : Stmt := inClass (topS 24) 0
theorem scCrowdInit : FnScope ["self", "people", "most"] ["self", "people", "most"] (defScope sCrowdInit) := ⟨rfl, rfl, rfl, by decide +kernel, rfl, by decide +kernel, by decide +kernel⟩
abbrev sCrowdPeople : Stmt := inClass (topS 24) 1
theorem scCrowdPeople : FnScope ["self"] ["self"] (defScope sCrowdPeople) := ⟨rfl, rfl, rfl, by decide +kernel, rfl, by decide +kernel, by decide +kernel⟩
abbrev sCrowdLen : Stmt := inClass (topS 24) 2
theorem scCrowdLen : FnScope ["self"] ["self"] (defScope sCrowdLen) := ⟨rfl, rfl, rfl, by decide +kernel, rfl, by decide +kernel, by decide +kernel⟩
abbrev sCrowdContains : Stmt := inClass (topS 24) 3
theorem scCrowdContains : FnScope ["self", "x"] ["self", "x"] (defScope sCrowdContains) := ⟨rfl, rfl, rfl, by decide +kernel, rfl, by decide +kernel, by decide +kernel⟩
abbrev sCrowdEq : Stmt := inClass (topS 24) 5
theorem scCrowdEq : FnScope ["self", "other"] ["self", "other"] (defScope sCrowdEq) := ⟨rfl, rfl, rfl, by decide +kernel, rfl, by decide +kernel, by decide +kernel⟩
abbrev sCrowdPairs : Stmt := inClass (topS 24) 7
theorem scCrowdPairs : FnScope ["self", "marker", "marked"] ["self"] (defScope sCrowdPairs) := ⟨rfl, rfl, rfl, by decide +kernel, rfl, by decide +kernel, by decide +kernel⟩
abbrev sCrowdIsPair : Stmt := inClass (topS 24) 8
theorem scCrowdIsPair : FnScope ["self", "value"] ["self", "value"] (defScope sCrowdIsPair) := ⟨rfl, rfl, rfl, by decide +kernel, rfl, by decide +kernel, by decide +kernel⟩
abbrev sNeedCrowd : Stmt := topS 25
theorem scNeedCrowd : FnScope ["crowd"] ["crowd"] (defScope sNeedCrowd) := ⟨rfl, rfl, rfl, by decide +kernel, rfl, by decide +kernel, by decide +kernel⟩
abbrev sIsMark : Stmt := topS 29
theorem scIsMark : FnScope ["crowd", "value"] ["crowd", "value"] (defScope sIsMark) := ⟨rfl, rfl, rfl, by decide +kernel, rfl, by decide +kernel, by decide +kernel⟩
abbrev sIsMarkOrNone : Stmt := topS 30
theorem scIsMarkOrNone : FnScope ["crowd", "value"] ["crowd", "value"] (defScope sIsMarkOrNone) := ⟨rfl, rfl, rfl, by decide +kernel, rfl, by decide +kernel, by decide +kernel⟩
abbrev sAreMarks : Stmt := topS 31
theorem scAreMarks : FnScope ["crowd", "value", "pair", "mark"] ["crowd", "value"] (defScope sAreMarks) := ⟨rfl, rfl, rfl, by decide +kernel, rfl, by decide +kernel, by decide +kernel⟩
abbrev sPageInit : Stmt := inClass (topS 32) 0
theorem scPageInit : FnScope ["self", "crowd", "marks", "pair"] ["self", "crowd", "marks"] (defScope sPageInit) := ⟨rfl, rfl, rfl, by decide +kernel, rfl, by decide +kernel, by decide +kernel⟩
abbrev sPageMarks : Stmt := inClass (topS 32) 1
theorem scPageMarks : FnScope ["self", "pair", "mark"] ["self"] (defScope sPageMarks) := ⟨rfl, rfl, rfl, by decide +kernel, rfl, by decide +kernel, by decide +kernel⟩
abbrev sNeedFewPages : Stmt := topS 33
theorem scNeedFewPages : FnScope ["crowd"] ["crowd"] (defScope sNeedFewPages) := ⟨rfl, rfl, rfl, by decide +kernel, rfl, by decide +kernel, by decide +kernel⟩
abbrev sListWinners : Stmt := topS 36
theorem scListWinners : FnScope ["marks", "members", "markers", "sums", "marker", "member", "greatest"] ["marks", "members", "markers"] (defScope sListWinners) := ⟨rfl, rfl, rfl, by decide +kernel, rfl, by decide +kernel, by decide +kernel⟩
abbrev sPartingWinners : Stmt := topS 37
theorem scPartingWinners : FnScope ["people", "marks", "first", "one", "person", "other", "found"] ["people", "marks", "first"] (defScope sPartingWinners) := ⟨rfl, rfl, rfl, by decide +kernel, rfl, by decide +kernel, by decide +kernel⟩
abbrev sHalfPrizes : Stmt := topS 38
theorem scHalfPrizes : FnScope ["people", "marks", "told", "person", "sides", "first", "side", "winner"] ["people", "marks"] (defScope sHalfPrizes) := ⟨rfl, rfl, rfl, by decide +kernel, rfl, by decide +kernel, by decide +kernel⟩
abbrev sHalvesInAll : Stmt := topS 39
theorem scHalvesInAll : FnScope ["people"] ["people"] (defScope sHalvesInAll) := ⟨rfl, rfl, rfl, by decide +kernel, rfl, by decide +kernel, by decide +kernel⟩
abbrev sSumsOfMarks : Stmt := topS 40
theorem scSumsOfMarks : FnScope ["people", "marks", "marker", "person"] ["people", "marks"] (defScope sSumsOfMarks) := ⟨rfl, rfl, rfl, by decide +kernel, rfl, by decide +kernel, by decide +kernel⟩
abbrev sWorthAndGreatest : Stmt := topS 41
theorem scWorthAndGreatest : FnScope ["people", "marks", "sums", "halves", "person", "won"] ["people", "marks"] (defScope sWorthAndGreatest) := ⟨rfl, rfl, rfl, by decide +kernel, rfl, by decide +kernel, by decide +kernel⟩
abbrev sRatioOf : Stmt := topS 42
theorem scRatioOf : FnScope ["people", "marks", "worth", "greatest"] ["people", "marks"] (defScope sRatioOf) := ⟨rfl, rfl, rfl, by decide +kernel, rfl, by decide +kernel, by decide +kernel⟩
abbrev sWorstLot : Stmt := topS 43
theorem scWorstLot : FnScope ["crowd", "people", "pairs", "told", "row", "marks", "pair", "mark", "ratio"] ["crowd"] (defScope sWorstLot) := ⟨rfl, rfl, rfl, by decide +kernel, rfl, by decide +kernel, by decide +kernel⟩
abbrev sOpened : Stmt := topS 45
theorem scOpened : FnScope ["_law_script", "_law_k", "_law_cell", "_law_great"] ["_law_script", "_law_k"] (defScope sOpened) := ⟨rfl, rfl, rfl, by decide +kernel, rfl, by decide +kernel, by decide +kernel⟩
abbrev sDraw : Stmt := topS 46
theorem scDraw : FnScope ["_law_pool", "_law_many_here", "_law_found"] ["_law_pool", "_law_many_here"] (defScope sDraw) := ⟨rfl, rfl, rfl, by decide +kernel, rfl, by decide +kernel, by decide +kernel⟩
abbrev sPairs : Stmt := topS 47
theorem scPairs : FnScope ["_law_people", "_law_found", "_law_one", "_law_other"] ["_law_people"] (defScope sPairs) := ⟨rfl, rfl, rfl, by decide +kernel, rfl, by decide +kernel, by decide +kernel⟩
abbrev sLow : Stmt := topS 48
theorem scLow : FnScope ["_law_top", "_law_bottom", "_law_one", "_law_other"] ["_law_top", "_law_bottom"] (defScope sLow) := ⟨rfl, rfl, rfl, by decide +kernel, rfl, by decide +kernel, by decide +kernel⟩
abbrev sAllRows : Stmt := topS 49
theorem scAllRows : FnScope ["_law_most", "_law_many_here", "_law_found", "_law_step", "_law_longer", "_law_row", "_law_mark"] ["_law_most", "_law_many_here"] (defScope sAllRows) := ⟨rfl, rfl, rfl, by decide +kernel, rfl, by decide +kernel, by decide +kernel⟩
abbrev sAllPages : Stmt := topS 50
theorem scAllPages : FnScope ["_law_game", "_law_pairs_here", "_law_row"] ["_law_game"] (defScope sAllPages) := ⟨rfl, rfl, rfl, by decide +kernel, rfl, by decide +kernel, by decide +kernel⟩
abbrev sDouble : Stmt := topS 51
theorem scDouble : FnScope ["_law_many_here", "_law_found", "_law_step"] ["_law_many_here"] (defScope sDouble) := ⟨rfl, rfl, rfl, by decide +kernel, rfl, by decide +kernel, by decide +kernel⟩
abbrev sFirsts : Stmt := topS 53
theorem scFirsts : FnScope ["_law_people", "_law_found", "_law_person", "_law_row"] ["_law_people"] (defScope sFirsts) := ⟨rfl, rfl, rfl, by decide +kernel, rfl, by decide +kernel, by decide +kernel⟩
abbrev sShares : Stmt := topS 54
theorem scShares : FnScope ["_law_game", "_law_marks", "_law_counts", "_law_person", "_law_first", "_law_one"] ["_law_game", "_law_marks"] (defScope sShares) := ⟨rfl, rfl, rfl, by decide +kernel, rfl, by decide +kernel, by decide +kernel⟩
abbrev sSums : Stmt := topS 55
theorem scSums : FnScope ["_law_game", "_law_marks", "_law_found", "_law_person", "_law_pair"] ["_law_game", "_law_marks"] (defScope sSums) := ⟨rfl, rfl, rfl, by decide +kernel, rfl, by decide +kernel, by decide +kernel⟩
abbrev sWorth : Stmt := topS 56
theorem scWorth : FnScope ["_law_game", "_law_marks", "_law_got", "_law_sums_here", "_law_under", "_law_one"] ["_law_game", "_law_marks"] (defScope sWorth) := ⟨rfl, rfl, rfl, by decide +kernel, rfl, by decide +kernel, by decide +kernel⟩
abbrev sRatio : Stmt := topS 57
theorem scRatio : FnScope ["_law_game", "_law_marks", "_law_most", "_law_top", "_law_under"] ["_law_game", "_law_marks"] (defScope sRatio) := ⟨rfl, rfl, rfl, by decide +kernel, rfl, by decide +kernel, by decide +kernel⟩
abbrev sCrowdOf : Stmt := topS 58
theorem scCrowdOf : FnScope ["_law_pool", "_law_many_here", "_law_most", "_law_people", "_law_at"] ["_law_pool", "_law_many_here", "_law_most"] (defScope sCrowdOf) := ⟨rfl, rfl, rfl, by decide +kernel, rfl, by decide +kernel, by decide +kernel⟩
abbrev sMany : Stmt := topS 59
theorem scMany : FnScope ["_law_crowd", "e"] ["_law_crowd"] (defScope sMany) := ⟨rfl, rfl, rfl, by decide +kernel, rfl, by decide +kernel, by decide +kernel⟩
abbrev sLaw : Stmt := topS 60
theorem scLaw : FnScope ["_law_script", "_law_k", "_law_pool", "_law_game", "_law_told", "_law_least", "_law_marks", "_law_one", "_law_page", "_law_some", "_law_crowd"] ["_law_script"] (defScope sLaw) := ⟨rfl, rfl, rfl, by decide +kernel, rfl, by decide +kernel, by decide +kernel⟩
abbrev sLawLot : Stmt := topS 52
theorem scLawLot : FnScope ["_law_game", "_law_marks", "_law_first", "_law_found", "_law_rest", "_law_one", "_law_mine", "_law_others", "_law_sums_here", "_law_other"] ["_law_game", "_law_marks", "_law_first"] (defScope sLawLot) := ⟨rfl, rfl, rfl, by decide +kernel, rfl, by decide +kernel, by decide +kernel⟩
/-! ### the law's own draws -/
section
variable {P : Program} {w : World} {K : PySem.W.Frag} {mg : Str → Option Value} {base : Heap}
structure Bt (mg : Str → Option Value) : Prop where
  len : mg "len" = none
  max : mg "max" = none
  min : mg "min" = none
  int : mg "int" = none
  range : mg "range" = none
theorem ok_opened {f : Addr} {fd : FuncData} (F : Fun K "_law_opened" "_law_opened" sOpened f fd) (B : Bt mg) : FnOk P w K mg base CX0 1 f fd ["_law_script", "_law_k"] (spOpened K) := by
  refine F.ok scOpened (fun vs H Q E h => ?_) (fun cdv A outer s H vs Q E hr h => ?_)
  · obtain ⟨a, ns, k, rfl, _⟩ := h
    rfl
  · obtain ⟨a, ns, k, rfl, hS, hk, q⟩ := h
    refine ⟨_, pss_cons (ps_set (i := 2) scOpened.nd rfl (.inl rfl) (pe_cut (fun _ H v H' => H' = H ∧ ∃ z : Int, v = .int z) (pe_ifExp (pt_cmpR op_lt (pv 1) (pe_callB call_len_seq (by rfl) B.len PySem.boot_len (pa_cons (pv 0) pa_nil)) (nomark _)) (pe_ix ix_list (pv 0) (pv 1) (fun _ _ => rfl)) pe_int)))
      (pss_cons (ps_set (i := 3) scOpened.nd rfl (.inl rfl) (pe_callB (call_max2 rfl) (by rfl) B.max (by decide +kernel) (pa_cons (pe_callTy call_int1 (by rfl) B.int (by decide +kernel) (pa_cons (pv 2) pa_nil))
        (pa_cons (pe_callTy call_int1 (by rfl) B.int (by decide +kernel) (pa_cons (pe_op op_sub (pe_un un_neg pe_int) (pv 2)) pa_nil)) pa_nil))))
      (pss_one (ps_ret (pe_lst (pa_cons (pe_op op_mul (pv 3) (pe_callTy call_int1 (by rfl) B.int (by decide +kernel) (pa_cons (pe_cmpR op_ge (pv 3) (pe_op op_pow pe_int pe_int) (nomark _)) pa_nil)))
        (pa_cons (pe_op op_mod (pe_callTy call_int1 (by rfl) B.int (by decide +kernel) (pa_cons (pe_op op_mul (pe_op op_add (pe_op op_add (pe_op op_mod (pv 3) pe_int) (pe_op op_mul pe_int (pv 1))) pe_int) pe_int) pa_nil)) pe_int) pa_nil)))))), ?_⟩
    refine ⟨?_, ?_⟩
    · -- the cell
      refine ⟨_, rfl, _, rfl, _, _, rfl, .inl hS, _, _, rfl, rfl, _, rfl, ite2 (fun c => ?_) (fun _ => ⟨rfl, 5, rfl⟩)⟩
      have c1 : (k : Int) < ((ns.map V.int).length : Int) := of_decide_eq_true c
      have c2 : k < ns.length := by
        rw [List.length_map] at c1
        omega
      exact ⟨_, rfl, _, rfl, a, _, k, .int ns[k], rfl, rfl, hS, atI_nat (by rw [List.getElem?_map, List.getElem?_eq_getElem c2]; rfl), rfl, _, rfl⟩
    · rintro v H1 ⟨rfl, z, rfl⟩
      refine ⟨_, rfl, .inl ⟨_, rfl, 1, rfl, _, rfl, _, _, rfl, rfl, .inl ⟨_, rfl, _, _, rfl, ?_⟩⟩⟩
      generalize hg : (if (-1 : Int) - z > z then -1 - z else z) = g
      have g0 : 0 ≤ g := by
        rw [← hg]
        split <;> omega
      refine ⟨_, rfl, _, rfl, _, _, rfl, rfl, ⟨by decide, by decide, by decide⟩, _, _, rfl, rfl, .inr ⟨_, rfl, _, _, rfl, rfl, .inr ?_, ?_⟩⟩
      · split <;> omega
      · have km : 0 ≤ g % 2147483629 ∧ g % 2147483629 < 2147483629 := ⟨Int.emod_nonneg _ (by decide), Int.emod_lt_of_pos _ (by decide)⟩
        refine ⟨_, rfl, _, _, rfl, rfl, (by show (0 : Int) < 2147483629; decide), _, rfl, _, _, rfl, rfl, .inl ⟨by omega, by omega⟩, _, _, rfl, rfl, _, _, rfl, rfl, _, _, rfl, rfl, .inr ⟨by decide, by decide⟩, .inl ⟨_, rfl, _, _, rfl, rfl, (by show (0 : Int) < 2147483647; decide), ?_, fun p hp => ?_⟩⟩
        · show 2 ≤ sizeLine
          decide
        · refine newH hp fun H2 s2 h2 => q H2 p s2 hp ⟨_, _, h2, ?_, Int.emod_nonneg _ (by decide), Int.emod_lt_of_pos _ (by decide)⟩
          split
          · omega
          · omega
theorem pool_set0 {g q x : Int} : ([V.int g, V.int q]).set 0 (.int x) = [V.int x, V.int q] := rfl
theorem ok_draw {f : Addr} {fd : FuncData} (F : Fun K "_law_draw" "_law_draw" sDraw f fd) (B : Bt mg) : FnOk P w K mg base CX0 1 f fd ["_law_pool", "_law_many_here"] spDraw := by
  refine F.ok scDraw (fun vs H Q E h => ?_) (fun cdv A outer s H vs Q E hr h => ?_)
  · obtain ⟨a, m, rfl, _⟩ := h
    rfl
  · obtain ⟨a, m, rfl, ⟨g, q, ha, hg, hq0, hq1⟩, m1, m2, kk⟩ := h
    refine ⟨_, pss_cons (ps_if (pt_cmpR op_gt (pe_ix ix_list (pv 0) pe_int (fun _ _ => rfl)) pe_int (nomark _))
        (pss_cons (ps_set (i := 2) scDraw.nd rfl (.inl rfl) (pe_op op_modN (pe_callTy call_int1 (by rfl) B.int (by decide +kernel) (pa_cons (pe_ix ix_list (pv 0) pe_int (fun _ _ => rfl)) pa_nil)) (pv 1)))
        (pss_cons (ps_asg (pe_op op_fdivN (pe_ix ix_list (pv 0) pe_int (fun _ _ => rfl)) (pv 1)) (pg_sub (pv 0) pe_int set_list)) (pss_one (ps_ret (pv 2))))) pss_nil)
      (pss_cons (ps_asg (pe_op op_mod (pe_callTy call_int1 (by rfl) B.int (by decide +kernel) (pa_cons (pe_op op_add (pe_op op_mul (pe_ix ix_list (pv 0) pe_int (fun _ _ => rfl)) pe_int) pe_int) pa_nil)) pe_int) (pg_sub (pv 0) pe_int set_list))
      (pss_one (ps_ret (pe_op op_modN (pe_op op_fdiv (pe_op op_mod (pe_callTy call_int1 (by rfl) B.int (by decide +kernel) (pa_cons (pe_op op_mul (pe_ix ix_list (pv 0) pe_int (fun _ _ => rfl)) (pe_ix ix_list (pv 0) pe_int (fun _ _ => rfl))) pa_nil)) pe_int) pe_int) (pv 1))))), ?_⟩
    have S0 := SqL.of (K := K) ha
    have x0 : atI [V.int g, V.int q] 0 = some (.int g) := rfl
    have x1 : atI [V.int g, V.int q] 1 = some (.int q) := rfl
    have mnz : m ≠ 0 := by omega
    refine ⟨_, rfl, a, _, 0, _, rfl, rfl, S0, x0, _, _, rfl, rfl, _, rfl, ite2 (fun c => ?_) (fun _ => ?_)⟩
    · refine ⟨_, rfl, a, _, 0, _, rfl, rfl, S0, x0, .inl ⟨_, rfl, _, rfl, _, _, rfl, rfl, mnz, ?_⟩⟩
      refine ⟨_, rfl, a, _, 0, _, rfl, rfl, S0, x0, _, rfl, _, _, rfl, rfl, ⟨mnz, by omega⟩, _, rfl, a, _, 0, 0, rfl, rfl, ha, rfl, ?_⟩
      refine ⟨_, rfl, kk _ _ (Int.fmod_nonneg_of_pos _ (by omega)) (Int.fmod_lt_of_pos _ (by omega)) ⟨g.fdiv m, q, upd_same, Int.fdiv_nonneg hg (by omega), hq0, hq1⟩ But.upd⟩
    · refine ⟨_, rfl, a, _, 1, _, rfl, rfl, S0, x1, _, _, rfl, rfl, .inr ⟨by decide, by decide⟩, _, _, rfl, rfl, .inl ⟨_, rfl, _, _, rfl, rfl, (by show (0 : Int) < 2147483647; decide), ?_⟩⟩
      have z0 : 0 ≤ (q * 39373 + 7) % 2147483647 := Int.emod_nonneg _ (by decide)
      have z1 : (q * 39373 + 7) % 2147483647 < 2147483647 := Int.emod_lt_of_pos _ (by decide)
      refine ⟨_, rfl, a, _, 1, 1, rfl, rfl, ha, rfl, ?_⟩
      have h2 : upd H a (.lst [V.int g, V.int ((q * 39373 + 7) % 2147483647)]) a = some (.lst [V.int g, V.int ((q * 39373 + 7) % 2147483647)]) := upd_same
      have S2 := SqL.of (K := K) h2
      have y1 : atI [V.int g, V.int ((q * 39373 + 7) % 2147483647)] 1 = some (.int ((q * 39373 + 7) % 2147483647)) := rfl
      refine ⟨_, rfl, a, _, 1, _, rfl, rfl, S2, y1, _, rfl, a, _, 1, _, rfl, rfl, S2, y1, _, _, rfl, rfl, .inl ⟨by omega, by omega⟩, .inl ⟨_, rfl, _, _, rfl, rfl, (by show (0 : Int) < 2147483629; decide), _, _, rfl, rfl, ⟨by decide, by decide⟩, _, rfl, _, _, rfl, rfl, mnz, ?_⟩⟩
      exact kk _ _ (Int.fmod_nonneg_of_pos _ (by omega)) (Int.fmod_lt_of_pos _ (by omega)) ⟨g, _, h2, hg, z0, z1⟩ But.upd
end

section
variable {P : Program} {w : World} {K : PySem.W.Frag} {mg : Str → Option Value} {base : Heap}
end

/-! ### the program: integers, words, people -/
structure Tx (mg : Str → Option Value) : Prop where
  isi : mg "isinstance" = none
  str : mg "str" = none
  bool : mg "bool" = none
  list : mg "list" = none
  tuple : mg "tuple" = none
  set : mg "set" = none
  all : mg "all" = none
  letters : ∃ t, mg "LETTERS" = some (.str letters t)
  longest : ∃ t, mg "LONGEST" = some (.int 8 t)
  mostP : ∃ t, mg "MOST_PEOPLE" = some (.int 8 t)
  greatest : ∃ t, mg "GREATEST_MARK" = some (.int 10 t)
section
variable {P : Program} {w : World} {K : PySem.W.Frag} {mg : Str → Option Value} {base : Heap}
theorem ok_isInteger {f : Addr} {fd : FuncData} (F : Fun K "is_integer" "is_integer" sIsInteger f fd) (B : Bt mg) (T : Tx mg) : FnOk P w K mg base CX0 1 f fd ["value"] (spIsInteger K) := by
  refine F.ok scIsInteger (fun vs H Q E h => ?_) (fun cdv A outer s H vs Q E hr h => ?_)
  · obtain ⟨v, T, rfl, _⟩ := h
    rfl
  · obtain ⟨v, N, rfl, ⟨ty, hk⟩, q⟩ := h
    refine ⟨_, pss_one (ps_ret (pe_and (pe_callB call_isi (by rfl) T.isi (by decide +kernel) (pa_cons (pv 0) (pa_cons (pe_bltn (v := .ty "int") (by rfl) B.int (by decide +kernel) rfl) pa_nil)))
      (pe_one (pe_not (pe_callB call_isi (by rfl) T.isi (by decide +kernel) (pa_cons (pv 0) (pa_cons (pe_bltn (v := .ty "bool") (by rfl) T.bool (by decide +kernel) rfl) pa_nil))))))), ?_⟩
    refine ⟨_, rfl, v, .ty "int", _, _, _, rfl, .ty "int", ty, kit_ty (kit_int hk), _, rfl, ite2 (fun c => ?_) (fun c => ?_)⟩
    · refine ⟨_, rfl, v, .ty "bool", _, _, _, rfl, .ty "bool", ty, kit_ty (kit_bool hk), _, rfl, ?_⟩
      have e : (!decide (N = "bool")) = decide (N = "int") := by
        by_cases h1 : N = "bool"
        · subst h1
          rfl
        · rw [decide_eq_false h1, Bool.or_false] at c
          rw [decide_eq_false h1, c]
          rfl
      rw [e]
      exact q
    · have e : decide (N = "int") = false := by
        cases h1 : decide (N = "int") with
        | false => rfl
        | true =>
          rw [h1] at c
          exact absurd rfl c
      rw [e] at q
      exact q
theorem ok_within {f fI : Addr} {fd fdI : FuncData} (F : Fun K "is_integer_within" "is_integer_within" sIsIntegerWithin f fd) (FI : Fun K "is_integer" "is_integer" sIsInteger fI fdI) (bI : Binds K fdI ["value"] []) (gI : mg "is_integer" = some (.ref fI)) (B : Bt mg) (T : Tx mg) :
    FnOk P w K mg base CX0 2 f fd ["value", "least", "most"] (spWithin K) := by
  have GI : FnOk P w K mg base CX0 1 fI fdI ["value"] (spIsInteger K) := ok_isInteger FI B T
  refine F.ok scIsIntegerWithin (fun vs H Q E h => ?_) (fun cdv A outer s H vs Q E hr h => ?_)
  · obtain ⟨v, lo, hi, rfl, _⟩ := h
    rfl
  · obtain ⟨v, lo, hi, rfl, ⟨N, ty⟩, q⟩ := h
    refine ⟨_, pss_one (ps_ret (pe_and (pe_call GI hr (by rfl) gI FI.kp bI .nil pass0 (pa_cons (pv 0) pa_nil)) (pe_one (pe_chain op_le op_le (pv 1) (pv 0) (pv 2))))), ?_⟩
    refine ⟨_, rfl, v, N, rfl, ty, _, rfl, ite2 (fun c => ?_) (fun c => ?_)⟩
    · have e : N = "int" := of_decide_eq_true c
      subst e
      obtain ⟨i, rfl⟩ := ty_int ty.1
      refine ⟨_, rfl, _, rfl, _, _, rfl, rfl, _, rfl, ite2 (fun c1 => ?_) (fun c1 => ?_)⟩
      · refine ⟨_, rfl, _, _, rfl, rfl, ?_⟩
        have e : markB lo hi (.int i) = decide (i ≤ hi) := by
          show (decide (lo ≤ i) && decide (i ≤ hi)) = _
          rw [show decide (lo ≤ i) = true from c1, Bool.true_and]
        rw [e] at q
        exact q
      · have e : markB lo hi (.int i) = false := by
          show (decide (lo ≤ i) && decide (i ≤ hi)) = _
          rw [show decide (lo ≤ i) = false from Bool.eq_false_iff.mpr c1, Bool.false_and]
        rw [e] at q
        exact q
    · have e : markB lo hi v = false := by
        cases v with
        | int i => exact absurd (decide_eq_true (int_ty ty.1)) c
        | _ => rfl
      rw [e] at q
      exact q
theorem ok_isWord {f : Addr} {fd : FuncData} (F : Fun K "is_word" "is_word" sIsWord f fd) (B : Bt mg) (T : Tx mg) : FnOk P w K mg base CX0 1 f fd ["value"] (spIsWord K) := by
  obtain ⟨t1, g1⟩ := T.letters
  obtain ⟨t2, g2⟩ := T.longest
  refine F.ok scIsWord (fun vs H Q E h => ?_) (fun cdv A outer s H vs Q E hr h => ?_)
  · obtain ⟨v, rfl, _⟩ := h
    rfl
  · obtain ⟨v, rfl, ⟨⟨N, ty, hk⟩, hz⟩, q⟩ := h
    refine ⟨_, pss_cons (ps_if (PW.pt (pw_or (pt_not (pt_val (pe_callB call_isi (by rfl) T.isi (by decide +kernel) (pa_cons (pv 0) (pa_cons (pe_bltn (v := .ty "str") (by rfl) T.str (by decide +kernel) rfl) pa_nil)))))
        (pw_or1 (pt_not (pt_chain op_le op_le pe_int (pe_callB call_len (by rfl) B.len PySem.boot_len (pa_cons (pv 0) pa_nil)) (pe_glob (v := .int 8) (by rfl) g2 ⟨_, rfl⟩)))))) (pss_one (ps_ret pe_bl)) pss_nil)
      (pss_one (ps_ret (pe_callB (cr_all rfl) (by rfl) T.all (by decide +kernel) (pa_cons (pe_lc (own := [("sign", 1)]) (g := gName 1) (by rfl) scIsWord.nd (pi_str (pv 0)) (blkOk_by (own := [("sign", 1)]) (N := ["value", "sign"]) (sc := defScope sIsWord) (by decide +kernel))
        (fun _ _ _ _ _ => pg_name (i := 1) scIsWord.nd rfl (Or.inl rfl)) (fun _ _ _ _ _ => pts_nil) (fun _ _ _ _ _ => pe_cmpR op_in_sign (pv 1) (pe_glob (v := .str letters) (by rfl) g1 ⟨_, rfl⟩) (by rfl))) pa_nil)))), ?_⟩
    refine ⟨_, rfl, v, .ty "str", _, _, _, rfl, .ty "str", ty, kit_ty (kit_str hk), _, rfl, ?_⟩
    by_cases hs : N = "str"
    · subst hs
      obtain ⟨z, rfl⟩ := ty_str ty
      have hl := hz z rfl
      refine iteF ?_
      refine ⟨_, rfl, _, z.length, rfl, ⟨Nat.le_trans hl (by decide), rfl⟩, _, _, rfl, rfl, _, rfl, ite2 (fun c1 => ?_) (fun c1 => ?_)⟩
      · have h1 : 1 ≤ z.length := by
          have := of_decide_eq_true c1
          omega
        refine ⟨_, _, rfl, rfl, _, rfl, ?_⟩
        by_cases h2 : z.length ≤ 8
        · have h2' : decide (((z.length : Nat) : Int) ≤ 8) = true := decide_eq_true (by omega)
          rw [h2']
          refine iteF ?_
          refine ⟨_, rfl, z, rfl, fun D nD => ?_⟩
          refine lc_map (ys := (z.cps.toList.map fun c => decide (c ∈ letters.cps.toList)).map V.bl) walk_kmSigns (by unfold kmSigns; simp) ?_ nD (fun _ _ => trivial) (fun _ => rfl) (fun i x y H1 Q1 hx hy s1 k => ?_) (fun H1 s1 hD => ?_)
          · have : (kmSigns z).length = z.length := by
              unfold kmSigns
              rw [List.length_map, Array.length_toList]
              rfl
            rw [this]
            exact small1000 hl
          · unfold kmSigns at hx
            rw [List.getElem?_map] at hx hy
            rw [List.getElem?_map] at hy
            cases hc : z.cps.toList[i]? with
            | none =>
              rw [hc] at hx
              cases hx
            | some c =>
              rw [hc] at hx hy
              obtain rfl := Option.some.inj hx
              obtain rfl := Option.some.inj hy
              exact ⟨_, rfl, c, letters, rfl, rfl, k H1 (Same.refl H1)⟩
          · refine ⟨D, _, rfl, SqL.of hD, ?_⟩
            have e : isW (.str z) = (z.cps.toList.map fun c => decide (c ∈ letters.cps.toList)).all id := by
              show ((decide (1 ≤ z.length) && decide (z.length ≤ 8)) && _) = _
              rw [decide_eq_true h1, decide_eq_true h2, Bool.true_and, Bool.true_and, List.all_map]
              rfl
            rw [← e]
            exact q H1 s1
        · have h2' : decide (((z.length : Nat) : Int) ≤ 8) = false := decide_eq_false (by omega)
          rw [h2']
          refine iteT ?_
          have e : isW (.str z) = false := by
            show ((decide (1 ≤ z.length) && decide (z.length ≤ 8)) && _) = false
            rw [decide_eq_false h2, Bool.and_false, Bool.false_and]
          rw [e] at q
          exact q H (Same.refl H)
      · have h1 : ¬ 1 ≤ z.length := fun h => c1 (decide_eq_true (by omega))
        refine ⟨_, rfl, iteT ?_⟩
        have e : isW (.str z) = false := by
          show ((decide (1 ≤ z.length) && decide (z.length ≤ 8)) && _) = false
          rw [decide_eq_false h1, Bool.false_and, Bool.false_and]
        rw [e] at q
        exact q H (Same.refl H)
    · have e : decide (N = "str") = false := decide_eq_false hs
      rw [e]
      refine iteT (iteT ?_)
      have e2 : isW v = false := by
        cases v with
        | str z => exact absurd (str_ty ty) hs
        | _ => rfl
      rw [e2] at q
      exact q H (Same.refl H)
end

section
variable {P : Program} {w : World} {K : PySem.W.Frag} {mg : Str → Option Value} {base : Heap}
/-- the law of a list's or a tuple's items, given how it is walked and measured -/
theorem ok_arePeople {f fW : Addr} {fd fdW : FuncData} (F : Fun K "are_people" "are_people" sArePeople f fd) (FW : Fun K "is_word" "is_word" sIsWord fW fdW) (bW : Binds K fdW ["value"] []) (gW : mg "is_word" = some (.ref fW)) (B : Bt mg) (T : Tx mg) :
    FnOk P w K mg base CX0 2 f fd ["value"] (spArePeople K) := by
  have GW : FnOk P w K mg base CX0 1 fW fdW ["value"] (spIsWord K) := ok_isWord FW B T
  obtain ⟨t1, g1⟩ := T.mostP
  refine F.ok scArePeople (fun vs H Q E h => ?_) (fun cdv A outer s H vs Q E hr h => ?_)
  · obtain ⟨v, b, xs, rfl, _⟩ := h
    rfl
  · obtain ⟨v, b, xs, rfl, ha, q⟩ := h
    cases ha with
    | @no _ N t h1 h2 =>
      refine ⟨_, pss_cons (ps_if (PW.pt (pw_or (pt_not (pt_val (pe_callB call_isiT (by rfl) T.isi (by decide +kernel) (pa_cons (pv 0) (pa_cons (pe_tup (pa_cons (pe_bltn (v := .ty "list") (by rfl) T.list (by decide +kernel) rfl) (pa_cons (pe_bltn (v := .ty "tuple") (by rfl) T.tuple (by decide +kernel) rfl) pa_nil))) pa_nil)))))
          (pw_or1 (pt_not (pt_chain op_le op_le pe_int (pe_callB call_len_seq (by rfl) B.len PySem.boot_len (pa_cons (pv 0) pa_nil)) (pe_glob (v := .int 8) (by rfl) g1 ⟨_, rfl⟩)))))) (pss_one (ps_ret pe_bl)) pss_nil)
        (pss_one ps_never), ?_⟩
      refine ⟨_, rfl, (by show 2 ≤ sizeLine; decide), fun p np => ?_⟩
      refine ⟨v, p, _, _, _, _, rfl, upd_same, .cons (.ty "list") (.cons (.ty "tuple") .nil), TyX.same (same_new np) t.1, kit_listTuple t.2, _, rfl, ?_⟩
      rw [decide_eq_false h1, decide_eq_false h2]
      exact iteT (iteT (q _ (same_new np)))
    | @lst a _ e hx hl =>
      refine ⟨_, pss_cons (ps_if (PW.pt (pw_or (pt_not (pt_val (pe_callB call_isiT (by rfl) T.isi (by decide +kernel) (pa_cons (pv 0) (pa_cons (pe_tup (pa_cons (pe_bltn (v := .ty "list") (by rfl) T.list (by decide +kernel) rfl) (pa_cons (pe_bltn (v := .ty "tuple") (by rfl) T.tuple (by decide +kernel) rfl) pa_nil))) pa_nil)))))
          (pw_or1 (pt_not (pt_chain op_le op_le pe_int (pe_callB call_len_seq (by rfl) B.len PySem.boot_len (pa_cons (pv 0) pa_nil)) (pe_glob (v := .int 8) (by rfl) g1 ⟨_, rfl⟩)))))) (pss_one (ps_ret pe_bl)) pss_nil)
        (pss_one (ps_ret (pe_and (pe_callB (cr_all rfl) (by rfl) T.all (by decide +kernel) (pa_cons (pe_lc (own := [("person", 1)]) (g := gName 1) (by rfl) scArePeople.nd (pi_list (pv 0)) (blkOk_by (own := [("person", 1)]) (N := ["value", "person"]) (sc := defScope sArePeople) (by decide +kernel))
            (fun _ _ _ _ _ => pg_name (i := 1) scArePeople.nd rfl (Or.inl rfl)) (fun _ _ _ _ _ => pts_nil) (fun _ _ _ _ _ => pe_call GW (by exact hr) (by rfl) gW FW.kp bW .nil pass0 (pa_cons (pv 1) pa_nil))) pa_nil))
          (pe_one (pe_cmpR op_eq (pe_callB cr_lenK (by rfl) B.len PySem.boot_len (pa_cons (pe_callTy (cr_setK rfl) (by rfl) T.set (by decide +kernel) (pa_cons (pv 0) pa_nil)) pa_nil)) (pe_callB call_len_seq (by rfl) B.len PySem.boot_len (pa_cons (pv 0) pa_nil)) (nomark _)))))), ?_⟩
      refine ⟨_, rfl, (by show 2 ≤ sizeLine; decide), fun p np => ?_⟩
      refine ⟨_, p, _, _, _, _, rfl, upd_same, .cons (.ty "list") (.cons (.ty "tuple") .nil), .base (.lst (same_new np _ _ e)), kit_listTuple (by decide), _, rfl, ?_⟩
      refine iteF ?_
      generalize e1 : upd H p _ = H1
      have s1 : Same H H1 := e1 ▸ same_new np
      have ha1 := s1 _ _ e
      refine ⟨_, rfl, a, xs, rfl, .inl (SqL.of ha1), _, _, rfl, rfl, _, rfl, ite2 (fun c1 => ?_) (fun c1 => ?_)⟩
      · have h1 : 1 ≤ xs.length := by
          have := of_decide_eq_true c1
          omega
        refine ⟨_, _, rfl, rfl, _, rfl, ?_⟩
        by_cases h2 : xs.length ≤ 8
        · rw [show decide (((xs.length : Nat) : Int) ≤ 8) = true from decide_eq_true (by omega)]
          refine iteF ?_
          refine ⟨_, rfl, a, rfl, ⟨xs, SqL.of ha1⟩, fun D nD => ?_⟩
          refine lc_map (ys := (xs.map isW).map V.bl) (w := walk_list (K := K) (a := a) (xs := xs)) (by simp) (small1000 hl) nD (fun H2 s2 => SqL.of (s2 _ _ ha1)) (fun _ => rfl) (fun i x y H2 Q2 hxi hyi s2 k => ?_) (fun H2 s2 hD => ?_)
          · rw [List.getElem?_map, List.getElem?_map, hxi] at hyi
            obtain rfl := Option.some.inj hyi
            exact ⟨_, rfl, x, rfl, (hx x (List.mem_of_getElem? hxi)).same (s1.trans s2), fun H3 s3 => k H3 s3⟩
          · refine ⟨D, xs.map isW, rfl, SqL.of hD, _, rfl, ite2 (fun c2 => ?_) (fun c2 => ?_)⟩
            · have c3 : xs.all isW = true := by
                rw [List.all_map] at c2
                exact c2
              obtain ⟨zs, rfl⟩ := strs_of_isW c3
              refine ⟨_, rfl, a, zs.map Sum.inr, rfl, .inl (by rw [← keys_of_strs]; exact SqL.of (s2 _ _ ha1)), (by rw [List.length_map] at hl ⊢; exact hl), fun r nr => ?_⟩
              refine ⟨r, _, _, rfl, upd_same, ?_, _, rfl, a, _, rfl, .inl (SqL.of (same_new nr _ _ (s2 _ _ ha1))), rfl, ?_⟩
              · have := Km.uniq_le (zs.map (Sum.inr : Str → Key))
                rw [List.length_map] at this hl
                omega
              · rw [uniq_strs]
                have e2 : peopleB (zs.map V.str) = decide (zs.map V.str).Nodup := by
                  show ((decide (1 ≤ (zs.map V.str).length) && decide ((zs.map V.str).length ≤ 8)) && ((zs.map V.str).all isW && _)) = _
                  rw [decide_eq_true h1, decide_eq_true h2, c3, Bool.true_and, Bool.true_and, Bool.true_and]
                rw [← e2]
                exact q _ ((s1.trans s2).trans (same_new nr))
            · have e2 : peopleB xs = false := by
                show ((decide (1 ≤ xs.length) && decide (xs.length ≤ 8)) && (xs.all isW && _)) = _
                have : xs.all isW = false := by
                  cases z : xs.all isW with
                  | false => rfl
                  | true =>
                    refine absurd ?_ c2
                    rw [List.all_map]
                    exact z
                rw [this, Bool.false_and, Bool.and_false]
              rw [e2] at q
              exact q H2 (s1.trans s2)
        · rw [show decide (((xs.length : Nat) : Int) ≤ 8) = false from decide_eq_false (by omega)]
          refine iteT ?_
          have e2 : peopleB xs = false := by
            show ((decide (1 ≤ xs.length) && decide (xs.length ≤ 8)) && _) = false
            rw [decide_eq_false h2, Bool.and_false, Bool.false_and]
          rw [e2] at q
          exact q H1 s1
      · have h1 : ¬ 1 ≤ xs.length := fun h => c1 (decide_eq_true (by omega))
        refine ⟨_, rfl, iteT ?_⟩
        have e2 : peopleB xs = false := by
          show ((decide (1 ≤ xs.length) && decide (xs.length ≤ 8)) && _) = false
          rw [decide_eq_false h1, Bool.false_and, Bool.false_and]
        rw [e2] at q
        exact q H1 s1
    | @tup a _ e hx hl =>
      refine ⟨_, pss_cons (ps_if (PW.pt (pw_or (pt_not (pt_val (pe_callB call_isiT (by rfl) T.isi (by decide +kernel) (pa_cons (pv 0) (pa_cons (pe_tup (pa_cons (pe_bltn (v := .ty "list") (by rfl) T.list (by decide +kernel) rfl) (pa_cons (pe_bltn (v := .ty "tuple") (by rfl) T.tuple (by decide +kernel) rfl) pa_nil))) pa_nil)))))
          (pw_or1 (pt_not (pt_chain op_le op_le pe_int (pe_callB call_len_seq (by rfl) B.len PySem.boot_len (pa_cons (pv 0) pa_nil)) (pe_glob (v := .int 8) (by rfl) g1 ⟨_, rfl⟩)))))) (pss_one (ps_ret pe_bl)) pss_nil)
        (pss_one (ps_ret (pe_and (pe_callB (cr_all rfl) (by rfl) T.all (by decide +kernel) (pa_cons (pe_lc (own := [("person", 1)]) (g := gName 1) (by rfl) scArePeople.nd (pi_tup (pv 0)) (blkOk_by (own := [("person", 1)]) (N := ["value", "person"]) (sc := defScope sArePeople) (by decide +kernel))
            (fun _ _ _ _ _ => pg_name (i := 1) scArePeople.nd rfl (Or.inl rfl)) (fun _ _ _ _ _ => pts_nil) (fun _ _ _ _ _ => pe_call GW (by exact hr) (by rfl) gW FW.kp bW .nil pass0 (pa_cons (pv 1) pa_nil))) pa_nil))
          (pe_one (pe_cmpR op_eq (pe_callB cr_lenK (by rfl) B.len PySem.boot_len (pa_cons (pe_callTy (cr_setK rfl) (by rfl) T.set (by decide +kernel) (pa_cons (pv 0) pa_nil)) pa_nil)) (pe_callB call_len_seq (by rfl) B.len PySem.boot_len (pa_cons (pv 0) pa_nil)) (nomark _)))))), ?_⟩
      refine ⟨_, rfl, (by show 2 ≤ sizeLine; decide), fun p np => ?_⟩
      refine ⟨_, p, _, _, _, _, rfl, upd_same, .cons (.ty "list") (.cons (.ty "tuple") .nil), .base (.tup (same_new np _ _ e)), kit_listTuple (by decide), _, rfl, ?_⟩
      refine iteF ?_
      generalize e1 : upd H p _ = H1
      have s1 : Same H H1 := e1 ▸ same_new np
      have ha1 := s1 _ _ e
      refine ⟨_, rfl, a, xs, rfl, .inr (SqT.of ha1), _, _, rfl, rfl, _, rfl, ite2 (fun c1 => ?_) (fun c1 => ?_)⟩
      · have h1 : 1 ≤ xs.length := by
          have := of_decide_eq_true c1
          omega
        refine ⟨_, _, rfl, rfl, _, rfl, ?_⟩
        by_cases h2 : xs.length ≤ 8
        · rw [show decide (((xs.length : Nat) : Int) ≤ 8) = true from decide_eq_true (by omega)]
          refine iteF ?_
          refine ⟨_, rfl, a, rfl, ⟨xs, SqT.of ha1⟩, fun D nD => ?_⟩
          refine lc_map (ys := (xs.map isW).map V.bl) (w := walk_tup (K := K) (a := a) (xs := xs)) (by simp) (small1000 hl) nD (fun H2 s2 => SqT.of (s2 _ _ ha1)) (fun _ => rfl) (fun i x y H2 Q2 hxi hyi s2 k => ?_) (fun H2 s2 hD => ?_)
          · rw [List.getElem?_map, List.getElem?_map, hxi] at hyi
            obtain rfl := Option.some.inj hyi
            exact ⟨_, rfl, x, rfl, (hx x (List.mem_of_getElem? hxi)).same (s1.trans s2), fun H3 s3 => k H3 s3⟩
          · refine ⟨D, xs.map isW, rfl, SqL.of hD, _, rfl, ite2 (fun c2 => ?_) (fun c2 => ?_)⟩
            · have c3 : xs.all isW = true := by
                rw [List.all_map] at c2
                exact c2
              obtain ⟨zs, rfl⟩ := strs_of_isW c3
              refine ⟨_, rfl, a, zs.map Sum.inr, rfl, .inr (by rw [← keys_of_strs]; exact SqT.of (s2 _ _ ha1)), (by rw [List.length_map] at hl ⊢; exact hl), fun r nr => ?_⟩
              refine ⟨r, _, _, rfl, upd_same, ?_, _, rfl, a, _, rfl, .inr (SqT.of (same_new nr _ _ (s2 _ _ ha1))), rfl, ?_⟩
              · have := Km.uniq_le (zs.map (Sum.inr : Str → Key))
                rw [List.length_map] at this hl
                omega
              · rw [uniq_strs]
                have e2 : peopleB (zs.map V.str) = decide (zs.map V.str).Nodup := by
                  show ((decide (1 ≤ (zs.map V.str).length) && decide ((zs.map V.str).length ≤ 8)) && ((zs.map V.str).all isW && _)) = _
                  rw [decide_eq_true h1, decide_eq_true h2, c3, Bool.true_and, Bool.true_and, Bool.true_and]
                rw [← e2]
                exact q _ ((s1.trans s2).trans (same_new nr))
            · have e2 : peopleB xs = false := by
                show ((decide (1 ≤ xs.length) && decide (xs.length ≤ 8)) && (xs.all isW && _)) = _
                have : xs.all isW = false := by
                  cases z : xs.all isW with
                  | false => rfl
                  | true =>
                    refine absurd ?_ c2
                    rw [List.all_map]
                    exact z
                rw [this, Bool.false_and, Bool.and_false]
              rw [e2] at q
              exact q H2 (s1.trans s2)
        · rw [show decide (((xs.length : Nat) : Int) ≤ 8) = false from decide_eq_false (by omega)]
          refine iteT ?_
          have e2 : peopleB xs = false := by
            show ((decide (1 ≤ xs.length) && decide (xs.length ≤ 8)) && _) = false
            rw [decide_eq_false h2, Bool.and_false, Bool.false_and]
          rw [e2] at q
          exact q H1 s1
      · have h1 : ¬ 1 ≤ xs.length := fun h => c1 (decide_eq_true (by omega))
        refine ⟨_, rfl, iteT ?_⟩
        have e2 : peopleB xs = false := by
          show ((decide (1 ≤ xs.length) && decide (xs.length ≤ 8)) && _) = false
          rw [decide_eq_false h1, Bool.false_and, Bool.false_and]
        rw [e2] at q
        exact q H1 s1
end

section
variable {P : Program} {w : World} {K : PySem.W.Frag} {mg : Str → Option Value} {base : Heap}
theorem ok_badCrowdInit {f C : Addr} {fd : FuncData} (F : Fun K "__init__" "BadCrowd.__init__" sBadCrowdInit f fd) : FnOk P w K mg base CX0 1 f fd ["self", "part"] (spErrInit K C "part") := by
  refine F.ok scBadCrowdInit (fun vs H Q E h => ?_) (fun cdv A outer s H vs Q E hr h => ?_)
  · obtain ⟨a, v, rfl, _⟩ := h
    rfl
  · obtain ⟨a, v, rfl, ox, nf, ha, q⟩ := h
    refine ⟨_, pss_one (ps_ost (f := "part") (pv 0) (pv 1)), ?_⟩
    exact ⟨_, rfl, _, rfl, a, C, rfl, ox, nf, .inl ⟨ha, fun d nd ne => q d nd ne⟩⟩
end
section
variable {P : Program} {w : World} {K : PySem.W.Frag} {mg : Str → Option Value} {base : Heap}
theorem ok_crowdNew {f fA fN fB C CB : Addr} {fd fdA fdN fdB : FuncData} (F : Fun K "__init__" "Crowd.__init__" sCrowdInit f fd)
    (GA : FnOk P w K mg base CX0 2 fA fdA ["value"] (spArePeople K)) (kA : PySem.W.keepIn K (.ref fA) = true) (bA : Binds K fdA ["value"] []) (gA : mg "are_people" = some (.ref fA))
    (GN : FnOk P w K mg base CX0 2 fN fdN ["value", "least", "most"] (spWithin K)) (kN : PySem.W.keepIn K (.ref fN) = true) (bN : Binds K fdN ["value", "least", "most"] []) (gN : mg "is_integer_within" = some (.ref fN))
    (GB : FnOk P w K mg base CX0 1 fB fdB ["self", "part"] (spErrInit K CB "part")) (bB : Binds K fdB ["self", "part"] []) (iB : PySem.W.findIn K (.ref CB) "__init__" = some (some (.ref fB))) (tB : PySem.W.typeIn K (.ref fB) = some (.type "function"))
    (EB : Er K mg "BadCrowd" CB) (nf : PySem.W.findIn K (.ref CB) "part" = some none) (cl : Cls K C) (n1 : NoAttr K C "_people") (n2 : NoAttr K C "most") (T : Tx mg) :
    FnOk P w K mg base (L2.CX P w) 3 f fd ["self", "people", "most"] (spCrowdNew K C CB) := by
  obtain ⟨t1, g1⟩ := T.greatest
  refine F.okX scCrowdInit (fun vs H Q E h => ?_) (fun cdv A outer s H vs Q E hr h => ?_)
  · obtain ⟨x, dx, v, m, b, xs, rfl, _⟩ := h
    rfl
  · obtain ⟨x, dx, v, m, b, xs, rfl, hx, ha, ⟨N, tm⟩, qp, qm, q⟩ := h
    refine ⟨_, pss_cons (ps_if (pt_not (pt_val (pe_call GA hr (by rfl) gA kA bA .nil pass0 (pa_cons (pv 1) pa_nil)))) (pss_one (ps_raise rfl (takes_of rfl rfl rfl rfl) (pmk_oex EB.ox iB tB GB hr bB .nil pass0 (by rfl) EB.g (pa_cons pe_str pa_nil)))) pss_nil)
      (pss_cons (ps_if (pt_not (pt_val (pe_call GN hr (by rfl) gN kN bN .nil pass0 (pa_cons (pv 2) (pa_cons pe_int (pa_cons (pe_glob (v := .int 10) (by rfl) g1 ⟨_, rfl⟩) pa_nil)))))) (pss_one (ps_raise rfl (takes_of rfl rfl rfl rfl) (pmk_oex EB.ox iB tB GB hr bB .nil pass0 (by rfl) EB.g (pa_cons pe_str pa_nil)))) pss_nil)
      (pss_cons (ps_fld (pv 0) (pe_callTy call_list_of (by rfl) T.list (by decide +kernel) (pa_cons (pv 1) pa_nil)) rfl)
      (pss_one (ps_fld (pv 0) (pv 2) rfl)))), ?_⟩
    refine ⟨_, rfl, v, b, xs, rfl, ha, fun H1 s1 => ⟨b, rfl, ?_⟩⟩
    cases b with
    | false =>
      refine iteT ⟨(by show 1 ≤ 1000; decide), fun a na => ⟨a, _, rfl, EB.ox, nf, upd_same, fun d nd nda => ?_⟩⟩
      have nd1 : H1 d = none := by
        rw [upd_ne nda] at nd
        exact nd
      refine ⟨rfl, d, _, upd_same, by rw [upd_ne nda, upd_same], nd1, ?_⟩
      obtain ⟨r1, r2, r3⟩ := raised_mk (C := CB) (f := "part") (v := V.str "people") na nd1 nda
      exact qp rfl _ d ⟨s1.trans r1, s1.free r2, r3⟩
    | true =>
      refine iteF ?_
      refine ⟨_, rfl, m, 1, 10, rfl, ⟨N, tm.same s1⟩, _, rfl, ?_⟩
      cases hm : markB 1 10 m with
      | false =>
        refine iteT ⟨(by show 1 ≤ 1000; decide), fun a na => ⟨a, _, rfl, EB.ox, nf, upd_same, fun d nd nda => ?_⟩⟩
        have nd1 : H1 d = none := by
          rw [upd_ne nda] at nd
          exact nd
        refine ⟨rfl, d, _, upd_same, by rw [upd_ne nda, upd_same], nd1, ?_⟩
        obtain ⟨r1, r2, r3⟩ := raised_mk (C := CB) (f := "part") (v := V.str "most") na nd1 nda
        exact qm rfl hm _ d ⟨s1.trans r1, s1.free r2, r3⟩
      | true =>
        refine iteF ?_
        obtain ⟨i, rfl⟩ : ∃ i, m = .int i := by
          cases m with
          | int i => exact ⟨i, rfl⟩
          | _ => cases hm
        obtain ⟨l, rfl, hl⟩ := (ha.same s1).seq rfl
        refine ⟨_, rfl, l, xs, rfl, hl, fun p np => ?_⟩
        generalize e2 : upd H1 p _ = H2
        have s2 : Same H1 H2 := e2 ▸ same_new np
        have hp : H2 p = some (.lst xs) := e2 ▸ upd_same
        have hx2 := s2 _ _ (s1 _ _ hx)
        have npx : p ≠ x := ne_of hp hx2 (by intro z; cases z)
        refine ⟨_, rfl, x, C, dx, [], rfl, hx2, cl, n1, (by show 0 < 1000; decide), ?_⟩
        refine ⟨_, rfl, _, rfl, x, C, dx, _, rfl, upd_same, cl, n2, (by show 1 < 1000; decide), ?_⟩
        refine q rfl i rfl hm _ dx p ?_ (s1.free np) (by rw [upd_same, putF_new, crowd_put]) (by rw [upd_ne npx, upd_ne npx]; exact hp)
        exact ((But.of_same (s1.trans s2)).trans But.upd).trans But.upd
end
/-! ### a crowd's methods -/
section
variable {P : Program} {w : World} {K : PySem.W.Frag} {mg : Str → Option Value} {base : Heap} {C CN : Addr}
theorem ok_crowdPeople {f : Addr} {fd : FuncData} (F : Fun K "people" "Crowd.people" sCrowdPeople f fd) (cl : Cls K C) (n1 : NoAttr K C "_people") (T : Tx mg) : FnOk P w K mg base CX0 1 f fd ["self"] (spCrowdPeople C) := by
  refine F.ok scCrowdPeople (fun vs H Q E h => ?_) (fun cdv A outer s H vs Q E hr h => ?_)
  · obtain ⟨x, zs, m, rfl, _⟩ := h
    rfl
  · obtain ⟨x, zs, m, rfl, ⟨dx, l, hx, hl⟩, len, q⟩ := h
    refine ⟨_, pss_one (ps_ret (pe_callTy call_list_of (by rfl) T.list (by decide +kernel) (pa_cons (pe_fld (pv 0) rfl) pa_nil))), ?_⟩
    exact ⟨_, rfl, x, C, dx, _, _, rfl, hx, cl, n1, rfl, l, _, rfl, .inl (SqL.of hl), fun p np => q _ p (same_new np) np upd_same⟩
theorem ok_crowdLen {f : Addr} {fd : FuncData} (F : Fun K "__len__" "Crowd.__len__" sCrowdLen f fd) (cl : Cls K C) (n1 : NoAttr K C "_people") (B : Bt mg) : FnOk P w K mg base CX0 1 f fd ["self"] (spCrowdLen C) := by
  refine F.ok scCrowdLen (fun vs H Q E h => ?_) (fun cdv A outer s H vs Q E hr h => ?_)
  · obtain ⟨x, zs, m, rfl, _⟩ := h
    rfl
  · obtain ⟨x, zs, m, rfl, ⟨dx, l, hx, hl⟩, q⟩ := h
    refine ⟨_, pss_one (ps_ret (pe_callB call_len_seq (by rfl) B.len PySem.boot_len (pa_cons (pe_fld (pv 0) rfl) pa_nil))), ?_⟩
    refine ⟨_, rfl, x, C, dx, _, _, rfl, hx, cl, n1, rfl, l, _, rfl, .inl (SqL.of hl), ?_⟩
    rw [List.length_map]
    exact q
theorem ok_crowdHas {f : Addr} {fd : FuncData} (F : Fun K "__contains__" "Crowd.__contains__" sCrowdContains f fd) (cl : Cls K C) (n1 : NoAttr K C "_people") (T : Tx mg) : FnOk P w K mg base CX0 1 f fd ["self", "x"] (spCrowdHas K C) := by
  refine F.ok scCrowdContains (fun vs H Q E h => ?_) (fun cdv A outer s H vs Q E hr h => ?_)
  · obtain ⟨x, v, zs, m, N, rfl, _⟩ := h
    rfl
  · obtain ⟨x, v, zs, m, N, rfl, ⟨dx, l, hx, hl⟩, ⟨ty, hk⟩, q⟩ := h
    refine ⟨_, pss_one (ps_ret (pe_and (pe_callB call_isi (by rfl) T.isi (by decide +kernel) (pa_cons (pv 1) (pa_cons (pe_bltn (v := .ty "str") (by rfl) T.str (by decide +kernel) rfl) pa_nil)))
      (pe_one (pe_cmpR op_in_seq (pv 1) (pe_fld (pv 0) rfl) (by rfl))))), ?_⟩
    refine ⟨_, rfl, v, .ty "str", _, _, _, rfl, .ty "str", ty, kit_ty (kit_str hk), _, rfl, ite2 (fun c => ?_) (fun c => ?_)⟩
    · obtain ⟨z, rfl⟩ := ty_str' ty (by rw [of_decide_eq_true c])
      refine ⟨_, rfl, _, rfl, x, C, dx, _, _, rfl, hx, cl, n1, rfl, l, _, rfl, .inl (SqL.of hl), rfl, all_flat_strs zs, ?_⟩
      show Q (.bl (inV _ _)) H
      rw [inV_strs]
      exact q
    · have e : hasB v zs = false := by
        cases v with
        | str z =>
          cases ty with
          | base b => cases b; exact absurd (decide_eq_true rfl) c
        | _ => rfl
      rw [e] at q
      exact q
theorem ok_crowdEq {f : Addr} {fd : FuncData} (F : Fun K "__eq__" "Crowd.__eq__" sCrowdEq f fd) (cl : Cls K C) (n1 : NoAttr K C "_people") (n2 : NoAttr K C "most") (gC : mg "Crowd" = some (.ref C)) (k1 : PySem.W.kitOne K (.ref C) (.ref C) = some true)
    (k2 : PySem.W.kitOne K (.type "list") (.ref C) = some false) (io : IsOwn K C) (T : Tx mg) : FnOk P w K mg base CX0 1 f fd ["self", "other"] (spCrowdEq K C) := by
  refine F.ok scCrowdEq (fun vs H Q E h => ?_) (fun cdv A outer s H vs Q E hr h => ?_)
  · obtain ⟨x, y, zs, m, rfl, _⟩ := h
    rfl
  · obtain ⟨x, y, zs, m, rfl, ⟨dx, l, hx, hl⟩, oz, h⟩ := h
    refine ⟨_, pss_one (ps_ret (pe_and (pe_callB call_isi (by rfl) T.isi (by decide +kernel) (pa_cons (pv 1) (pa_cons (pe_glob (v := .ref C) (by rfl) gC rfl) pa_nil)))
      (pe_and (pe_cmpR op_eq (pe_fld (pv 0) rfl) (pe_fld (pv 1) rfl) (nomark _)) (pe_one (pe_cmpR (op_eqD hr.units) (pe_fld (pv 0) rfl) (pe_fld (pv 1) rfl) (nomark _)))))), ?_⟩
    rcases h with ⟨ys, n, ⟨dy, k, hy, hk⟩, oy, q⟩ | ⟨⟨ys, hy⟩, q⟩
    · refine ⟨_, rfl, .ref y, .ref C, _, _, _, rfl, .own C, io.ty hy, k1, _, rfl, iteT ?_⟩
      refine ⟨_, rfl, x, C, dx, _, _, rfl, hx, cl, n2, rfl, _, rfl, y, C, dy, _, _, rfl, hy, cl, n2, rfl, rfl, _, rfl, ite2 (fun c => ?_) (fun c => ?_)⟩
      · have e : m = n := by
          have := of_decide_eq_true c
          cases this
          rfl
        subst e
        refine ⟨_, rfl, x, C, dx, _, _, rfl, hx, cl, n1, rfl, _, rfl, y, C, dy, _, _, rfl, hy, cl, n1, rfl, _, _, .lst (SqL.of hl) (dp_strs zs), .lst (SqL.of hk) (dp_strs ys), shaped_strs oz, shaped_strs oy, ?_⟩
        rw [eqv_strs]
        rw [decide_eq_true rfl, Bool.true_and] at q
        exact q
      · have e : ¬ m = n := fun e => c (by rw [e]; exact decide_eq_true rfl)
        rw [decide_eq_false e, Bool.false_and] at q
        exact q
    · refine ⟨_, rfl, .ref y, .ref C, _, _, _, rfl, .own C, .base (.lst hy), k2, _, rfl, iteF q⟩
theorem ok_crowdIsPair {f fH : Addr} {fd fdH : FuncData} (F : Fun K "is_pair" "Crowd.is_pair" sCrowdIsPair f fd) (GH : FnOk P w K mg base CX0 1 fH fdH ["self", "x"] (spCrowdHas K C)) (hs : PySem.W.findIn K (.ref C) "__contains__" = some (some (.ref fH)))
    (hf : PySem.W.isFn K (.ref fH) = true) (bH : Binds K fdH ["self", "x"] []) (B : Bt mg) (T : Tx mg) : FnOk P w K mg base CX0 2 f fd ["self", "value"] (spIsPair K C) := by
  refine F.ok scCrowdIsPair (fun vs H Q E h => ?_) (fun cdv A outer s H vs Q E hr h => ?_)
  · obtain ⟨x, v, zs, m, b, rfl, _⟩ := h
    rfl
  · obtain ⟨x, v, zs, m, b, rfl, hc, pa, q⟩ := h
    obtain ⟨dx, l, hx, hl⟩ := id hc
    refine ⟨_, pss_cons (ps_if (PW.pt (pw_or (pt_not (pt_val (pe_callB call_isi (by rfl) T.isi (by decide +kernel) (pa_cons (pv 1) (pa_cons (pe_bltn (v := .ty "tuple") (by rfl) T.tuple (by decide +kernel) rfl) pa_nil)))))
        (pw_or1 (pt_cmpR op_ne (pe_callB call_len_seq (by rfl) B.len PySem.boot_len (pa_cons (pv 1) pa_nil)) pe_int (nomark _))))) (pss_one (ps_ret pe_bl)) pss_nil)
      (pss_one (ps_ret (pe_and (pe_cmpR (op_inOwn (E := fun _ _ _ => False) hs hf GH hr bH pass0) (pe_ix ix_tup (pv 1) pe_int (fun _ _ => rfl)) (pv 0) (by rfl))
        (pe_and (pe_cmpR (op_inOwn (E := fun _ _ _ => False) hs hf GH hr bH pass0) (pe_ix ix_tup (pv 1) pe_int (fun _ _ => rfl)) (pv 0) (by rfl)) (pe_one (pe_cmpR op_ne (pe_ix ix_tup (pv 1) pe_int (fun _ _ => rfl)) (pe_ix ix_tup (pv 1) pe_int (fun _ _ => rfl)) (nomark _))))))), ?_⟩
    cases pa with
    | @no _ N ty h =>
      refine ⟨_, rfl, v, .ty "tuple", _, _, _, rfl, .ty "tuple", ty.1, kit_ty (kit_tuple ty.2), _, rfl, ?_⟩
      rw [decide_eq_false h]
      exact iteT (iteT q)
    | @len p xs e h =>
      refine ⟨_, rfl, .ref p, .ty "tuple", _, _, _, rfl, .ty "tuple", .base (.tup e), kit_ty (kit_tuple (by decide)), _, rfl, ?_⟩
      refine iteF ⟨_, rfl, p, xs, rfl, .inr (SqT.of e), rfl, _, rfl, ?_⟩
      rw [decide_eq_false (fun z => h (by have := V.int.inj z; omega))]
      exact iteT q
    | @two p a b S T2 e ts tt =>
      refine ⟨_, rfl, .ref p, .ty "tuple", _, _, _, rfl, .ty "tuple", .base (.tup e), kit_ty (kit_tuple (by decide)), _, rfl, ?_⟩
      refine iteF ⟨_, rfl, p, [a, b], rfl, .inr (SqT.of e), rfl, _, rfl, ?_⟩
      rw [show decide (V.int (([a, b] : List V).length : Nat) = V.int 2) = true from decide_eq_true rfl]
      refine iteF ?_
      refine ⟨_, rfl, p, [a, b], 0, a, rfl, rfl, SqT.of e, rfl, _, rfl, x, dx, _, rfl, hx, x, a, zs, m, S, rfl, hc, ts, _, rfl, _, rfl, ?_⟩
      unfold isPairB at q
      cases h1 : hasB a zs with
      | false =>
        rw [h1] at q
        exact iteF q
      | true =>
        rw [h1] at q
        refine iteT ⟨_, rfl, p, [a, b], 1, b, rfl, rfl, SqT.of e, rfl, _, rfl, x, dx, _, rfl, hx, x, b, zs, m, T2, rfl, hc, tt, _, rfl, _, rfl, ?_⟩
        cases h2 : hasB b zs with
        | false =>
          rw [h2] at q
          exact iteF q
        | true =>
          rw [h2] at q
          refine iteT ⟨_, rfl, p, [a, b], 0, a, rfl, rfl, SqT.of e, rfl, _, rfl, p, [a, b], 1, b, rfl, rfl, SqT.of e, rfl, ?_, q⟩
          cases a with
          | str z =>
            cases b with
            | str y => rfl
            | _ => cases h2
          | _ => cases h1
end

section
variable {P : Program} {w : World} {K : PySem.W.Frag} {mg : Str → Option Value} {base : Heap} {C : Addr}
theorem ok_crowdPairs {f : Addr} {fd : FuncData} (F : Fun K "pairs" "Crowd.pairs" sCrowdPairs f fd) (cl : Cls K C) (n1 : NoAttr K C "_people") : FnOk P w K mg base CX0 1 f fd ["self"] (spCrowdPairs C) := by
  refine F.ok scCrowdPairs (fun vs H Q E h => ?_) (fun cdv A outer s H vs Q E hr h => ?_)
  · obtain ⟨x, zs, m, rfl, _⟩ := h
    rfl
  · obtain ⟨x, zs, m, rfl, ⟨dx, l, hx, hl⟩, len, q⟩ := h
    refine ⟨_, pss_one (ps_ret (by
      refine' pe_lc2 (own := [("marker", 1), ("marked", 2)]) (vs1 := [2]) (wi1 := iList K (tFld K (tVar 0) "_people")) (g := gName 1) (g1 := gName 2) (by rfl) scCrowdPairs.nd ?h1 (blkOk_by (own := [("marker", 1), ("marked", 2)]) (N := ["self", "marker", "marked"]) (sc := defScope sCrowdPairs) (by decide +kernel)) (by decide) (fun _ _ _ _ _ => pg_name (i := 1) scCrowdPairs.nd rfl (Or.inl rfl)) (fun _ _ _ _ _ => pts_nil) ?h2 (fun _ _ _ _ _ => pg_name (i := 2) scCrowdPairs.nd rfl (Or.inl rfl)) ?h3 ?h4
      (case h1 => exact pi_list (pe_fld (pv 0) rfl))
      (case h2 => intro _ _ _ _ _; exact pi_list (pe_fld (pv 0) rfl))
      (case h3 => intro _ _ _ _ _; exact pts_one (pt_cmpR op_ne (pv 1) (pv 2) (nomark _)))
      (case h4 => intro _ _ _ _ _; exact pe_tup (pa_cons (pv 1) (pa_cons (pv 2) pa_nil))))), ?_⟩
    refine ⟨_, rfl, x, C, dx, _, _, rfl, hx, cl, n1, rfl, l, rfl, ⟨_, SqL.of hl⟩, fun D nD => ?_⟩
    refine nest_it (walk_list (K := K) (a := l) (xs := zs.map V.str)) (fun i G => Same H G ∧ ∃ acc, G D = some (.lst acc) ∧ Tups D G acc ((zs.take i).flatMap (rowOf zs))) ⟨same_new nD, [], upd_same, rfl, fun j y q h => by simp at h⟩ (fun i G _ h => SqL.of (h.1 _ _ hl)) ?_ ?_
    · rintro i z G G2 hi ⟨sG, acc, hD, tp⟩ ⟨rfl, hz⟩
      rw [List.getElem?_map] at hz
      rw [List.length_map] at hi
      rw [List.getElem?_eq_getElem hi] at hz
      obtain rfl := Option.some.inj hz
      have ha := List.getElem?_eq_getElem hi
      generalize zs[i] = a at ha
      refine ⟨rfl, ?_⟩
      unfold tYes
      dsimp only
      rw [if_pos rfl]
      refine ⟨_, rfl, x, C, dx, _, _, rfl, sG _ _ hx, cl, n1, rfl, l, rfl, ⟨_, SqL.of (sG _ _ hl)⟩, ?_⟩
      refine nest_it (walk_list (K := K) (a := l) (xs := zs.map V.str)) (fun j G => Same H G ∧ ∃ acc, G D = some (.lst acc) ∧ Tups D G acc ((zs.take i).flatMap (rowOf zs) ++ ((zs.take j).filter fun c => a ≠ c).map fun b => (a, b))) ⟨sG, acc, hD, by simpa using tp⟩ (fun j G _ h => SqL.of (h.1 _ _ hl)) ?_ ?_
      · rintro j z G3 G4 hj ⟨s3, acc3, hD3, tp3⟩ ⟨rfl, hz⟩
        rw [List.getElem?_map] at hz
        rw [List.length_map] at hj
        rw [List.getElem?_eq_getElem hj] at hz
        obtain rfl := Option.some.inj hz
        have hb := List.getElem?_eq_getElem hj
        generalize zs[j] = b at hb
        refine ⟨rfl, _, rfl, _, rfl, rfl, _, rfl, ?_⟩
        by_cases e : a = b
        · subst e
          rw [decide_eq_true (rfl : V.str a = V.str a)]
          refine iteF ?_
          rw [row_take zs a a j hb, if_neg (by simp), List.append_nil]
          exact ⟨s3, acc3, hD3, tp3⟩
        · rw [decide_eq_false (fun z => e (V.str.inj z) : ¬ V.str a = V.str b)]
          refine iteT ?_
          rw [row_take zs a b j hb, if_pos e, List.map_append, ← List.append_assoc]
          refine ⟨_, rfl, _, rfl, (by show 2 ≤ sizeLine; decide), fun p np => ?_⟩
          have pD : p ≠ D := fun z => by
            rw [z, hD3] at np
            cases np
          refine ⟨acc3, same_new np _ _ hD3, ?_, fun b o z => ?_, acc3 ++ [.ref p], upd_same, ?_⟩
          · rw [tp3.1, List.length_append, List.length_map]
            have k1 := pairs_len len (ys := zs.take i) (by rw [List.length_take]; omega)
            have k2 := List.length_filter_le (fun c => decide (a ≠ c)) (zs.take j)
            rw [List.length_take] at k2
            exact small1000 (by omega)
          · rw [upd_ne (ne_of_none z nD)]
            exact same_new np _ _ (s3 _ _ z)
          · refine ((tp3.but (But.of_same (same_new np))).but But.upd).add pD ?_
            rw [upd_ne pD, upd_same]
      · rintro G3 ⟨s3, acc3, hD3, tp3⟩
        refine ⟨s3, acc3, hD3, ?_⟩
        rw [pairs_take zs i a ha]
        rw [List.length_map, List.take_length] at tp3
        exact tp3
    · rintro G ⟨s3, acc3, hD3, tp3⟩
      rw [List.length_map, List.take_length] at tp3
      exact q G D acc3 s3 nD hD3 tp3
end

section
variable {P : Program} {w : World} {K : PySem.W.Frag} {mg : Str → Option Value} {base : Heap} {C : Addr}
theorem ok_lawPairs {f : Addr} {fd : FuncData} (F : Fun K "_law_pairs" "_law_pairs" sPairs f fd) : FnOk P w K mg base CX0 1 f fd ["_law_people"] (spLawPairs K) := by
  refine F.ok scPairs (fun vs H Q E h => ?_) (fun cdv A outer s H vs Q E hr h => ?_)
  · obtain ⟨l, zs, rfl, _⟩ := h
    rfl
  · obtain ⟨l, zs, rfl, hl, len, q⟩ := h
    refine ⟨_, pss_cons (ps_set (i := 1) scPairs.nd rfl (.inl rfl) (pe_lst pa_nil))
      (pss_cons (ps_for PassesOwn.never rfl (pi_list (pv 0)) (pg_name (i := 2) scPairs.nd rfl (.inr rfl))
        (pss_one (ps_set (i := 1) scPairs.nd rfl (.inl rfl) (pe_op op_cat (pv 1) (pe_lc (own := [("_law_other", 3)]) (g := gName 3) (by rfl) scPairs.nd (pi_list (pv 0)) (blkOk_by (own := [("_law_other", 3)]) (N := ["_law_people", "_law_found", "_law_one", "_law_other"]) (sc := defScope sPairs) (by decide +kernel))
          (fun _ _ _ _ _ => pg_name (i := 3) scPairs.nd rfl (Or.inl rfl)) (fun _ _ _ _ _ => pts_one (pt_cmpR op_ne (pv 3) (pv 2) (nomark _))) (fun _ _ _ _ _ => by exact pe_tup (pa_cons (pv 2) (pa_cons (pv 3) pa_nil))))))))
      (pss_one (ps_ret (pv 1)))), ?_⟩
    refine ⟨Nat.zero_le _, fun p0 np0 => ?_⟩
    generalize e0 : upd H p0 _ = H0
    have s0 : Same H H0 := e0 ▸ same_new np0
    have h0 : H0 p0 = some (.lst []) := e0 ▸ upd_same
    refine ⟨_, rfl, l, rfl, ⟨_, SqL.of (s0 _ _ hl)⟩, ?_⟩
    refine for_list (K := K) (a := l) (xs := zs.map V.str) (fun i σ G => ∃ p acc v2 v3, σ = [some (.ref l), some (.ref p), v2, v3] ∧ Same H G ∧ H p = none ∧ G p = some (.lst acc) ∧ Tps G acc ((zs.take i).flatMap (rowOf zs))) ⟨p0, [], _, _, rfl, s0, np0, h0, rfl, fun j y q h => by simp at h⟩ (fun i σ G _ h => by
      obtain ⟨_, _, _, _, _, s, _⟩ := h
      exact SqL.of (s _ _ hl)) ?_ ?_
    · rintro i x σ G hx ⟨p, acc, v2, v3, rfl, sG, np, hp, tp⟩
      have hi : i < zs.length := by
        have := (List.getElem?_eq_some_iff.mp hx).1
        rw [List.length_map] at this
        exact this
      rw [List.getElem?_map, List.getElem?_eq_getElem hi] at hx
      obtain rfl := Option.some.inj hx
      have ha := List.getElem?_eq_getElem hi
      generalize zs[i] = a at ha
      refine ⟨_, rfl, _, rfl, l, rfl, ⟨_, SqL.of (sG _ _ hl)⟩, fun D nD => ?_⟩
      refine nest_it (walk_list (K := K) (a := l) (xs := zs.map V.str)) (fun j G2 => Same G G2 ∧ ∃ ac, G2 D = some (.lst ac) ∧ Tups D G2 ac (((zs.take j).filter fun c => a ≠ c).map fun b => (a, b))) ⟨same_new nD, [], upd_same, rfl, fun j y q h => by simp at h⟩ (fun j G2 _ h => SqL.of (h.1 _ _ (sG _ _ hl))) ?_ ?_
      · rintro j z G3 G4 hj ⟨s3, ac, hD, t3⟩ ⟨rfl, hz⟩
        rw [List.getElem?_map] at hz
        rw [List.length_map] at hj
        rw [List.getElem?_eq_getElem hj] at hz
        obtain rfl := Option.some.inj hz
        have hb := List.getElem?_eq_getElem hj
        generalize zs[j] = b at hb
        refine ⟨rfl, _, rfl, _, rfl, rfl, _, rfl, ?_⟩
        by_cases e : a = b
        · subst e
          rw [decide_eq_true (rfl : V.str a = V.str a)]
          refine iteF ?_
          rw [row_take zs a a j hb, if_neg (by simp), List.append_nil]
          exact ⟨s3, ac, hD, t3⟩
        · rw [decide_eq_false (fun z => e (V.str.inj z).symm : ¬ V.str b = V.str a)]
          refine iteT ?_
          rw [row_take zs a b j hb, if_pos e, List.map_append]
          refine ⟨_, rfl, _, rfl, (by show 2 ≤ sizeLine; decide), fun t nt => ?_⟩
          have tD : t ≠ D := fun z => by
            rw [z, hD] at nt
            cases nt
          refine ⟨ac, same_new nt _ _ hD, ?_, fun c o z => ?_, ac ++ [.ref t], upd_same, ?_⟩
          · rw [t3.1, List.length_map]
            have k2 := List.length_filter_le (fun c => decide (a ≠ c)) (zs.take j)
            rw [List.length_take] at k2
            exact small1000 (by omega)
          · rw [upd_ne (ne_of_none z nD)]
            exact same_new nt _ _ (s3 _ _ z)
          · refine ((t3.but (But.of_same (same_new nt))).but But.upd).add tD ?_
            rw [upd_ne tD, upd_same]
      · rintro G3 ⟨s3, ac, hD, t3⟩
        rw [List.length_map, List.take_length] at t3
        refine ⟨p, D, acc, ac, rfl, rfl, s3 _ _ hp, hD, ?_, fun p2 np2 => ?_⟩
        · rw [tp.1, t3.1, List.length_map]
          have k1 := pairs_len len (ys := zs.take i) (by rw [List.length_take]; omega)
          have k2 := List.length_filter_le (fun c => decide (a ≠ c)) zs
          exact Nat.le_of_lt (small1000 (by omega))
        · have s4 := sG.trans s3
          refine ⟨p2, acc ++ ac, _, _, rfl, s4.trans (same_new np2), s4.free np2, upd_same, ?_⟩
          rw [pairs_take zs i a ha]
          exact ((tp.same s3).append t3.tps).same (same_new np2)
    · rintro σ G ⟨p, acc, v2, v3, rfl, sG, np, hp, tp⟩
      rw [List.length_map, List.take_length] at tp
      exact ⟨_, rfl, q G p acc sG np hp tp⟩
end

end K45

set_option Elab.async false
set_option linter.all false
set_option maxRecDepth 100000
set_option maxHeartbeats 4000000
/-! C.m(..), m a staticmethod of the class at C. -/
namespace L2
open PySem PySem.Spec PyProof.Rows
/-- C.m is a staticmethod: its record at p, its def at g -/
structure SMet (K : PySem.W.Frag) (C : Addr) (mc : Value) (m : Str) (p g : Addr) : Prop where
  look : PySem.W.findCls K (.ref C) mc m = some (.get (.builtin "staticmethod.__get__") (.ref p) .none (.ref C))
  rcd : ∃ rest, PySem.W.recIn K p "staticmethod" = some (.ref g :: rest)
  keep : PySem.W.keepIn K (.ref g) = true
def tStatic (C : Addr) (sp : Sp) (E : XK) (ta : TE) (t : TA) : TE := fun σ H Q => ta σ H fun x H1 => x = .ref C ∧ t σ H1 fun vs H2 => sp vs H2 Q E
section
variable {X : Cx} {CX : CXT} {k : Nat} {C p g : Addr} {mc : Value} {m : Str} {fd : FuncData} {ps : List Str} {sp : Sp} {E : XK} {apos pos : Pos} {o e : Expr} {es : List Expr} {ta : TE} {t : TA}
theorem pe_static {pl : Sem Bool} (he : PE X o ta) (r : ClX.CRead X.K C mc) (c : SMet X.K C mc m p g) (F : FnOk X.prog X.w X.K X.mg X.base CX k g fd ps sp) (hr : Room k X.A) (hb : Binds X.K fd ps []) (hx : Passes CX X E) (ha : PA X (e :: es) t)
    (hst : starEach (e :: es) X.env = (false, eval e X.env) :: starEach es X.env := by rfl) (hpl : (backTo pos (starEach es X.env)).any (·.1) = false := by rfl)
    (ht : eval (.Call (.Attribute o m apos) (e :: es) [] pos) X.env = (do
      let ov ← eval o X.env
      standAt apos.atName
      let (f, first) ← holding [ov] (getMethod ov m pl)
      callWith pos f first (backTo pos (starEach (e :: es) X.env)) (backToKw pos (keywordEach [] X.env))) := by rfl) :
    PE X (.Call (.Attribute o m apos) (e :: es) [] pos) (tStatic C sp E ta t) := by
  refine ⟨fun pins s σ H Q I h => ?_⟩
  refine PySem.W.methodCall_KW (pl := pl) (thn (he.run pins s σ H _ I h) fun u s1 z => ?_) ht
  obtain ⟨x, H1, I1, rx, rfl, q⟩ := z
  obtain rfl : u = Value.ref C := rx
  obtain ⟨rest, hp⟩ := c.rcd
  refine PySem.W.method_cls I1.kIn r.ga (PySem.W.cls_bind I1.kIn r.rd c.look (wpAny_call (PySem.W.sm_get (s := { s1 with toks := s1.toks + 1 }) I1.kIn hp (PySem.W.handed_on rfl ?_))))
  have I2 : Inv X pins σ H1 { s1 with toks := s1.toks + 1 } := I1.tok _
  refine PySem.W.callWith_K (first := []) (h₀ := X.base) I2.ok.mod.kin c.keep (thn (ha.run pos pins _ σ H1 _ I2 q) fun us s2 z => ?_) hst hpl
  obtain ⟨vs, H2, I3, rv, q2⟩ := z
  exact ⟨I3.kIn, run_fn (ds := []) (dvs := []) (us := us) (vs := vs) F hr hb .nil hx I3 rv (by rw [List.append_nil]; exact q2)⟩
end
end L2

set_option Elab.async false
set_option linter.all false
set_option maxRecDepth 100000
set_option maxHeartbeats 4000000
/-! o[i], o an instance with an own __getitem__. -/
namespace L2
open PySem PySem.Spec PyProof.Rows
def tIxOwn (C : Addr) (sp : Sp) (E : XK) (to ti : TE) : TE := fun σ H Q => to σ H fun x H1 => ti σ H1 fun y H2 => ∃ (a dx : Addr) (fs : List (Str × V)), x = .ref a ∧ H2 a = some (.ins C dx fs) ∧ sp [.ref a, y] H2 Q E
section
variable {X : Cx} {CX : CXT} {k : Nat} {f C : Addr} {fd : FuncData} {ps : List Str} {sp : Sp} {E : XK} {o i : Expr} {pos : Pos} {to ti : TE}
theorem pe_ixOwn (ho : PE X o to) (hi : PE X i ti) (hs : PySem.W.findIn X.K (.ref C) "__getitem__" = some (some (.ref f))) (hfn : PySem.W.fnIn X.K f = true) (hf : PySem.W.isFn X.K (.ref f) = true) (F : FnOk X.prog X.w X.K X.mg X.base CX k f fd ps sp) (hr : Room (k + 1) X.A) (hb : Binds X.K fd ps []) (hx : Passes CX X E)
    (hsl : ∀ x j, subscripted i true (.ref x) j = runValue (.builtin "lifetime.subscript" ⟨[.ref x, j], []⟩) := by intro _ _; with_unfolding_all rfl) : PE X (.Subscript o i pos) (tIxOwn C sp E to ti) := by
  refine ⟨fun pins s σ H Q I h => ?_⟩
  refine Subscript_ (thn (ho.run pins s σ H _ I h) fun u s1 z1 => ?_)
  obtain ⟨x, H1, I1, rx, q1⟩ := z1
  refine thn (hi.run pins s1 σ H1 _ I1 q1) fun v s2 z2 => ?_
  obtain ⟨y, H2, I2, ry, a, dx, fs, rfl, ea, q⟩ := z2
  obtain rfl : u = Value.ref a := rx
  obtain ⟨mA, O, _, _, _, _⟩ := ins_get I2.hok ea
  obtain ⟨od, J, _⟩ := O.look
  obtain ⟨m, hF⟩ := I2.fr
  exact PySem.W.sub_K hF I2.ok.mod.kin J hs hfn hf (run_in1 (vs := [.ref a, y]) (us := [.ref a, v]) F hr hb hx I2 (.cons rfl (.cons ry .nil)) q) (hsl a v)
end
end L2

set_option Elab.async false
set_option linter.all false
set_option maxRecDepth 100000
set_option maxHeartbeats 4000000
/-! Lists of pairs of a page's pairs and their marks, made by a comprehension, for dict(..). -/
namespace L2
open PySem PySem.Spec PyProof.Rows
theorem paired_snoc {α β : Type} {R : α → β → Prop} {x : α} {y : β} : ∀ {xs : List α} {ys : List β}, Paired R xs ys → R x y → Paired R (xs ++ [x]) (ys ++ [y])
  | _, _, .nil, h => .cons h .nil
  | _, _, .cons a r, h => .cons a (paired_snoc r h)
theorem paired_imp {α β : Type} {R S : α → β → Prop} (f : ∀ x y, R x y → S x y) : ∀ {xs : List α} {ys : List β}, Paired R xs ys → Paired S xs ys
  | _, _, .nil => .nil
  | _, _, .cons a r => .cons (f _ _ a) (paired_imp f r)
theorem paired_len {α β : Type} {R : α → β → Prop} : ∀ {xs : List α} {ys : List β}, Paired R xs ys → xs.length = ys.length
  | _, _, .nil => rfl
  | _, _, .cons _ r => by rw [List.length_cons, List.length_cons, paired_len r]
theorem isPairT_same {H G : Hp} {u : Addr} {kv : List Key × V} (s : Same H G) (h : IsPairT H u kv) : IsPairT G u kv := by
  obtain ⟨q, a, b⟩ := h
  exact ⟨q, s _ _ a, s _ _ b⟩
theorem isPairT_upd {H : Hp} {u D : Addr} {kv : List Key × V} {xs ys : List V} (hD : H D = some (.lst xs)) (h : IsPairT H u kv) : IsPairT (upd H D (.lst ys)) u kv := by
  obtain ⟨q, a, b⟩ := h
  exact ⟨q, by rw [upd_ne (ne_of a hD (fun z => nomatch z))]; exact a, by rw [upd_ne (ne_of b hD (fun z => nomatch z))]; exact b⟩
theorem nest_pairs {J : It} {n : Nat} {Gd : Hp → Prop} {Y : Nat → Hp → V → Hp → Prop} (w : Walk J n Gd Y) {ps : List (Str × Str)} (hn : n = ps.length) (h64 : ps.length ≤ 64) {HL : Hp} {D : Addr} (nD : HL D = none)
    (hY : ∀ i x G G', Same HL G → Y i G x G' → G' = G ∧ ∃ p t, ps[i]? = some p ∧ x = .ref t ∧ G t = some (.tup [.str p.1, .str p.2])) (hG : ∀ G, Same HL G → Gd G) {B : V → Hp → (Hp → Prop) → Prop} (g : Str × Str → V)
    (hB : ∀ p t G Nx, p ∈ ps → Same HL G → G t = some (.tup [.str p.1, .str p.2]) → (∀ u G', Same G G' → G u = none → G' u = some (.tup [.ref t, g p]) → ∃ acc, G' D = some (.lst acc) ∧ acc.length < sizeLine ∧ Nx (upd G' D (.lst (acc ++ [.ref u])))) → B (.ref t) G Nx)
    {Qd : Hp → Prop} (hd : ∀ G us, Same HL G → G D = some (.lst (us.map V.ref)) → Paired (IsPairT G) us (ps.map fun p => (key2 p, g p)) → Qd G) :
    ∃ W : Nat → Nat → Hp → Prop, (∃ m, W 0 m (upd HL D (.lst []))) ∧ ∀ i m H, W i m H → (J.stop i H ∧ Qd H) ∨ (J.go i H ∧ ∃ Nx : Hp → Prop, (∀ H', Nx H' → ∃ m', m' < m ∧ W (i + 1) m' H') ∧ ∀ x H', J.yld i H x H' → B x H' Nx) := by
  refine nest_it w (fun i G => Same HL G ∧ ∃ us : List Addr, G D = some (.lst (us.map V.ref)) ∧ Paired (IsPairT G) us ((ps.take i).map fun p => (key2 p, g p))) ⟨same_new nD, [], upd_same, .nil⟩ (fun i G _ h => hG _ h.1) ?_ ?_
  · rintro i x G G' hi ⟨sG, us, hD, hus⟩ y
    obtain ⟨rfl, p, t, hp, rfl, ht⟩ := hY i x G G' sG y
    refine hB p t _ _ (List.mem_of_getElem? hp) sG ht fun u G2 s2 nu hu => ⟨_, s2 _ _ hD, ?_, fun b o e => ?_, us ++ [u], ?_, ?_⟩
    · rw [List.length_map, paired_len hus, List.length_map, List.length_take]
      exact Nat.lt_of_le_of_lt (Nat.min_le_left _ _) (small1000 (by omega))
    · rw [upd_ne (ne_of_none e nD)]
      exact s2 _ _ (sG _ _ e)
    · rw [upd_same, List.map_append]
      rfl
    · rw [List.take_add_one, hp, List.map_append]
      refine paired_snoc (paired_imp (fun _ _ z => isPairT_upd (s2 _ _ hD) (isPairT_same s2 z)) hus) ?_
      exact isPairT_upd (s2 _ _ hD) ⟨t, hu, s2 _ _ ht⟩
  · rintro G ⟨sG, us, hD, hus⟩
    rw [hn, List.take_length] at hus
    exact hd G us sG hD hus
/-- the keys of a sheet -/
theorem keys_sheet {zs : List Str} {f : Str × Str → V} {i : Nat} {x : V} {G G' : Hp} (h : G' = G ∧ ∃ (k : List Key) (v : V) (q : Addr), (sheetOf zs f)[i]? = some (k, v) ∧ x = .ref q ∧ G q = some (.tup (k.map kV))) :
    G' = G ∧ ∃ p t, (pairsOf zs)[i]? = some p ∧ x = .ref t ∧ G t = some (.tup [.str p.1, .str p.2]) := by
  obtain ⟨e, k, v, q, hk, hx, hq⟩ := h
  unfold sheetOf at hk
  rw [List.getElem?_map] at hk
  obtain ⟨p, hp, e2⟩ := Option.map_eq_some_iff.mp hk
  cases e2
  exact ⟨e, p, q, hp, hx, hq⟩
theorem nodup_keys2 {ps : List (Str × Str)} (h : ps.Nodup) (g : Str × Str → V) : ((ps.map fun p => (key2 p, g p)).map (·.1)).Nodup := by
  rw [List.map_map]
  refine List.Pairwise.map _ (fun a b n z => n (key2_inj z)) h
theorem merge_new {κ : List (Key × V)} : ∀ {kvs acc : List (Key × V)}, ((acc ++ kvs).map (·.1)).Nodup → mergeK acc kvs = acc ++ kvs
  | [], acc, _ => by rw [List.append_nil]; rfl
  | (k, v) :: r, acc, h => by
    have nk : k ∉ acc.map (·.1) := fun z => by
      rw [List.map_append, List.map_cons] at h
      exact (List.nodup_append.mp h).2.2 k z k (List.mem_cons_self ..) rfl
    have e : putK acc k v = acc ++ [(k, v)] := putK_new _ (valV_none nk)
    show mergeK (putK acc k v) r = _
    rw [e, merge_new (κ := κ) (kvs := r) (by rw [List.append_assoc]; exact h), List.append_assoc]
    rfl
theorem putRow_none {a b : Str} : ∀ {es : List (Str × V)} {f : Str × Str → V}, (∀ e ∈ es, e.1 ≠ b) → putRow f a es (a, b) = f (a, b)
  | [], _, _ => rfl
  | e :: es, f, h => by
    show putRow (withF f (a, e.1) e.2) a es (a, b) = _
    rw [putRow_none fun x hx => h x (List.mem_cons_of_mem _ hx)]
    unfold withF
    rw [if_neg fun z => h e (List.mem_cons_self ..) (Prod.mk.inj z).2.symm]
theorem putRow_else {a : Str} {p : Str × Str} (hp : p.1 ≠ a) : ∀ {es : List (Str × V)} {f : Str × Str → V}, putRow f a es p = f p
  | [], _ => rfl
  | e :: es, f => by
    show putRow (withF f (a, e.1) e.2) a es p = _
    rw [putRow_else hp]
    unfold withF
    rw [if_neg fun z => hp (by rw [z])]
theorem putRow_val {a b : Str} : ∀ {es : List (Str × V)} {f : Str × Str → V}, (es.map (·.1)).Nodup → b ∈ es.map (·.1) → valV (rowD es) (Sum.inr b : Key) = some (putRow f a es (a, b))
  | [], _, _, h => by cases h
  | e :: es, f, nd, h => by
    show valV ((Sum.inr e.1, e.2) :: rowD es) (Sum.inr b : Key) = some (putRow (withF f (a, e.1) e.2) a es (a, b))
    rw [List.map_cons, List.nodup_cons] at nd
    by_cases c : e.1 = b
    · subst c
      rw [valV_pos rfl, putRow_none fun x hx z => nd.1 (List.mem_map.mpr ⟨x, hx, z⟩)]
      unfold withF
      rw [if_pos rfl]
    · rw [List.map_cons] at h
      rcases List.mem_cons.mp h with z | z
      · exact absurd z.symm c
      · rw [valV_neg fun z => c (Sum.inr.inj z)]
        exact putRow_val nd.2 z
theorem isKeys_mem {H : Hp} {f : Str × Str → V} {b : Addr} : ∀ {l : List (Str × Str)} {bs : List Addr}, IsKeys H (l.map fun p => (key2 p, f p)) bs → b ∈ bs → ∃ p ∈ l, H b = some (.tup [.str p.1, .str p.2])
  | [], _, h, hb => by
    cases h
    cases hb
  | p :: l, _, h, hb => by
    cases h with
    | cons h t =>
      rcases List.mem_cons.mp hb with e | e
      · subst e
        exact ⟨p, List.mem_cons_self .., h⟩
      · obtain ⟨q, hq, k⟩ := isKeys_mem (l := l) t e
        exact ⟨q, List.mem_cons_of_mem _ hq, k⟩
theorem Told.put {zs : List Str} {m : Int} {f g : Str × Str → V} (t : Told zs m f) (h : ∀ p ∈ pairsOf zs, mkOk m (g p) = true) : Told zs m g := ⟨t.mem, t.nd, t.one, t.most, t.m1, t.m10, h⟩
theorem but_fresh {H G : Hp} {a p : Addr} {o : HO} (b : But a H G) (n : H p = none) : But a H (upd G p o) := fun c u nc e => by
  rw [upd_ne (ne_of_none e n)]
  exact b c u nc e
theorem Pool.lists {H : Hp} {a l : Addr} {zs : List Str} (h : Pool H a) (hl : H l = some (.lst (zs.map V.str))) (one : 1 ≤ zs.length) : l ≠ a := fun e => by
  obtain ⟨g, q, ha, _⟩ := h
  rw [e, ha] at hl
  cases zs with
  | nil => cases one
  | cons z zs => cases hl
theorem Pool.other {H : Hp} {a b : Addr} {o : HO} (h : Pool H a) (hb : H b = some o) (n : ∀ xs, o ≠ .lst xs) : b ≠ a := fun e => by
  obtain ⟨g, q, ha, _⟩ := h
  rw [e, ha] at hb
  exact n _ (Option.some.inj hb).symm
theorem PageOf.but {H G : Hp} {C CP x a : Addr} {zs : List Str} {m : Int} {f : Str × Str → V} (P : Pool H a) (b : But a H G) (one : 1 ≤ zs.length) (h : PageOf H C CP x zs m f) : PageOf G C CP x zs m f := by
  obtain ⟨dx, c, d, hx, ⟨dc, lc, hc, hl⟩, hd⟩ := h
  exact ⟨dx, c, d, b _ _ (P.other hx fun _ z => nomatch z) hx, ⟨dc, lc, b _ _ (P.other hc fun _ z => nomatch z) hc, b _ _ (P.lists hl one) hl⟩, b _ _ (P.other hd fun _ z => nomatch z) hd⟩
theorem Pool.same {H G : Hp} {a : Addr} (s : Same H G) (h : Pool H a) : Pool G a := by
  obtain ⟨g, q, ha, hb⟩ := h
  exact ⟨g, q, s _ _ ha, hb⟩
/-- a row of drawn marks -/
structure RowAt (a : Addr) (m : Int) (G : Hp) (us : List Addr) (es : List (Str × V)) (ks : List Str) : Prop where
  pool : Pool G a
  tups : Paired (fun u e => G u = some (.tup [.str e.1, e.2])) us es
  keys : es.map (·.1) = ks
  marks : ∀ e ∈ es, mkOk m e.2 = true
theorem nest_row {J : It} {n : Nat} {Gd : Hp → Prop} {Y : Nat → Hp → V → Hp → Prop} (w : Walk J n Gd Y) {ys : List Str} (hn : n = ys.length) (h8 : ys.length ≤ 8) {HL : Hp} {D a : Addr} {m : Int} {who : Str} (nD : HL D = none) (P : Pool HL a)
    (hY : ∀ i x G G', Y i G x G' → G' = G ∧ (ys.map V.str)[i]? = some x) (hG : ∀ G, But a HL G → Gd G) {B : V → Hp → (Hp → Prop) → Prop}
    (hB : ∀ b G Nx, b ∈ ys → Pool G a → But a HL G → (b = who → Nx G) → (b ≠ who → ∀ (r : Int) u G', 0 ≤ r → r ≤ m → Pool G' a → But a G G' → G' u = some (.tup [.str b, .int r]) → ∃ acc, G' D = some (.lst acc) ∧ acc.length < sizeLine ∧ Nx (upd G' D (.lst (acc ++ [.ref u])))) → B (.str b) G Nx)
    {Qd : Hp → Prop} (hd : ∀ G us es, But a HL G → G D = some (.lst (us.map V.ref)) → RowAt a m G us es (ys.filter fun b => b ≠ who) → Qd G) :
    ∃ W : Nat → Nat → Hp → Prop, (∃ m, W 0 m (upd HL D (.lst []))) ∧ ∀ i m H, W i m H → (J.stop i H ∧ Qd H) ∨ (J.go i H ∧ ∃ Nx : Hp → Prop, (∀ H', Nx H' → ∃ m', m' < m ∧ W (i + 1) m' H') ∧ ∀ x H', J.yld i H x H' → B x H' Nx) := by
  have nDa : D ≠ a := fun e => by
    obtain ⟨g, q, ha, _⟩ := P
    rw [e, ha] at nD
    cases nD
  refine nest_it w (fun i G => But a HL G ∧ ∃ (us : List Addr) (es : List (Str × V)), G D = some (.lst (us.map V.ref)) ∧ RowAt a m G us es ((ys.take i).filter fun b => b ≠ who)) ⟨But.of_same (same_new nD), [], [], upd_same, P.same (same_new nD), .nil, rfl, fun e he => by cases he⟩ (fun i G _ h => hG _ h.1) ?_ ?_
  · rintro i x G G' hi ⟨bG, us, es, hD, r⟩ y
    obtain ⟨rfl, hx⟩ := hY i x G G' y
    rw [List.getElem?_map] at hx
    obtain ⟨b, hb, rfl⟩ := Option.map_eq_some_iff.mp hx
    have tk : (ys.take (i + 1)).filter (fun b => b ≠ who) = ((ys.take i).filter fun b => b ≠ who) ++ ([b].filter fun b => b ≠ who) := by
      rw [List.take_add_one, hb, List.filter_append]
      rfl
    refine hB b _ _ (List.mem_of_getElem? hb) r.pool bG (fun e => ⟨bG, us, es, hD, r.pool, r.tups, ?_, r.marks⟩) fun ne rr u G2 h0 h1 P2 b2 hu => ⟨_, b2 _ _ nDa hD, ?_, fun c o nc e => ?_, us ++ [u], es ++ [(b, .int rr)], ?_, ?_, ?_, ?_, fun e he => ?_⟩
    · rw [tk, e, List.filter_cons_of_neg (by simp), List.filter_nil, List.append_nil]
      exact r.keys
    · rw [List.length_map, r.tups.length, ← List.length_map (f := (·.1)), r.keys]
      refine Nat.lt_of_le_of_lt (List.length_filter_le _ _) (small1000 ?_)
      rw [List.length_take]
      omega
    · rw [upd_ne (ne_of_none e nD)]
      exact b2 _ _ nc (bG _ _ nc e)
    · rw [upd_same, List.map_append]
      rfl
    · obtain ⟨g, q, ha, hq⟩ := P2
      exact ⟨g, q, by rw [upd_ne nDa.symm]; exact ha, hq⟩
    · refine Paired.snoc (Paired.mono (fun x e h => ?_) r.tups) ?_
      · rw [upd_ne (ne_of (b2 _ _ (r.pool.other h fun _ z => nomatch z) h) (b2 _ _ nDa hD) (fun z => nomatch z))]
        exact b2 _ _ (r.pool.other h fun _ z => nomatch z) h
      · rw [upd_ne (ne_of hu (b2 _ _ nDa hD) (fun z => nomatch z))]
        exact hu
    · rw [tk, List.map_append, r.keys, List.filter_cons_of_pos (by simpa using ne), List.filter_nil]
      rfl
    · rcases List.mem_append.mp he with h | h
      · exact r.marks e h
      · obtain rfl := List.mem_singleton.mp h
        show (decide (V.int rr = V.non) || (decide (0 ≤ rr) && decide (rr ≤ m))) = true
        rw [decide_eq_true h0, decide_eq_true h1]
        simp
  · rintro G ⟨bG, us, es, hD, r⟩
    rw [hn, List.take_length] at r
    exact hd G us es bG hD r
theorem isPairT_unl {H : Hp} {u d : Addr} {kv : List Key × V} {od : Obj} {o o' : HO} (hd : H d = some (.frz od o)) (h : IsPairT H u kv) : IsPairT (upd H d o') u kv := by
  obtain ⟨q, a, b⟩ := h
  exact ⟨q, by rw [upd_ne (ne_of a hd (fun z => nomatch z))]; exact a, by rw [upd_ne (ne_of b hd (fun z => nomatch z))]; exact b⟩
theorem paired_rowD {K : PySem.W.Frag} {G : Hp} : ∀ {us : List Addr} {es : List (Str × V)}, Paired (fun u e => G u = some (.tup [.str e.1, e.2])) us es → Paired (fun p kv => SqT K G p [kV kv.1, kv.2]) us (rowD es)
  | _, _, .nil => .nil
  | _, _, .cons h r => .cons (SqT.of h) (paired_rowD r)
theorem rowD_nodup {es : List (Str × V)} (h : (es.map (·.1)).Nodup) : ((rowD es).map (·.1)).Nodup := by
  unfold rowD
  rw [List.map_map]
  have : (es.map fun e => (Sum.inr e.1 : Key)) = (es.map (·.1)).map Sum.inr := by rw [List.map_map]; rfl
  show ((es.map fun e => (Sum.inr e.1 : Key))).Nodup
  rw [this]
  exact List.Pairwise.map _ (fun a b n z => n (Sum.inr.inj z)) h
theorem merge_row {es : List (Str × V)} (h : (es.map (·.1)).Nodup) : mergeK [] (rowD es) = rowD es := by
  rw [merge_new (κ := []) (by rw [List.nil_append]; exact rowD_nodup h), List.nil_append]
theorem len_filter_ne {zs : List Str} (nd : zs.Nodup) {a : Str} (h : a ∈ zs) : (zs.filter fun b => b ≠ a).length + 1 = zs.length := by
  induction zs with
  | nil => cases h
  | cons z zs ih =>
    rw [List.nodup_cons] at nd
    by_cases c : z = a
    · subst c
      rw [List.filter_cons_of_neg (by simp), List.length_cons]
      congr 1
      congr 1
      exact List.filter_eq_self.mpr fun b hb => by
        have : b ≠ z := fun e => nd.1 (e ▸ hb)
        simpa using this
    · rw [List.filter_cons_of_pos (by simpa using c), List.length_cons, List.length_cons, ih nd.2 ((List.mem_cons.mp h).resolve_left fun e => c e.symm)]
theorem rowFor_of {zs : List Str} {m : Int} {a : Str} {G : Hp} {pa : Addr} {us : List Addr} {es : List (Str × V)} (nd : zs.Nodup) (ha : a ∈ zs) (r : RowAt pa m G us es (zs.reverse.filter fun b => b ≠ a)) : RowFor zs m a es ∧ (es.map (·.1)).Nodup ∧ ∀ b ∈ zs, b ≠ a → b ∈ es.map (·.1) := by
  have nr : zs.reverse.Nodup := (List.reverse_perm zs).nodup_iff.mpr nd
  refine ⟨⟨?_, fun e he => ?_⟩, ?_, fun b hb n => ?_⟩
  · rw [← List.length_map (f := (·.1)), r.keys, len_filter_ne nr (List.mem_reverse.mpr ha), List.length_reverse]
  · have : e.1 ∈ es.map (·.1) := List.mem_map.mpr ⟨e, he, rfl⟩
    rw [r.keys] at this
    obtain ⟨h1, h2⟩ := List.mem_filter.mp this
    exact ⟨List.mem_reverse.mp h1, by simpa using h2, r.marks e he⟩
  · rw [r.keys]
    exact nr.filter _
  · rw [r.keys]
    exact List.mem_filter.mpr ⟨List.mem_reverse.mpr hb, by simpa using n⟩
theorem pairs_some {zs : List Str} (nd : zs.Nodup) (h : 2 ≤ zs.length) : 1 ≤ (pairsOf zs).length := by
  match zs, nd, h with
  | a :: b :: r, nd, _ =>
    have n : a ≠ b := fun e => by
      rw [e] at nd
      exact (List.nodup_cons.mp nd).1 (List.mem_cons_self ..)
    exact List.length_pos_of_mem (mem_pairsOf (List.mem_cons_self ..) (List.mem_cons_of_mem _ (List.mem_cons_self ..)) n)
end L2

set_option Elab.async false
set_option linter.all false
set_option maxRecDepth 100000
set_option maxHeartbeats 4000000
/-! max(list of ints, default=d). -/
namespace L2
open PySem PySem.Spec PyProof.Rows PySem.W
theorem holdAll_ints {h : Heap} : ∀ {vs : List Value} {ns : List Int}, IntsAre vs ns → HoldAll h vs ns
  | _, _, .nil => ⟨_, .nil⟩
  | _, _, .cons n t r => by
    obtain ⟨as, q⟩ := holdAll_ints (h := h) r
    exact ⟨_, .cons (.int n t) q⟩
theorem maxOf_int (x : Int) : ∀ (xs : List Int), (maxOf x xs ∈ x :: xs) ∧ ∀ y ∈ x :: xs, y ≤ maxOf x xs := by
  intro xs
  induction xs generalizing x with
  | nil => exact ⟨List.mem_cons_self .., fun y hy => by rw [List.mem_singleton.mp hy]; exact Int.le_refl _⟩
  | cons z xs ih =>
    show (maxOf (if DatumOrd.lt x z = true then z else x) xs ∈ x :: z :: xs) ∧ ∀ y ∈ x :: z :: xs, y ≤ maxOf (if DatumOrd.lt x z = true then z else x) xs
    have e : DatumOrd.lt x z = decide (x < z) := rfl
    rw [e]
    by_cases c : x < z
    · rw [decide_eq_true c, if_pos rfl]
      obtain ⟨h1, h2⟩ := ih z
      refine ⟨List.mem_cons_of_mem _ h1, fun y hy => ?_⟩
      rcases List.mem_cons.mp hy with rfl | hy
      · exact Int.le_trans (Int.le_of_lt c) (h2 z (List.mem_cons_self ..))
      · exact h2 y hy
    · rw [decide_eq_false c, if_neg (by decide)]
      obtain ⟨h1, h2⟩ := ih x
      refine ⟨?_, fun y hy => ?_⟩
      · rcases List.mem_cons.mp h1 with h | h
        · rw [h]
          exact List.mem_cons_self ..
        · exact List.mem_cons_of_mem _ (List.mem_cons_of_mem _ h)
      · rcases List.mem_cons.mp hy with rfl | hy
        · exact h2 y (List.mem_cons_self ..)
        rcases List.mem_cons.mp hy with rfl | hy
        · exact Int.le_trans (by omega) (h2 x (List.mem_cons_self ..))
        · exact h2 y (List.mem_cons_of_mem _ hy)
def rMaxDef (K : PySem.W.Frag) : List V → List V → Hp → VK → Prop := fun xs zs H Q => ∃ (a : Addr) (ns : List Int) (d : Int), xs = [.ref a] ∧ zs = [.int d] ∧ SqL K H a (ns.map V.int) ∧ (ns = [] → Q (.int d) H) ∧ ∀ m, m ∈ ns → (∀ y ∈ ns, y ≤ m) → Q (.int m) H
theorem cr_maxDef {X : Cx} (hc : X.calm = true) (hu : X.A.units + 1 < cLine) : CallRK X (.builtin "max") ["default"] (rMaxDef X.K) := by
  intro pins s σ H xs zs us ws Q I r rz h
  obtain ⟨a, ns, d, rfl, rfl, hs, q0, q⟩ := h
  obtain ⟨its, rv, hl, _⟩ := I.list hs
  rw [Vals.ref1 r]
  obtain ⟨u, rfl, ru⟩ := rz.one
  obtain ⟨t, rfl⟩ := ru
  have hh : HoldAll s.heap its.toArray.toList ns := holdAll_ints (by simpa using rv.ints)
  refine max_list_datum_default (I.ok.hd hc) hl.isList hh hu (fun e h' tk k => ⟨.int d, H, I.kept k, ⟨_, rfl⟩, q0 e⟩) fun y ys i v h' tk e hi hv k => ?_
  obtain ⟨as, rd⟩ := hv
  obtain ⟨h1, h2⟩ := maxOf_int y ys
  rw [← e] at h1 h2
  generalize maxOf y ys = m at rd h1 h2
  cases (show Reads h' v (.int m) as from rd)
  exact ⟨.int m, H, I.kept k, ⟨_, rfl⟩, q m h1 h2⟩
end L2

set_option Elab.async false
set_option linter.all false
set_option maxRecDepth 100000
set_option maxHeartbeats 4000000
/-! list(d.values()), d with ints or texts as keys. -/
namespace L2
open PySem PySem.Spec PyProof.Rows
section
variable {X : Cx}
def rValuesK : V → List V → Hp → VK → Prop := fun x xs H Q => ∃ (a : Addr) (kvs : List (Key × V)), x = .ref a ∧ xs = [] ∧ H a = some (.dK kvs) ∧ ∀ p, H p = none → Q (.ref p) (upd H p (valsO p a))
theorem mt_valuesK : MtR X "dict.values" rValuesK := by
  intro pins s σ H x xs v us Q I rx rxs h
  obtain ⟨a, kvs, rfl, rfl, ha, q⟩ := h
  cases rx
  cases rxs
  obtain ⟨low, es, ep, hr, hsz, z, _⟩ := I.rawK ha
  refine call_meetsIn PySem.F.slot_dict_values hr.typeIs PySem.F.entry_dict_values (PySem.F.args_dict_values_1 _) (meets_dict_values_raw a low) ⟨⟨es, ep, hr⟩, ?_⟩
  have e : (s.heap.push { cls := .type "dict_values", data := .fields #[.ref a] }).get? s.heap.objs.size = some { cls := .type "dict_values", data := .fields #[.ref a] } := Heap.get?_push_size _ rfl
  refine ⟨.ref s.heap.objs.size, upd H s.heap.objs.size (valsO s.heap.objs.size a), I.laid (t' := s.toks) (fun b u e => Heap.get?_push_of_some _ e) (Nat.le_refl _) ?_, rfl, q _ (I.hok.fresh (Nat.le_refl _))⟩
  exact ⟨⟨_, e, rfl, rfl⟩, ⟨_, e⟩, fun h1 h2 x k => let ⟨o, ho, r⟩ := x; ⟨o, k o ho, r⟩⟩
theorem call_list_valsK (hc : X.calm = true) : CallR X (.type "list") (fun xs H Q => ∃ p d kvs, xs = [V.ref p] ∧ H p = some (valsO p d) ∧ H d = some (.dK kvs) ∧ ∀ l, H l = none → Q (.ref l) (upd H l (.lst (kvs.map (·.2))))) := by
  intro pins s σ H xs us Q I r h
  obtain ⟨p, d, kvs, rfl, hp, hd, q⟩ := h
  obtain ⟨u, rfl, rx⟩ := r.one
  cases rx
  obtain ⟨low, es, ep, hr, hsz, z, ent⟩ := I.rawK hd
  have hv : s.heap.IsValuesView p d := (show ObjOk X.prog X.w H s.heap p (valsO p d) from I.hok p _ hp).1
  refine PySem.W.kdl_call (KdlSrc.rawValues (r := p) (d := d) (es := es) (ep := ep)) (I.ok.hd hc) ⟨hv, hr⟩ (by omega) fun h' tk acc' c' kp e it => ?_
  have len : acc'.toList.length = kvs.length := by rw [Array.length_toList, it.1, hsz]
  have rv : Vals (kvs.map (·.2)) acc'.toList := vals_at (by rw [List.length_map, len]) fun j x u hx hu => by
    rw [List.getElem?_map] at hx
    cases hj : kvs[j]? with
    | none =>
      rw [hj] at hx
      cases hx
    | some kv =>
      rw [hj] at hx
      obtain rfl := Option.some.inj hx
      obtain ⟨hi, _, r2⟩ := ent j kv.1 kv.2 hj
      obtain ⟨hi2, e2⟩ := it.2 j u (by rw [← Array.getElem?_toList]; exact hu)
      rw [e2]
      exact r2
  refine ⟨.ref s.heap.objs.size, _, I.laid (t' := tk) (o := .lst (kvs.map (·.2))) kp (Nat.le_refl _) ?_, rfl, q _ (I.hok.fresh (Nat.le_refl _))⟩
  exact ⟨by rw [List.length_map]; exact z, acc'.toList, c', rv, by rw [Array.toArray_toList]; exact e⟩
end
end L2

set_option Elab.async false
set_option linter.all false
set_option maxRecDepth 100000
set_option maxHeartbeats 4000000
/-! [x for x in xs if ..] of a list of words. -/
namespace L2
open PySem PySem.Spec PyProof.Rows
theorem nest_filter {J : It} {n : Nat} {Gd : Hp → Prop} {Y : Nat → Hp → V → Hp → Prop} (w : Walk J n Gd Y) {ms : List Str} (hn : n = ms.length) (h : ms.length ≤ 64) {HL : Hp} {D : Addr} (nD : HL D = none)
    (hY : ∀ i x G G', Y i G x G' → G' = G ∧ (ms.map V.str)[i]? = some x) (hG : ∀ G, Same HL G → Gd G) {B : V → Hp → (Hp → Prop) → Prop} (good : Str → Bool)
    (hB : ∀ b G Nx, b ∈ ms → Same HL G → (good b = true → ∀ G', Same G G' → ∃ acc, G' D = some (.lst acc) ∧ acc.length < sizeLine ∧ Nx (upd G' D (.lst (acc ++ [.str b])))) → (good b = false → ∀ G', Same G G' → Nx G') → B (.str b) G Nx)
    {Qd : Hp → Prop} (hd : ∀ G, Same HL G → G D = some (.lst ((ms.filter good).map V.str)) → Qd G) :
    ∃ W : Nat → Nat → Hp → Prop, (∃ m, W 0 m (upd HL D (.lst []))) ∧ ∀ i m H, W i m H → (J.stop i H ∧ Qd H) ∨ (J.go i H ∧ ∃ Nx : Hp → Prop, (∀ H', Nx H' → ∃ m', m' < m ∧ W (i + 1) m' H') ∧ ∀ x H', J.yld i H x H' → B x H' Nx) := by
  refine nest_it w (fun i G => Same HL G ∧ G D = some (.lst (((ms.take i).filter good).map V.str))) ⟨same_new nD, upd_same⟩ (fun i G _ h => hG _ h.1) ?_ ?_
  · rintro i x G G' hi ⟨sG, hD⟩ y
    obtain ⟨rfl, hx⟩ := hY i x G G' y
    rw [List.getElem?_map] at hx
    obtain ⟨b, hb, rfl⟩ := Option.map_eq_some_iff.mp hx
    have tk : (ms.take (i + 1)).filter good = ((ms.take i).filter good) ++ ([b].filter good) := by
      rw [List.take_add_one, hb, List.filter_append]
      rfl
    refine hB b _ _ (List.mem_of_getElem? hb) sG (fun gb G2 s2 => ⟨_, s2 _ _ hD, ?_, fun c o e => ?_, ?_⟩) fun gb G2 s2 => ⟨sG.trans s2, ?_⟩
    · rw [List.length_map]
      refine Nat.lt_of_le_of_lt (List.length_filter_le _ _) (small1000 ?_)
      rw [List.length_take]
      omega
    · rw [upd_ne (ne_of_none e nD)]
      exact s2 _ _ (sG _ _ e)
    · rw [upd_same, tk, List.filter_cons_of_pos gb, List.filter_nil, List.map_append]
      rfl
    · rw [tk, List.filter_cons_of_neg (by rw [gb]; decide), List.filter_nil, List.append_nil]
      exact s2 _ _ hD
  · rintro G ⟨sG, hD⟩
    rw [hn, List.take_length] at hD
    exact hd G sG hD
end L2

set_option Elab.async false
set_option linter.all false
set_option maxRecDepth 100000
set_option maxHeartbeats 4000000
/-! Marks drawn pair by pair; rotated people; sublists. -/
namespace L2
open PySem PySem.Spec PyProof.Rows
theorem isPairT_but {G G' : Hp} {a u : Addr} {kv : List Key × V} (P : Pool G a) (b : But a G G') (h : IsPairT G u kv) : IsPairT G' u kv := by
  obtain ⟨q, h1, h2⟩ := h
  exact ⟨q, b _ _ (P.other h1 fun _ z => nomatch z) h1, b _ _ (P.other h2 fun _ z => nomatch z) h2⟩
theorem nest_draws {J : It} {n : Nat} {Gd : Hp → Prop} {Y : Nat → Hp → V → Hp → Prop} (w : Walk J n Gd Y) {ps : List (Str × Str)} (hn : n = ps.length) (h64 : ps.length ≤ 64) (ndp : ps.Nodup) {HL : Hp} {D a : Addr} {m : Int} (nD : HL D = none) (P : Pool HL a)
    (hY : ∀ i x G G', But a HL G → Y i G x G' → G' = G ∧ ∃ p t, ps[i]? = some p ∧ x = .ref t ∧ G t = some (.tup [.str p.1, .str p.2])) (hG : ∀ G, But a HL G → Gd G) {B : V → Hp → (Hp → Prop) → Prop}
    (hB : ∀ p t G Nx, p ∈ ps → Pool G a → But a HL G → G t = some (.tup [.str p.1, .str p.2]) → (∀ (r : Int) u G', 0 ≤ r → r ≤ m → Pool G' a → But a G G' → G' u = some (.tup [.ref t, .int r]) → ∃ acc, G' D = some (.lst acc) ∧ acc.length < sizeLine ∧ Nx (upd G' D (.lst (acc ++ [.ref u])))) → B (.ref t) G Nx)
    {Qd : Hp → Prop} (hd : ∀ (G : Hp) (us : List Addr) (g : Str × Str → V), But a HL G → Pool G a → G D = some (.lst (us.map V.ref)) → (∀ p ∈ ps, ∃ i : Int, g p = .int i ∧ 0 ≤ i ∧ i ≤ m) → Paired (IsPairT G) us (ps.map fun p => (key2 p, g p)) → Qd G) :
    ∃ W : Nat → Nat → Hp → Prop, (∃ m, W 0 m (upd HL D (.lst []))) ∧ ∀ i m H, W i m H → (J.stop i H ∧ Qd H) ∨ (J.go i H ∧ ∃ Nx : Hp → Prop, (∀ H', Nx H' → ∃ m', m' < m ∧ W (i + 1) m' H') ∧ ∀ x H', J.yld i H x H' → B x H' Nx) := by
  have nDa : D ≠ a := fun e => by
    obtain ⟨g, q, ha, _⟩ := P
    rw [e, ha] at nD
    cases nD
  refine nest_it w (fun i G => But a HL G ∧ Pool G a ∧ ∃ (us : List Addr) (g : Str × Str → V), G D = some (.lst (us.map V.ref)) ∧ Paired (IsPairT G) us ((ps.take i).map fun p => (key2 p, g p)) ∧ ∀ p ∈ ps.take i, ∃ i : Int, g p = .int i ∧ 0 ≤ i ∧ i ≤ m) ⟨But.of_same (same_new nD), P.same (same_new nD), [], fun _ => .non, upd_same, .nil, fun p hp => by simp at hp⟩ (fun i G _ h => hG _ h.1) ?_ ?_
  · rintro i x G G' hi ⟨bG, PG, us, g, hD, hus, hg⟩ y
    obtain ⟨rfl, p, t, hp, rfl, ht⟩ := hY i x G G' bG y
    have np : p ∉ ps.take i := fun z => by
      obtain ⟨hi2, e⟩ := List.getElem?_eq_some_iff.mp hp
      have e2 : ps = ps.take i ++ p :: ps.drop (i + 1) := by
        rw [← e, ← List.drop_eq_getElem_cons hi2, List.take_append_drop]
      rw [e2] at ndp
      exact (List.nodup_append.mp ndp).2.2 p z p (List.mem_cons_self ..) rfl
    refine hB p t _ _ (List.mem_of_getElem? hp) PG bG ht fun r u G2 h0 h1 P2 b2 hu => ⟨_, b2 _ _ nDa hD, ?_, fun c o nc e => ?_, ?_, us ++ [u], withF g p (.int r), ?_, ?_, fun q hq => ?_⟩
    · rw [List.length_map, hus.length, List.length_map, List.length_take]
      exact Nat.lt_of_le_of_lt (Nat.min_le_left _ _) (small1000 (by omega))
    · rw [upd_ne (ne_of_none e nD)]
      exact b2 _ _ nc (bG _ _ nc e)
    · obtain ⟨g2, q2, ha, hq⟩ := P2
      exact ⟨g2, q2, by rw [upd_ne nDa.symm]; exact ha, hq⟩
    · rw [upd_same, List.map_append]
      rfl
    · have ht2 := b2 _ _ (PG.other ht fun _ z => nomatch z) ht
      rw [List.take_add_one, hp, List.map_append]
      refine Paired.snoc ?_ ?_
      · have e : ((ps.take i).map fun p' => (key2 p', withF g p (.int r) p')) = (ps.take i).map fun p => (key2 p, g p) := List.map_congr_left fun q hq => by
          show (key2 q, withF g p (.int r) q) = (key2 q, g q)
          unfold withF
          rw [if_neg (fun (z : q = p) => np (z ▸ hq))]
        rw [e]
        exact Paired.mono (fun _ _ z => isPairT_upd (b2 _ _ nDa hD) (isPairT_but PG b2 z)) hus
      · refine isPairT_upd (b2 _ _ nDa hD) ⟨t, ?_, ht2⟩
        show G2 u = some (.tup [.ref t, withF g p (.int r) p])
        unfold withF
        rw [if_pos rfl]
        exact hu
    · unfold withF
      rw [List.take_add_one, hp] at hq
      rcases List.mem_append.mp hq with hq | hq
      · rw [if_neg (fun (z : q = p) => np (z ▸ hq))]
        exact hg q hq
      · have e : q = p := List.mem_singleton.mp hq
        rw [if_pos e]
        exact ⟨r, rfl, h0, h1⟩
  · rintro G ⟨bG, PG, us, g, hD, hus, hg⟩
    rw [hn, List.take_length] at hus hg
    exact hd G us g bG PG hD hg hus
def names6 : List Str := ["ann", "bo", "cy", "di", "ed", "flo"]
theorem names6_ok : ∀ z ∈ names6, isW (.str z) = true ∧ PyData.strOk z = true ∧ z.length ≤ 1000 := by decide +kernel
theorem names6_nd : names6.Nodup := by decide +kernel
/-- people drawn from names6 -/
structure Rot (zs : List Str) : Prop where
  mem : ∀ z ∈ zs, z ∈ names6
  nd : zs.Nodup
  one : 1 ≤ zs.length
  most : zs.length ≤ 6
theorem Rot.people {zs : List Str} (r : Rot zs) : peopleB (zs.map V.str) = true := by
  show ((decide (1 ≤ (zs.map V.str).length) && decide ((zs.map V.str).length ≤ 8)) && ((zs.map V.str).all isW && decide (zs.map V.str).Nodup)) = true
  have h1 : (zs.map V.str).all isW = true := by
    rw [List.all_map]
    exact List.all_eq_true.mpr fun z hz => (names6_ok z (r.mem z hz)).1
  have h2 := r.one
  have h3 := r.most
  rw [h1, List.length_map, decide_eq_true h2, decide_eq_true (show zs.length ≤ 8 by omega), decide_eq_true ((nodup_map_inj (f := V.str) (fun _ _ e => V.str.inj e)).mpr r.nd)]
  rfl
theorem Rot.items {K : PySem.W.Frag} {H : Hp} {zs : List Str} (r : Rot zs) : ∀ x ∈ zs.map V.str, ItemOk K H x := fun x hx => by
  obtain ⟨z, hz, rfl⟩ := List.mem_map.mp hx
  exact ⟨⟨"str", .base (.str _), by decide⟩, fun z' e => by cases e; exact (names6_ok z (r.mem z hz)).2.2⟩
theorem Rot.strOk {zs : List Str} (r : Rot zs) : ∀ z ∈ zs, PyData.strOk z = true := fun z hz => (names6_ok z (r.mem z hz)).2.1
theorem rot_of {k at_ : Nat} (h1 : 1 ≤ k) (h2 : k ≤ 6) : Rot ((names6.take k).drop at_ ++ (names6.take k).take at_) := by
  have p : ((names6.take k).drop at_ ++ (names6.take k).take at_).Perm (names6.take k) := by
    refine List.perm_append_comm.trans ?_
    rw [List.take_append_drop]
  have l : (names6.take k).length = k := by
    rw [List.length_take]
    show min k 6 = k
    omega
  refine ⟨fun z hz => List.mem_of_mem_take (p.mem_iff.mp hz), p.nodup_iff.mpr (names6_nd.sublist (List.take_sublist _ _)), by rw [p.length_eq, l]; exact h1, by rw [p.length_eq, l]; exact h2⟩
theorem sub_filter : ∀ {r zs : List Str}, r.Sublist zs → zs.Nodup → (zs.filter fun b => decide (b ∈ r)) = r := fun {r zs} h => by
  induction h with
  | slnil => intro _; rfl
  | cons a h ih =>
    rename_i l1 l2
    intro nd
    rw [List.nodup_cons] at nd
    rw [List.filter_cons_of_neg (by simpa using fun z => nd.1 (h.subset z))]
    exact ih nd.2
  | cons_cons a h ih =>
    rename_i l1 l2
    intro nd
    rw [List.nodup_cons] at nd
    rw [List.filter_cons_of_pos (by simp)]
    congr 1
    rw [← ih nd.2] 
    refine List.filter_congr fun b hb => ?_
    rw [ih nd.2]
    have : b ≠ a := fun e => nd.1 (e ▸ hb)
    simp [this]
end L2

set_option Elab.async false
set_option linter.all false
set_option maxRecDepth 100000
set_option maxHeartbeats 4000000
/-! x == d, x an instance with an own __eq__, d a dict whose keys are tuples. -/
namespace L2
open PySem PySem.Spec PyProof.Rows
theorem looks_dT {X : Cx} {pins : List (Addr × Obj)} {σ : St} {H : Hp} {s : Shared} {b : Addr} {kvs : List (List Key × V)} (I : Inv X pins σ H s) (h : H b = some (.dT kvs)) : PySem.W.Looks (model X.prog X.w) s.heap (typeOf (.ref b)) (.type "dict") := by
  obtain ⟨_, es, ep, ⟨o, ho, hx, _⟩, _⟩ := I.rawT h
  intro A Q E s2 k q
  refine wpAny_typeOf_ref (k _ _ ho) ?_
  rw [hx.1]
  exact q
def rEqOwnD (C : Addr) (sp : Sp) (E : XK) : R2 := fun x y H Q => ∃ (a dx b : Addr) (fs : List (Str × V)) (kvs : List (List Key × V)), x = .ref a ∧ y = .ref b ∧ H a = some (.ins C dx fs) ∧ H b = some (.dT kvs) ∧ sp [.ref a, .ref b] H (fun v H2 => ∃ c, v = .bl c ∧ Q (.bl c) H2) E
section
variable {X : Cx} {CX : CXT} {k : Nat} {C f : Addr} {fd : FuncData} {ps : List Str} {sp : Sp} {E : XK}
theorem op_eqOwnD (hs : PySem.W.findIn X.K (.ref C) "__eq__" = some (some (.ref f))) (hf : PySem.W.isFn X.K (.ref f) = true) (nf : PySem.W.notFirst X.K C (.type "dict") = true) (F : FnOk X.prog X.w X.K X.mg X.base CX k f fd ps sp) (hr : Room k X.A) (hb : Binds X.K fd ps []) (hx : Passes CX X E) :
    OpR X (compareOp .Eq) (rEqOwnD C sp E) := by
  intro pins s σ H x y v u Q I rx ry h
  obtain ⟨a, dx, b, fs, kvs, rfl, rfl, ea, eb, q⟩ := h
  cases rx
  cases ry
  obtain ⟨mA, O, _, _, _, _⟩ := ins_get I.hok ea
  obtain ⟨od, J, _⟩ := O.look
  obtain ⟨m, hF⟩ := I.fr
  refine PySem.W.cmp_K (op := .Eq) (tb := .type "dict") hr.units0 hF I.ok.mod.kin J (looks_dT I eb) nf hs hf ?_
  refine wpAny_mono (run_fn (ds := []) (dvs := []) (vs := [.ref a, .ref b]) (us := [.ref a, .ref b]) F hr hb .nil hx I (.cons rfl (.cons rfl .nil)) q) (fun w' s2 z => ?_) fun _ _ z => z
  obtain ⟨w2, H2, I2, rw', c, rfl, q2⟩ := z
  cases rw'
  exact ⟨.bl c, H2, I2, rfl, q2⟩
end
/-! the keys of a sheet, the other way round -/
theorem paired_rev {α β : Type} {R : α → β → Prop} : ∀ {xs : List α} {ys : List β}, Paired R xs ys → Paired R xs.reverse ys.reverse
  | _, _, .nil => .nil
  | _, _, .cons a r => by
    rw [List.reverse_cons, List.reverse_cons]
    exact Paired.snoc (paired_rev r) a
theorem paired_at {α β : Type} {R : α → β → Prop} : ∀ {xs : List α} {ys : List β} {i : Nat} {y : β}, Paired R xs ys → ys[i]? = some y → ∃ x, xs[i]? = some x ∧ R x y
  | _, _, i, y, .nil, h => by simp at h
  | _, _, 0, y, .cons a r, h => by
    cases h
    exact ⟨_, rfl, a⟩
  | _, _, i + 1, y, .cons a r, h => paired_at (i := i) r h
end L2

set_option Elab.async false
set_option linter.all false
set_option maxRecDepth 100000
set_option maxHeartbeats 4000000
namespace L2
open PySem PySem.Spec PyProof.Rows
theorem keys_rev {H G : Hp} {zs : List Str} {f : Str × Str → V} {bs : List Addr} (hbs : IsKeys H (sheetOf zs f) bs) (s : Same H G) {i : Nat} {x : V} (h : (bs.map V.ref).reverse[i]? = some x) : ∃ p t, (pairsOf zs).reverse[i]? = some p ∧ x = .ref t ∧ G t = some (.tup [.str p.1, .str p.2]) := by
  rw [← List.map_reverse, List.getElem?_map] at h
  obtain ⟨b, hb, rfl⟩ := Option.map_eq_some_iff.mp h
  obtain ⟨kv, hkv, hh⟩ := paired_at (paired_rev hbs) hb
  unfold sheetOf at hkv
  rw [← List.map_reverse, List.getElem?_map] at hkv
  obtain ⟨p, hp, rfl⟩ := Option.map_eq_some_iff.mp hkv
  exact ⟨p, b, hp, rfl, s _ _ hh⟩
theorem notOwn_new {H G : Hp} {C CP x sd : Addr} {zs : List Str} {m : Int} {f : Str × Str → V} (h : PageOf H C CP x zs m f) (n : H sd = none) (s : Same H G) : NotOwn G CP x sd := fun dx2 c2 d2 e => by
  obtain ⟨dx, c, d, hx, _, hd⟩ := h
  rw [s _ _ hx] at e
  cases e
  exact ne_of_none hd n
theorem notOwn_keep {H G : Hp} {C CP x sd : Addr} {zs : List Str} {m : Int} {f : Str × Str → V} (h : PageOf H C CP x zs m f) (k : ∀ o, H x = some o → G x = some o) (n : NotOwn H CP x sd) : NotOwn G CP x sd := fun dx2 c2 d2 e => by
  obtain ⟨dx, c, d, hx, _, _⟩ := h
  rw [k _ hx] at e
  cases e
  exact n _ _ _ hx
theorem same_fresh {H G : Hp} {p : Addr} {o : HO} (s : Same H G) (n : H p = none) : Same H (upd G p o) := fun c u e => by
  rw [upd_ne (ne_of_none e n)]
  exact s c u e
theorem mkOk_more {m : Int} {v : V} (h : mkOk m v = true) : mkOk (m + 1) v = true := by
  cases v with
  | non => rfl
  | int i =>
    have e : (decide (0 ≤ i) && decide (i ≤ m)) = true := by
      have : (decide (V.int i = V.non) || (decide (0 ≤ i) && decide (i ≤ m))) = true := h
      simpa using this
    rw [Bool.and_eq_true] at e
    have e1 := of_decide_eq_true e.1
    have e2 := of_decide_eq_true e.2
    show (decide (V.int i = V.non) || (decide (0 ≤ i) && decide (i ≤ m + 1))) = true
    rw [decide_eq_true e1, decide_eq_true (show i ≤ m + 1 by omega)]
    simp
  | _ => cases h
theorem plan_merge {l : Addr} {m : Int} : mergeK [] (planK l m) = planK l m := by
  rw [merge_new (κ := []) (by show ([Sum.inr "people", Sum.inr "most"] : List Key).Nodup; decide +kernel), List.nil_append]
theorem nobody_word : ("nobody" : Str) ∉ names8 ∧ PyData.strOk "nobody" = true ∧ peopleB [V.str "nobody"] = true ∧ ("nobody" : Str).length ≤ 1000 := by decide +kernel
end L2

set_option Elab.async false
set_option linter.all false
set_option maxRecDepth 100000
set_option maxHeartbeats 4000000
/-! == and != of two dicts with ints or texts as keys and the same data as values. -/
namespace L2
open PySem PySem.Spec PyProof.Rows
/-- the same flat value, or objects of the same data -/
def EqDt (K : PySem.W.Frag) (H : Hp) (x y : V) : Prop := (x = y ∧ flatB x = true) ∨ ∃ a b d e, x = .ref a ∧ y = .ref b ∧ Dp K H x d ∧ Dp K H y e ∧ SeqAt.shaped d = true ∧ SeqAt.shaped e = true ∧ PyData.eqv d e = true
def rSameK (K : PySem.W.Frag) (neg : Bool) : R2 := fun x y H Q => ∃ a b ks ls, x = .ref a ∧ y = .ref b ∧ H a = some (.dK ks) ∧ H b = some (.dK ls) ∧ ks.length = ls.length ∧ (∀ p ∈ ks, ∃ u, valV ls p.1 = some u ∧ EqDt K H p.2 u) ∧ Q (.bl (!neg)) H
section
variable {X : Cx}
theorem eqDt_run {pins : List (Addr × Obj)} {σ : St} {H : Hp} {s : Shared} (I : Inv X pins σ H s) {A : Around} (hu : A.units + 64 < cLine) (x y : V) (v u : Value) (h : EqDt X.K H x y) (rx : RelV x v) (ry : RelV y u) : SeqAt.EqP X.prog X.w A s v u true := by
  rcases h with ⟨rfl, f⟩ | ⟨a, b, d, e, rfl, rfl, hd, he, sd, se, q⟩
  · exact (eqAt_same rx ry f).eqP
  · obtain ⟨as, r1⟩ := Dp.reads I d _ v hd rx
    obtain ⟨bs, r2⟩ := Dp.reads I e _ u he ry
    cases (show v = Value.ref a from rx)
    cases (show u = Value.ref b from ry)
    by_cases e : a = b
    · subst e
      exact (SeqAt.EqAt.same _).eqP
    · refine SeqAt.eqP_refs e fun E Q z => ?_
      exact SeqAt.compareEq_shaped r1 r2 sd se hu (by rw [q]; exact z)
theorem op_sameK (hu : X.A.units + 66 < cLine) : OpR X (compareOp .Eq) (rSameK X.K false) := by
  intro pins s σ H x y v u Q I rx ry h
  obtain ⟨a, b, ks, ls, rfl, rfl, ha, hb, hl, hp, q⟩ := h
  cases (show v = Value.ref a from rx)
  cases (show u = Value.ref b from ry)
  obtain ⟨_, ya, va, ra, da⟩ := (show ObjOk X.prog X.w H s.heap a (.dK ks) from I.hok a _ ha)
  obtain ⟨_, yb, vb, rb, db⟩ := (show ObjOk X.prog X.w H s.heap b (.dK ls) from I.hok b _ hb)
  refine PySem.W.rcP_dicts (knd := mixKind X.prog X.w) (r := true) ya yb da db (by omega) (fun _ => hits_run (fun x y v u h r1 r2 => eqDt_run I (by show X.A.units + 1 + 64 < cLine; omega) x y v u h r1 r2) rb ra hp) _ _ ?_
  have e : va.length = vb.length := by rw [← ra.length, ← rb.length]; exact hl
  rw [show (va.length == vb.length && true) = true from by rw [e]; simp]
  exact ⟨.bl true, H, I, rfl, q⟩
theorem op_notSameK (hu : X.A.units + 66 < cLine) : OpR X (compareOp .NotEq) (rSameK X.K true) := by
  intro pins s σ H x y v u Q I rx ry h
  obtain ⟨a, b, ks, ls, rfl, rfl, ha, hb, hl, hp, q⟩ := h
  cases (show v = Value.ref a from rx)
  cases (show u = Value.ref b from ry)
  obtain ⟨_, ya, va, ra, da⟩ := (show ObjOk X.prog X.w H s.heap a (.dK ks) from I.hok a _ ha)
  obtain ⟨_, yb, vb, rb, db⟩ := (show ObjOk X.prog X.w H s.heap b (.dK ls) from I.hok b _ hb)
  have e : va.length = vb.length := by rw [← ra.length, ← rb.length]; exact hl
  refine wpAny_richCompare_same_room (op := .NotEq) da.typeIs db.typeIs PySem.F.slot_dict_ne (wpAny_call_entry PySem.F.slot_dict_ne da.typeIs PySem.F.entry_dict_ne ?_ (PySem.F.args_dict_ne_2 _ _)) (by omega)
  refine wpAny_bind ?_
  unfold Builtin.Dict.dictSlotArgs
  refine wpAny_bind (wpAny_notOrdered_dict da.typeIs ?_)
  show wpAny _ _ (pure (Value.ref a, Value.ref b)) _ _ s
  refine wpAny_pure (wpAny_bind (wpAny_isInstance (T := "dict") db.typeIs PySem.F.sub_dict_dict ?_))
  simp only [Bool.not_true, Bool.false_eq_true, if_false]
  refine wpAny_bind (wpAny_pure (wpAny_bind (wpAny_pure (wpAny_bind (PySem.W.samePairsP (r := true) ya yb da db (fun _ => hits_run (fun x y v u h r1 r2 => eqDt_run I (by show X.A.units + 1 + 64 < cLine; omega) x y v u h r1 r2) rb ra hp) ?_)))))
  rw [show (va.length == vb.length && true) = true from by rw [e]; simp]
  exact wpAny_pure ⟨_, rfl, by simp, .bl false, H, I, rfl, q⟩
end
end L2

set_option Elab.async false
set_option linter.all false
set_option maxRecDepth 100000
set_option maxHeartbeats 4000000
/-! zip of a list with a tuple. -/
namespace L2
open PySem PySem.Spec PyProof.Rows
/-- the list at a and the tuple at b, item by item, in new pairs -/
def ItzM (K : PySem.W.Frag) (a b : Addr) : It where
  go := fun i H => ∃ (xs ys : List V) (x y : V), SqL K H a xs ∧ SqT K H b ys ∧ xs[i]? = some x ∧ ys[i]? = some y
  yld := fun i H v H' => ∃ T x y, v = .ref T ∧ H T = none ∧ H' = upd H T (.tup [x, y]) ∧ (∀ l, SqL K H a l → l[i]? = some x) ∧ ∀ l, SqT K H b l → l[i]? = some y
  stop := fun i H => ∃ xs ys : List V, SqL K H a xs ∧ SqT K H b ys ∧ i ≤ xs.length ∧ i ≤ ys.length ∧ (i = xs.length ∨ i = ys.length)
def zipFp (z TI TO i1 i2 : Addr) : List Addr := [z, TI, TO, i1, i2]
theorem zipFp_mem {z TI TO i1 i2 c : Addr} : c ∈ zipFp z TI TO i1 i2 ↔ (c = z ∨ c = TI ∨ c = TO ∨ c = i1 ∨ c = i2) := by
  unfold zipFp
  simp
/-- how the cells of such a zip stand at turn i -/
structure ZipAt (z TI TO i1 i2 a b : Addr) (i : Nat) (h : Heap) : Prop where
  zip : IsZip h z TI TO .none
  ti : IsTupOf2 h TI (.ref i1) (.ref i2)
  tob : ∃ x y, IsTupOf2 h TO x y
  one : h.IsListIter i1 a i
  two : h.IsTupleIter i2 b i
theorem zip_parts {z TI TO i1 i2 a b : Addr} (S : ZipSep2 z TI TO i1 i2 [i1, a] [i2, b]) : a ≠ z ∧ a ≠ TO ∧ b ≠ z ∧ b ≠ TO ∧ i1 ≠ i2 ∧ a ≠ i2 ∧ b ≠ i1 ∧ i1 ≠ z ∧ i2 ≠ z ∧ i1 ≠ TO ∧ i2 ≠ TO := by
  have h1 := S.zf1
  have h2 := S.zf2
  have h3 := S.Tf1
  have h4 := S.Tf2
  have h5 := S.sep1_2
  have h6 := S.sep2_1
  simp only [List.mem_cons, List.not_mem_nil, or_false, not_or] at h1 h2 h3 h4 h5 h6
  exact ⟨fun e => h1.2 e.symm, fun e => h3.2 e.symm, fun e => h2.2 e.symm, fun e => h4.2 e.symm, h5.1, fun e => h6.2 e.symm, fun e => h5.2 e.symm, fun e => h1.1 e.symm, fun e => h2.1 e.symm, fun e => h3.1 e.symm, fun e => h4.1 e.symm⟩
theorem turn_zipM {P : Program} {w : World} {K : PySem.W.Frag} {elts : List Expr} {kk : Nat} {tpos : Pos} {a b z TI TO i1 i2 : Addr} (ha : a ≠ i1) (hb : b ≠ i2) (S : ZipSep2 z TI TO i1 i2 [i1, a] [i2, b]) :
    Turn P w K (.Tuple elts kk tpos) (ItzM K a b) (zipFp z TI TO i1 i2) z (ZipAt z TI TO i1 i2 a b) where
  mem := by simp [zipFp]
  obj := fun i h st c hc => by
    obtain ⟨hz, hTI, ⟨x, y, hTO⟩, ⟨o1, e1, _, d1⟩, ⟨o2, e2, _, d2⟩⟩ := st
    rcases zipFp_mem.mp hc with rfl | rfl | rfl | rfl | rfl
    · exact ⟨_, hz, fun v q => (nomatch q)⟩
    · exact ⟨_, hTI, fun v q => (nomatch q)⟩
    · exact ⟨_, hTO, fun v q => (nomatch q)⟩
    · exact ⟨o1, e1, fun v q => by rw [d1] at q; cases q⟩
    · exact ⟨o2, e2, fun v q => by rw [d2] at q; cases q⟩
  keep := fun i h h' st k => by
    have kk : ∀ c, (c = z ∨ c = TI ∨ c = TO ∨ c = i1 ∨ c = i2) → ∀ o, h.get? c = some o → h'.get? c = some o := fun c e => k c (zipFp_mem.mpr e)
    obtain ⟨x, y, hTO⟩ := st.tob
    exact ⟨kk z (.inl rfl) _ st.zip, kk TI (.inr (.inl rfl)) _ st.ti, ⟨x, y, kk TO (.inr (.inr (.inl rfl))) _ hTO⟩, st.one.at fun o q => kk i1 (.inr (.inr (.inr (.inl rfl)))) o q, st.two.at fun o q => kk i2 (.inr (.inr (.inr (.inr rfl)))) o q⟩
  item := by
    intro X hP hw hK hc i pins s σ H E I hf st hg
    subst hP hw hK
    obtain ⟨xs, ys, x, y, hqx, hqy, hx, hy⟩ := hg
    obtain ⟨x0, y0, hTO⟩ := st.tob
    obtain ⟨its, rv, p, _⟩ := I.list hqx
    obtain ⟨its2, rv2, p2, _⟩ := I.tuple hqy
    obtain ⟨u, hu, ru⟩ := rv.get hx
    obtain ⟨u2, hu2, ru2⟩ := rv2.get hy
    have lt1 := (List.getElem?_eq_some_iff.mp hu).1
    have lt2 := (List.getElem?_eq_some_iff.mp hu2).1
    have live : ∀ {c : Addr} {o : Obj}, s.heap.get? c = some o → c < s.heap.objs.size := fun e => Heap.lt_size e
    obtain ⟨naz, naT, nbz, nbT, n12, na2, nb1, n1z, n2z, n1T, n2T⟩ := zip_parts S
    refine wpAny_pyNext_zipD2_item (i := i) S (Draws.list (prog := X.prog) (w := X.w) (A := X.A.in1) (I.ok.hd hc) i1 a ha its.toArray) (Draws.tuple (prog := X.prog) (w := X.w) (A := X.A.in1) (I.ok.hd hc) i2 b hb its2.toArray) st.zip st.ti hTO ⟨st.one, p.isList⟩ ⟨st.two, p2⟩ (by simpa using lt1) (by simpa using lt2) fun v1 v2 h' tk q1 q2 z' TO' s1 s2 hT hsz hk => ?_
    have ev1 : v1 = u := by
      have : its[i]? = some v1 := by simpa using q1
      rw [hu] at this
      exact (Option.some.inj this).symm
    have ev2 : v2 = u2 := by
      have : its2[i]? = some v2 := by simpa using q2
      rw [hu2] at this
      exact (Option.some.inj this).symm
    subst ev1 ev2
    refine ⟨_, rfl, wpAny_letOwnedTupleGo_zip (s := { s with heap := h', toks := tk }) z' fun h2 z2 sb => ?_⟩
    have zl : z < s.heap.objs.size := live st.zip
    have top := (sb.2 _ (Nat.ne_of_gt zl)).trans hT
    have new : ObjOk X.prog X.w (upd H s.heap.objs.size (.tup [x, y])) h2 s.heap.objs.size (.tup [x, y]) :=
      ⟨by show 2 ≤ sizeLine; decide, [v1, v2], .cons ru (.cons ru2 .nil), ⟨_, top, rfl, _, rfl⟩⟩
    have notin : ∀ {c : Addr}, c ∉ zipFp z TI TO i1 i2 → c ≠ z ∧ c ≠ TO ∧ c ≠ i1 ∧ c ≠ i2 := fun n => ⟨fun e => n (zipFp_mem.mpr (.inl e)), fun e => n (zipFp_mem.mpr (.inr (.inr (.inl e)))), fun e => n (zipFp_mem.mpr (.inr (.inr (.inr (.inl e))))), fun e => n (zipFp_mem.mpr (.inr (.inr (.inr (.inr e)))))⟩
    have I1 : Inv X pins σ (upd H s.heap.objs.size (.tup [x, y])) { s with heap := h2, toks := tk } :=
      I.turnedNew (t' := tk) (ch := zipFp z TI TO i1 i2) (fun c o n q => (sb.2 c (notin n).1).trans (hk c o (notin n).1 (notin n).2.1 (notin n).2.2.1 (notin n).2.2.2 q)) hf (Nat.le_refl _) new
    have free : H s.heap.objs.size = none := I.hok.fresh (Nat.le_refl _)
    refine ⟨.ref s.heap.objs.size, _, I1, rfl, ⟨_, x, y, rfl, free, rfl, fun l hl => by rw [I.list_inj hl hqx]; exact hx, fun l hl => by rw [I.tuple_inj hl hqy]; exact hy⟩, ⟨z2, (sb.2 _ S.TIz).trans (hk _ _ S.TIz S.TITO S.TIi1 S.TIi2 st.ti), ⟨v1, v2, (sb.2 _ S.TOz).trans TO'⟩, s1.1.at fun o q => (sb.2 _ n1z).trans q, s2.1.at fun o q => (sb.2 _ n2z).trans q⟩, fun c hcm => ?_⟩
    have below : c < s.heap.objs.size := by
      rcases zipFp_mem.mp hcm with e | e | e | e | e
      · rw [e]; exact zl
      · rw [e]; exact live st.ti
      · rw [e]; exact live hTO
      · rw [e]; obtain ⟨_, q, _⟩ := st.one; exact live q
      · rw [e]; obtain ⟨_, q, _⟩ := st.two; exact live q
    rw [upd_ne (Nat.ne_of_lt below)]
    exact (hf c hcm).1
  done := by
    intro X hP hw hK hc i pins s σ H E I hf st hg
    subst hP hw hK
    obtain ⟨xs, ys, hqx, hqy, le1, le2, hend⟩ := hg
    obtain ⟨x0, y0, hTO⟩ := st.tob
    obtain ⟨its, rv, p, _⟩ := I.list hqx
    obtain ⟨its2, rv2, p2, _⟩ := I.tuple hqy
    have l1 : xs.length = its.toArray.size := by rw [rv.length, List.size_toArray]
    have l2 : ys.length = its2.toArray.size := by rw [rv2.length, List.size_toArray]
    have notin : ∀ {c : Addr}, c ∉ zipFp z TI TO i1 i2 → c ≠ z ∧ c ≠ TO ∧ c ≠ i1 ∧ c ≠ i2 := fun n => ⟨fun e => n (zipFp_mem.mpr (.inl e)), fun e => n (zipFp_mem.mpr (.inr (.inr (.inl e)))), fun e => n (zipFp_mem.mpr (.inr (.inr (.inr (.inl e))))), fun e => n (zipFp_mem.mpr (.inr (.inr (.inr (.inr e)))))⟩
    rw [l1, l2] at hend
    refine wpAny_pyNext_zipD2_end (i := i) S (Draws.list (prog := X.prog) (w := X.w) (A := X.A.in1) (I.ok.hd hc) i1 a ha its.toArray) (Draws.tuple (prog := X.prog) (w := X.w) (A := X.A.in1) (I.ok.hd hc) i2 b hb its2.toArray) st.zip st.ti hTO ⟨st.one, p.isList⟩ ⟨st.two, p2⟩ (by omega) (by omega) hend fun h' tk hk => ⟨rfl, ?_⟩
    exact I.turnedL (t' := tk) (ch := zipFp z TI TO i1 i2) (fun c o n q => hk c o (notin n).1 (notin n).2.1 (notin n).2.2.1 (notin n).2.2.2 q) hf
  self := fun A i s Q E st h => wpAny_pyIter_zip st.zip h
def iZipM (K : PySem.W.Frag) (ta : TA) : TI := fun σ H R => ta σ H fun vs H1 => ∃ a b xs ys, vs = [.ref a, .ref b] ∧ SqL K H1 a xs ∧ SqT K H1 b ys ∧ R (ItzM K a b) H1
theorem pi_zipM {X : Cx} {e e2 : Expr} {ta : TA} {p pos tpos : Pos} {elts : List Expr} {kk : Nat} (hg : Gl X "zip") (hm : X.mg "zip" = none) (ha : PA X [e, e2] ta)
    (hs : starEach [e, e2] X.env = (false, eval e X.env) :: starEach [e2] X.env := by rfl) (hpl : (backTo pos (starEach [e2] X.env)).any (·.1) = false := by rfl) : PI X (.Tuple elts kk tpos) (.Call (.Name "zip" p) [e, e2] [] pos) (iZipM X.K ta) := by
  refine ⟨fun pins s σ H R I h => Call_ (ld_blt I hg hm PyProof.Rows.boot_zip (PyProof.Rows.callWith_type1 (thn (ha.run pos pins s σ H _ I h) fun us s1 ⟨vs, H1, I1, r1, q1⟩ => ?_) hs hpl))⟩
  obtain ⟨a, b, xs, ys, rfl, hqx, hqy, q⟩ := q1
  cases r1 with
  | cons ra rr =>
    cases rr with
    | cons rb rr =>
      cases rr
      cases ra
      cases rb
      obtain ⟨its, rv, p1, _⟩ := I1.list hqx
      obtain ⟨its2, rv2, p2, _⟩ := I1.tuple hqy
      obtain ⟨o2, ho2, _⟩ := id p2
      have la : a < s1.heap.objs.size := p1.lt
      have lb : b < s1.heap.objs.size := Heap.lt_size ho2
      refine zip_begins2 (begins_list a its.toArray) (begins_tuple b its2.toArray) p1.isList p2 fun h' hz hTI hTO h1 h2 hsz hk => wpAny_pyIter_zip hz ?_
      have I2 : Inv X pins σ H1 { s1 with heap := h' } := I1.kept (t' := s1.toks) hk
      refine ⟨s1.heap.objs.size + 4, zipFp (s1.heap.objs.size + 4) (s1.heap.objs.size + 2) (s1.heap.objs.size + 3) s1.heap.objs.size (s1.heap.objs.size + 1), _, _, H1, rfl, I2, turn_zipM (Nat.ne_of_lt la) (Nat.ne_of_lt (Nat.lt_succ_of_lt lb)) (zip_sep2 (fp1 := [a]) (fp2 := [b]) (fun c e => by rw [List.mem_singleton.mp e]; exact la) (fun c e => by rw [List.mem_singleton.mp e]; exact lb)), ⟨hz, hTI, ⟨_, _, hTO⟩, ⟨_, h1, rfl, rfl⟩, ⟨_, h2, rfl, rfl⟩⟩, fun c hc => ?_, q⟩
      have up : s1.heap.objs.size ≤ c := by
        rcases zipFp_mem.mp hc with e | e | e | e | e <;> rw [e]
        · exact Nat.le_add_right _ _
        · exact Nat.le_add_right _ _
        · exact Nat.le_add_right _ _
        · exact Nat.le_refl _
        · exact Nat.le_add_right _ _
      exact I1.fpOk up (I1.hok.fresh up)
theorem walk_zipM {K : PySem.W.Frag} {a b : Addr} {xs ys : List V} {n : Nat} (hn : n = min xs.length ys.length) : Walk (ItzM K a b) n (fun H => SqL K H a xs ∧ SqT K H b ys) (YPair (fun i => xs[i]?) (fun i => ys[i]?)) := by
  subst hn
  refine ⟨fun i _ hi q => ?_, fun _ q => ⟨xs, ys, q.1, q.2, Nat.min_le_left _ _, Nat.min_le_right _ _, by omega⟩, fun i H v H' _ q y => ?_⟩
  · exact ⟨xs, ys, xs[i]'(by omega), ys[i]'(by omega), q.1, q.2, by rw [List.getElem?_eq_getElem], by rw [List.getElem?_eq_getElem]⟩
  · obtain ⟨T, x, z, h1, h2, h3, h4, h5⟩ := y
    exact ⟨T, x, z, h1, h2, h3, h4 _ q.1, h5 _ q.2⟩
end L2

set_option Elab.async false
set_option linter.all false
set_option maxRecDepth 100000
set_option maxHeartbeats 4000000
/-! All partings of people into two lists, counted in two ways; fractions in lowest terms. -/
namespace L2
open PySem PySem.Spec PyProof.Rows
theorem snoc_ind {α : Type} {P : List α → Prop} (h0 : P []) (h : ∀ l x, P l → P (l ++ [x])) (l : List α) : P l := by
  have k : ∀ n (l : List α), l.length = n → P l := fun n => by
    induction n with
    | zero => exact fun l e => by rw [List.length_eq_zero_iff.mp e]; exact h0
    | succ n ih =>
      intro l e
      have ne : l ≠ [] := fun z => by rw [z] at e; cases e
      rw [← List.dropLast_concat_getLast ne]
      exact h _ _ (ih _ (by rw [List.length_dropLast, e]; rfl))
  exact k _ l rfl
def sumS {α : Type} (L : List α) (g : α → Nat) : Nat := (L.map g).sum
theorem sumS_nil {α : Type} (g : α → Nat) : sumS [] g = 0 := rfl
theorem sumS_cons {α : Type} (a : α) (L : List α) (g : α → Nat) : sumS (a :: L) g = g a + sumS L g := by
  unfold sumS
  rw [List.map_cons, List.sum_cons]
theorem sumS_app {α : Type} (L M : List α) (g : α → Nat) : sumS (L ++ M) g = sumS L g + sumS M g := by
  unfold sumS
  rw [List.map_append, List.sum_append]
theorem sumS_map {α β : Type} (L : List α) (f : α → β) (g : β → Nat) : sumS (L.map f) g = sumS L fun a => g (f a) := by
  unfold sumS
  rw [List.map_map]
  rfl
theorem sumS_add {α : Type} (L : List α) (g k : α → Nat) : sumS L (fun a => g a + k a) = sumS L g + sumS L k := by
  induction L with
  | nil => rfl
  | cons a L ih =>
    rw [sumS_cons, sumS_cons, sumS_cons, ih]
    omega
theorem sumS_congr {α : Type} {L : List α} {g k : α → Nat} (h : ∀ a ∈ L, g a = k a) : sumS L g = sumS L k := by
  unfold sumS
  rw [List.map_congr_left h]
theorem sumS_swap {α β : Type} (L : List α) (M : List β) (g : α → β → Nat) : sumS L (fun a => sumS M (g a)) = sumS M fun b => sumS L fun a => g a b := by
  induction L with
  | nil =>
    have : ∀ M : List β, sumS M (fun _ => 0) = 0 := fun M => by
      induction M with
      | nil => rfl
      | cons b M ih => rw [sumS_cons, ih]
    exact (this M).symm
  | cons a L ih =>
    rw [sumS_cons, ih, ← sumS_add]
    exact sumS_congr fun b _ => (sumS_cons a L fun a => g a b).symm
theorem sumS_le {α : Type} {L : List α} {g : α → Nat} {c : Nat} (h : ∀ a ∈ L, g a ≤ c) : sumS L g ≤ c * L.length := by
  induction L with
  | nil => exact Nat.zero_le _
  | cons a L ih =>
    have h1 := h a (List.mem_cons_self ..)
    have h2 := ih fun b hb => h b (List.mem_cons_of_mem _ hb)
    rw [sumS_cons, List.length_cons, Nat.mul_add]
    omega
theorem sumS_flat {α β : Type} (L : List α) (f : α → List β) (g : β → Nat) : sumS (L.flatMap f) g = sumS L fun a => sumS (f a) g := by
  induction L with
  | nil => rfl
  | cons a L ih => rw [List.flatMap_cons, sumS_app, sumS_cons, ih]
/-- all lists of some of the people, as the law makes them -/
def subsOf (zs : List Str) : List (List Str) := zs.foldl (fun S z => S ++ S.map fun r => r ++ [z]) [[]]
theorem subsOf_snoc (zs : List Str) (z : Str) : subsOf (zs ++ [z]) = subsOf zs ++ (subsOf zs).map fun r => r ++ [z] := by
  unfold subsOf
  rw [List.foldl_append]
  rfl
theorem subs_len (zs : List Str) : (subsOf zs).length = 2 ^ zs.length := by
  induction zs using snoc_ind with
  | h0 => rfl
  | h l x ih => rw [subsOf_snoc, List.length_append, List.length_map, ih, List.length_append, List.length_singleton, Nat.pow_succ]; omega
theorem subs_sub {zs : List Str} : ∀ r ∈ subsOf zs, r.Sublist zs := by
  induction zs using snoc_ind with
  | h0 =>
    intro r hr
    rw [List.mem_singleton.mp hr]
    exact List.Sublist.refl _
  | h l x ih =>
    intro r hr
    rw [subsOf_snoc] at hr
    rcases List.mem_append.mp hr with h | h
    · exact (ih r h).trans (List.sublist_append_left _ _)
    · obtain ⟨r2, h2, rfl⟩ := List.mem_map.mp h
      exact (ih r2 h2).append (List.Sublist.refl _)
def restS (zs ys : List Str) : List Str := zs.filter fun b => !decide (b ∈ ys)
theorem sum_subs (zs : List Str) (z : Str) (g : List Str → Nat) : sumS (subsOf (zs ++ [z])) g = sumS (subsOf zs) fun ys => g ys + g (ys ++ [z]) := by
  rw [subsOf_snoc, sumS_app, sumS_map, sumS_add]
theorem rest_snoc {zs ys : List Str} {z : Str} (h : z ∉ ys) : restS (zs ++ [z]) ys = restS zs ys ++ [z] := by
  unfold restS
  rw [List.filter_append, List.filter_cons_of_pos (by simpa using h), List.filter_nil]
theorem rest_snoc2 {zs ys : List Str} {z : Str} (h : z ∉ zs) : restS (zs ++ [z]) (ys ++ [z]) = restS zs ys := by
  unfold restS
  rw [List.filter_append, List.filter_cons_of_neg (by simp), List.filter_nil, List.append_nil]
  refine List.filter_congr fun b hb => ?_
  have : b ≠ z := fun e => h (e ▸ hb)
  simp [this]
/-- what is left is counted as what is taken -/
theorem sum_rest {zs : List Str} : zs.Nodup → ∀ g : List Str → Nat, sumS (subsOf zs) (fun ys => g (restS zs ys)) = sumS (subsOf zs) g := by
  induction zs using snoc_ind with
  | h0 => intro _ g; rfl
  | h l x ih =>
    intro nd g
    have nx : x ∉ l := fun z => (List.nodup_append.mp nd).2.2 x z x (List.mem_singleton.mpr rfl) rfl
    rw [sum_subs, sum_subs]
    have e : sumS (subsOf l) (fun ys => g (restS (l ++ [x]) ys) + g (restS (l ++ [x]) (ys ++ [x]))) = sumS (subsOf l) fun ys => (fun r => g r + g (r ++ [x])) (restS l ys) := sumS_congr fun ys hy => by
      dsimp only
      rw [rest_snoc fun z => nx ((subs_sub ys hy).subset z), rest_snoc2 nx, Nat.add_comm]
    rw [e]
    exact ih (List.nodup_append.mp nd).1 fun r => g r + g (r ++ [x])
/-- all tuples of so many numbers up to m -/
def tupsOf (m : Nat) : Nat → List (List Int)
  | 0 => [[]]
  | k + 1 => (tupsOf m k).flatMap fun r => (List.range (m + 1)).map fun (n : Nat) => r ++ [(n : Int)]
theorem tups_len {m : Nat} : ∀ {k : Nat}, ∀ r ∈ tupsOf m k, r.length = k
  | 0, r, h => by rw [List.mem_singleton.mp h]; rfl
  | k + 1, r, h => by
    obtain ⟨r2, h2, h3⟩ := List.mem_flatMap.mp h
    obtain ⟨n, _, rfl⟩ := List.mem_map.mp h3
    rw [List.length_append, tups_len r2 h2]
    rfl
theorem tups_many (m : Nat) : ∀ k : Nat, (tupsOf m k).length = (m + 1) ^ k
  | 0 => rfl
  | k + 1 => by
    have key : ∀ L : List (List Int), (L.flatMap fun r => (List.range (m + 1)).map fun (n : Nat) => r ++ [(n : Int)]).length = (m + 1) * L.length := fun L => by
      induction L with
      | nil => rfl
      | cons a L ih =>
        rw [List.flatMap_cons, List.length_append, ih, List.length_map, List.length_range, List.length_cons, Nat.mul_add]
        omega
    show (List.flatMap _ _).length = _
    rw [key, tups_many m k, Nat.pow_succ, Nat.mul_comm]
/-- those whose number is 1 -/
def picks (zs : List Str) (ss : List Int) : List Str := ((zs.zip ss).filter fun p => decide (p.2 = 1)).map (·.1)
theorem picks_snoc {zs : List Str} {ss : List Int} {z : Str} {s : Int} (h : zs.length = ss.length) : picks (zs ++ [z]) (ss ++ [s]) = picks zs ss ++ (if s = 1 then [z] else []) := by
  unfold picks
  rw [List.zip_append h, List.filter_append, List.map_append]
  congr 1
  by_cases e : s = 1
  · rw [if_pos e]
    simp [e]
  · rw [if_neg e]
    simp [e]
theorem zip_short {α β : Type} : ∀ {as bs : List α} {ss : List β}, ss.length ≤ as.length → (as ++ bs).zip ss = as.zip ss
  | [], bs, [], _ => by rw [List.zip_nil_right, List.zip_nil_right]
  | [], _, _ :: _, h => absurd h (by simp)
  | _ :: _, _, [], _ => by rw [List.zip_nil_right, List.zip_nil_right]
  | a :: as, bs, s :: ss, h => by
    rw [List.cons_append, List.zip_cons_cons, List.zip_cons_cons, zip_short (by simpa using h)]
theorem picks_short {zs xs : List Str} {ss : List Int} (h : ss.length ≤ zs.length) : picks (zs ++ xs) ss = picks zs ss := by
  unfold picks
  rw [zip_short h]
theorem sum_picks {zs : List Str} : ∀ g : List Str → Nat, sumS ((tupsOf 1 zs.length).map (picks zs)) g = sumS (subsOf zs) g := by
  induction zs using snoc_ind with
  | h0 => intro g; rfl
  | h l x ih =>
    intro g
    rw [sum_subs, ← ih, sumS_map, sumS_map, List.length_append, List.length_singleton]
    show sumS ((tupsOf 1 l.length).flatMap _) _ = _
    rw [sumS_flat]
    refine sumS_congr fun r hr => ?_
    have hl : l.length = r.length := (tups_len r hr).symm
    show sumS [r ++ [((0 : Nat) : Int)], r ++ [((1 : Nat) : Int)]] _ = _
    rw [sumS_cons, sumS_cons, sumS_nil, picks_snoc hl, picks_snoc hl, if_neg (by decide), if_pos (by decide), List.append_nil, Nat.add_zero]
/-- half of the partings, the last one always in the second list -/
theorem half_subs {zs : List Str} (nd : zs.Nodup) (ne : 1 ≤ zs.length) (g : List Str → Nat) (hg : ∀ ys, ys.Sublist zs → g (restS zs ys) = g ys) : sumS (subsOf zs) g = 2 * sumS ((tupsOf 1 (zs.length - 1)).map (picks zs)) g := by
  have ne2 : zs ≠ [] := fun z => by rw [z] at ne; exact absurd ne (by decide)
  have e := (List.dropLast_concat_getLast ne2).symm
  generalize hl : zs.dropLast = l at e
  generalize zs.getLast ne2 = x at e
  subst e
  have nx : x ∉ l := fun z => (List.nodup_append.mp nd).2.2 x z x (List.mem_singleton.mpr rfl) rfl
  have ndl := (List.nodup_append.mp nd).1
  rw [sum_subs, sumS_add]
  have e1 : sumS (subsOf l) (fun ys => g (ys ++ [x])) = sumS (subsOf l) g := by
    rw [← sum_rest ndl g]
    refine sumS_congr fun ys hy => ?_
    rw [← hg (ys ++ [x]) ((subs_sub ys hy).append (List.Sublist.refl _)), rest_snoc2 nx]
  have e2 : sumS ((tupsOf 1 ((l ++ [x]).length - 1)).map (picks (l ++ [x]))) g = sumS (subsOf l) g := by
    rw [← sum_picks, List.length_append, List.length_singleton, Nat.add_sub_cancel, sumS_map, sumS_map]
    refine sumS_congr fun r hr => ?_
    rw [picks_short (by rw [tups_len r hr]; exact Nat.le_refl _)]
  rw [e1, e2]
  omega
/-! fractions -/
def gcdI (a b : Int) : Int := ((Nat.gcd a.natAbs b.natAbs : Nat) : Int)
def low2 (t b : Int) : Int × Int := (t / gcdI t b, b / gcdI t b)
theorem gcd_pos {t b : Int} (hb : 0 < b) : 0 < gcdI t b := by
  unfold gcdI
  have : 0 < Nat.gcd t.natAbs b.natAbs := Nat.gcd_pos_of_pos_right _ (by omega)
  omega
theorem gcd_le {t b : Int} (hb : 0 < b) : gcdI t b ≤ b := by
  unfold gcdI
  have : Nat.gcd t.natAbs b.natAbs ≤ b.natAbs := Nat.le_of_dvd (by omega) (Nat.gcd_dvd_right _ _)
  omega
theorem gcd_dvd_l (t b : Int) : gcdI t b ∣ t := Int.ofNat_dvd_left.mpr (Nat.gcd_dvd_left _ _)
theorem gcd_dvd_r (t b : Int) : gcdI t b ∣ b := Int.ofNat_dvd_left.mpr (Nat.gcd_dvd_right _ _)
theorem low_pos {t b : Int} (hb : 0 < b) : 0 < (low2 t b).2 := by
  have h := gcd_pos (t := t) hb
  obtain ⟨c, hc⟩ := gcd_dvd_r t b
  show 0 < b / gcdI t b
  have e : b / gcdI t b = c := Int.ediv_eq_of_eq_mul_right (by omega) hc
  rw [e]
  refine Int.lt_of_not_ge fun z => ?_
  have : gcdI t b * c ≤ 0 := Int.mul_nonpos_of_nonneg_of_nonpos (by omega) z
  omega
theorem low_le {t b : Int} (hb : 0 < b) : (low2 t b).2 ≤ b := Int.ediv_le_self _ (by omega)
theorem low_back {t b : Int} (hb : 0 < b) : (low2 t b).1 * (b / (low2 t b).2) = t := by
  have h := gcd_pos (t := t) hb
  have h2 := low_pos (t := t) hb
  obtain ⟨c, hc⟩ := gcd_dvd_r t b
  obtain ⟨d, hd⟩ := gcd_dvd_l t b
  have e : b / gcdI t b = c := Int.ediv_eq_of_eq_mul_right (by omega) hc
  have e3 : t / gcdI t b = d := Int.ediv_eq_of_eq_mul_right (by omega) hd
  have h3 : (low2 t b).2 = c := e
  rw [h3] at h2
  show t / gcdI t b * (b / (b / gcdI t b)) = t
  rw [e3, e]
  have e4 : b / c = gcdI t b := Int.ediv_eq_of_eq_mul_left (by omega) hc
  rw [e4, Int.mul_comm]
  exact hd.symm
end L2

set_option Elab.async false
set_option linter.all false
set_option maxRecDepth 100000
set_option maxHeartbeats 4000000
/-! name = {k: v for ..}, keys ints or texts, on one line. -/
namespace L2
open PySem PySem.Spec PyProof.Rows
variable {X : Cx}
theorem ps_setDcK {kx vx tg iter : Expr} {ifs : List Expr} {scope : Scope} {own : List (Str × Nat)} {pos : Pos} {wi : TI} {g : TG} {tt : TT} {tk tv : TE} {i : Nat} {y : Str} {py spos : Pos} (hc : X.calm = true) (hN : X.N.Nodup) (hy : X.N[i]? = some y) (hyl : X.env.scope.names.lookup y = some .local ∨ X.env.scope.names.lookup y = some .cell) (hyf : X.fn y = true ∨ X.env.scope.names.lookup y = some .local)
    (hsw : swapsWith (.DictComp kx vx [⟨tg, iter, ifs, 0⟩] scope pos) (some (.Name y py)) spos.line X.env = pure true)
    (hi : PI X tg iter wi) (ok : BlkOk X.N X.env.scope scope own)
    (hg : ∀ (s : Shared) (H : Hp) (C : Addr) (cl : List (Str × Addr)) (fp : List Addr), PG (X.blk s H scope (compEnvC scope cl C X.env) fp) tg g)
    (ht : ∀ (s : Shared) (H : Hp) (C : Addr) (cl : List (Str × Addr)) (fp : List Addr), PTs (X.blk s H scope (compEnvC scope cl C X.env) fp) ifs tt)
    (hk : ∀ (s : Shared) (H : Hp) (C : Addr) (cl : List (Str × Addr)) (fp : List Addr), PE (X.blk s H scope (compEnvC scope cl C X.env) fp) kx tk)
    (he : ∀ (s : Shared) (H : Hp) (C : Addr) (cl : List (Str × Addr)) (fp : List Addr), PE (X.blk s H scope (compEnvC scope cl C X.env) fp) vx tv) (hs : ∀ x, foldedSetIterable iter X.env x = pure x := by intro _; rfl) :
    PS X (.Assign [.Name y py] (.DictComp kx vx [⟨tg, iter, ifs, 0⟩] scope pos) spos) (tAsg (tDc wi g tt tk tv (own.map (·.2))) (gName i)) := by
  refine ⟨fun pins s σ H D I h => ?_⟩
  rw [exec_Assign_Name_used _ _ _ _ hsw]
  refine wpAny_bind (wpAny_standAt (wpAny_bind ?_))
  show wpAny _ X.A (do let _ ← comprehension (.DictComp kx vx [⟨tg, iter, ifs, 0⟩] scope pos) scope X.env (firstIterPos [⟨tg, iter, ifs, 0⟩] pos) newDict false (eval iter X.env) (some (assign (.Name y py) X.env))) _ _ s
  have z : tDc wi g tt tk tv (own.map (·.2)) σ H (fun x H1 => gName i x σ H1 D.nx) := h
  refine wpAny_bind (thn (dc_core (Qf := fun _ s' => SP X pins D .next s') hc hN I hi ok hg ht hk he hs z fun L C s' m H' I' q hn f => ?_) fun _ s' hq => wpAny_pure (wpAny_pure hq))
  obtain ⟨g0, g1, _, g3, g4, g5⟩ := f
  show wpAny _ _ (assign (.Name y py) X.env (.ref L)) _ _ _
  refine wpAny_assign_Name (store_ok2 (v := V.ref L) I' hN hy hyl rfl (fun s2 I2 st => ?_) hyf)
  obtain ⟨a, sb, ha⟩ := st
  have apart : C ≠ a := ha.elim (fun z => z ▸ g1) fun z e => g4 y a z e.symm
  exact ⟨m, hn.sameBut sb apart, fun h3 sb3 => ⟨_, H', I2.turned (t' := s2.toks) (fun b o hb e => (sb3.2 b hb).trans e) g0 g1 g3 g4 g5, q⟩⟩
end L2

set_option Elab.async false
set_option linter.all false
set_option maxRecDepth 100000
set_option maxHeartbeats 4000000
/-! A dict that is walked where it is made: locked as soon as it is there. Fractions by people. -/
namespace L2
open PySem PySem.Spec PyProof.Rows
section
variable {X : Cx}
def tLockV (t : TE) : TE := fun σ H Q => t σ H fun x H1 => ∃ d u, x = .ref d ∧ H1 d = some u ∧ Mut (some u) ∧ ∀ od, Q x (upd H1 d (.frz od u))
theorem pe_lockV {e : Expr} {t : TE} (h : PE X e t) : PE X e (tLockV t) := by
  refine ⟨fun pins s σ H Q I hw => thn (h.run pins s σ H _ I hw) fun v s1 ⟨x, H1, I1, r, d, u, ex, hd, mu, q⟩ => ?_⟩
  obtain ⟨od, I2⟩ := I1.lock hd mu
  exact ⟨x, _, I2, r, q od⟩
end
/-- numbers by people -/
def wordsI (zs : List Str) (g : Str → Int) : List (Key × V) := zs.map fun z => (Sum.inr z, V.int (g z))
theorem wordsI_len {zs : List Str} {g : Str → Int} : (wordsI zs g).length = zs.length := List.length_map ..
theorem wordsI_get {g : Str → Int} {b : Str} : ∀ {zs : List Str}, b ∈ zs → valV (wordsI zs g) (Sum.inr b : Key) = some (.int (g b))
  | c :: zs, h => by
    show valV ((Sum.inr c, V.int (g c)) :: wordsI zs g) (Sum.inr b : Key) = _
    by_cases e : c = b
    · subst e
      exact valV_pos rfl
    · rw [valV_neg fun z => e (Sum.inr.inj z)]
      exact wordsI_get ((List.mem_cons.mp h).resolve_left fun z => e z.symm)
theorem nameD_new {zs : List Str} {k : Str → V} {b : Str} (h : b ∉ zs) : valV (zs.map fun z => ((Sum.inr z : Key), k z)) (Sum.inr b : Key) = none := by
  cases hv : valV (zs.map fun z => ((Sum.inr z : Key), k z)) (Sum.inr b : Key) with
  | none => rfl
  | some v =>
    have m := valV_in hv
    rw [List.map_map] at m
    obtain ⟨c, hc, e⟩ := List.mem_map.mp m
    exact absurd hc (by rw [Sum.inr.inj e]; exact h)
/-- a dict of fractions by people -/
def fracE (zs : List Str) (ts : List Addr) : List (Key × V) := (zs.zip ts).map fun p => (Sum.inr p.1, V.ref p.2)
def FracD (H : Hp) (d : Addr) (zs : List Str) (q : Str → Int × Int) : Prop := ∃ ts : List Addr, H d = some (.dK (fracE zs ts)) ∧ Paired (fun z t => H t = some (.tup [.int (q z).1, .int (q z).2])) zs ts
theorem fracE_len {zs : List Str} {ts : List Addr} (h : zs.length = ts.length) : (fracE zs ts).length = zs.length := by
  unfold fracE
  rw [List.length_map, List.length_zip, ← h, Nat.min_self]
theorem fracE_keys {zs : List Str} {ts : List Addr} (h : zs.length = ts.length) : (fracE zs ts).map (·.1) = zs.map fun z => (Sum.inr z : Key) := by
  unfold fracE
  rw [List.map_map]
  have : (zs.zip ts).map (fun p => p.1) = zs := List.map_fst_zip (by omega)
  conv => rhs; rw [← this, List.map_map]
  rfl
theorem fracE_snoc {zs : List Str} {ts : List Addr} {z : Str} {t : Addr} (h : zs.length = ts.length) : fracE (zs ++ [z]) (ts ++ [t]) = fracE zs ts ++ [(Sum.inr z, V.ref t)] := by
  unfold fracE
  rw [List.zip_append h, List.map_append]
  rfl
theorem fracE_get {H : Hp} {q : Str → Int × Int} {b : Str} : ∀ {zs : List Str} {ts : List Addr}, Paired (fun z t => H t = some (.tup [.int (q z).1, .int (q z).2])) zs ts → b ∈ zs → ∃ t, valV (fracE zs ts) (Sum.inr b : Key) = some (.ref t) ∧ H t = some (.tup [.int (q b).1, .int (q b).2])
  | _, _, .nil, h => by cases h
  | c :: zs, t :: ts, .cons hc r, h => by
    by_cases e : c = b
    · subst e
      exact ⟨t, valV_pos rfl, hc⟩
    · obtain ⟨u, hu, h2⟩ := fracE_get r ((List.mem_cons.mp h).resolve_left fun z => e z.symm)
      exact ⟨u, (valV_neg fun z => e (Sum.inr.inj z)).trans hu, h2⟩
theorem FracD.same {H G : Hp} {d : Addr} {zs : List Str} {q : Str → Int × Int} (s : Same H G) (h : FracD H d zs q) : FracD G d zs q := by
  obtain ⟨ts, h1, h2⟩ := h
  exact ⟨ts, s _ _ h1, Paired.mono (fun _ _ e => s _ _ e) h2⟩
theorem dp_frac {K : PySem.W.Frag} {H : Hp} {t : Addr} {a b : Int} (h : H t = some (.tup [.int a, .int b])) : Dp K H (.ref t) (.tuple [.int a, .int b]) := .tup (SqT.of h) (.cons (.int _) (.cons (.int _) .nil))
theorem eqv_frac {a b : Int} : PyData.eqv (.tuple [.int a, .int b]) (.tuple [.int a, .int b]) = true := by simp [PyData.eqv, PyData.eqvAll]
theorem shaped_frac {a b : Int} : SeqAt.shaped (.tuple [.int a, .int b]) = true := by
  simp [SeqAt.shaped, PyData.canLay0, PyData.canLayAll0, PyData.depth, PyData.depthAll]
theorem FracD.eq {K : PySem.W.Frag} {H : Hp} {d e : Addr} {zs : List Str} {q : Str → Int × Int} (h1 : FracD H d zs q) (h2 : FracD H e zs q) : ∃ ks ls, H d = some (.dK ks) ∧ H e = some (.dK ls) ∧ ks.length = ls.length ∧ ∀ p ∈ ks, ∃ u, valV ls p.1 = some u ∧ EqDt K H p.2 u := by
  obtain ⟨ts, e1, p1⟩ := h1
  obtain ⟨us, e2, p2⟩ := h2
  refine ⟨_, _, e1, e2, by rw [fracE_len p1.length, fracE_len p2.length], fun p hp => ?_⟩
  have key : ∀ {zs : List Str} {ts : List Addr}, Paired (fun z t => H t = some (.tup [.int (q z).1, .int (q z).2])) zs ts → ∀ p ∈ fracE zs ts, ∃ z ∈ zs, ∃ t, p = (Sum.inr z, V.ref t) ∧ H t = some (.tup [.int (q z).1, .int (q z).2]) := fun P => by
    induction P with
    | nil => intro p hp; cases hp
    | cons hc r ih =>
      intro p hp
      rcases List.mem_cons.mp hp with e | e
      · exact ⟨_, List.mem_cons_self .., _, e, hc⟩
      · obtain ⟨z, hz, t, e3, e4⟩ := ih p e
        exact ⟨z, List.mem_cons_of_mem _ hz, t, e3, e4⟩
  obtain ⟨z, hz, t, rfl, ht⟩ := key p1 p hp
  obtain ⟨u, hu, hut⟩ := fracE_get p2 hz
  exact ⟨_, hu, .inr ⟨t, u, _, _, rfl, rfl, dp_frac ht, dp_frac hut, shaped_frac, shaped_frac, eqv_frac⟩⟩
end L2

set_option Elab.async false
set_option linter.all false
set_option maxRecDepth 100000
set_option maxHeartbeats 4000000
/-! list(zip(a list, a tuple)). -/
namespace L2
open PySem PySem.Spec PyProof.Rows
section
variable {prog : Program} {w : World} {A : Around} {E : Value → Shared → Prop} {s : Shared} {z TI TO i1 i2 : Addr} {fp1 fp2 : List Addr} {n1 n2 i : Nat} {P1 P2 : Nat → Value → Prop} {St1 St2 : Nat → Heap → Prop} {T : Addr} {f : Bool} {oT : Obj}
theorem zipH_next_item {Q : Value → Shared → Prop} (S : ZipSep2 z TI TO i1 i2 fp1 fp2) (D1 : Draws prog w A i1 fp1 n1 P1 St1) (D2 : Draws prog w A i2 fp2 n2 P2 St2)
    (hz : IsZipHeld s.heap z TI TO T f) (hT : s.heap.get? T = some oT) (hTI : IsTupOf2 s.heap TI (.ref i1) (.ref i2)) (st1 : St1 i s.heap) (st2 : St2 i s.heap) (hlt1 : i < n1) (hlt2 : i < n2)
    (hQ : ∀ x1 x2 h' tk, P1 i x1 → P2 i x2 → IsZipHeld h' z TI TO T true → St1 (i + 1) h' → St2 (i + 1) h' → IsTupOf2 h' s.heap.objs.size x1 x2 → h'.objs.size = s.heap.objs.size + 1 →
      (∀ c o, c ≠ z → c ≠ i1 → c ≠ i2 → s.heap.get? c = some o → h'.get? c = some o) → Q (.ref s.heap.objs.size) { s with heap := h', toks := tk }) :
    wpAny (model prog w) A (Builtin.«zip.__next__» ⟨[.ref z], []⟩) (fun fin s' => ∃ v, fin = .done (.ret v) ∧ Q v s') E s := by
  obtain ⟨hp, g, d, tk0, os⟩ := s
  show wpAny _ _ (field (.ref z) 2 >>= _) _ _ _
  refine wpAny_bind (wpAny_field hz rfl (x := .bool false) rfl ?_)
  show wpAny _ _ (field (.ref z) 3 >>= _) _ _ _
  refine wpAny_bind (wpAny_field hz rfl (x := .ref TI) rfl ?_)
  refine wpAny_bind (wpAny_seqItems hTI rfl ?_)
  show wpAny _ _ (Builtin.SmallTypes.ownedTupleIsFree (.ref z) >>= _) _ _ _
  refine wpAny_bind (wpAny_tupleHeld_zip hz hT fun h₁ hz₁ hs₁ => ?_)
  replace hs₁ : Heap.SameBut z hp h₁ := hs₁
  simp only [Bool.false_eq_true, if_false]
  refine wpAny_bind ?_
  rw [← Array.forIn_toList]
  simp only [List.forIn_cons, List.forIn_nil]
  refine wpAny_bind (wpAny_bind (wpAny_holding ?_))
  show wpAny _ _ (Builtin.SmallTypes.nextOf (.ref i1) >>= _) _ _ ⟨h₁, g, d, tk0, os⟩
  refine wpAny_bind (D1.item i _ _ _ hlt1 (D1.over st1 hs₁ S.zf1) fun x1 p1 tk1 hx1 sn1 hp1 => wpAny_pure ?_)
  replace hp1 : Heap.SameBut i1 h₁ p1 := hp1
  refine wpAny_pure ?_
  refine wpAny_bind (wpAny_bind (wpAny_holding ?_))
  show wpAny _ _ (Builtin.SmallTypes.nextOf (.ref i2) >>= _) _ _ ⟨p1, g, d, tk1, os⟩
  refine wpAny_bind (D2.item i _ _ _ hlt2 (D2.over (D2.over st2 hs₁ S.zf2) hp1 S.sep1_2) fun x2 p2 tk2 hx2 sn2 hp2 => wpAny_pure ?_)
  replace hp2 : Heap.SameBut i2 p1 p2 := hp2
  refine wpAny_pure (wpAny_pure ?_)
  show wpAny _ _ (newTuple [x1, x2] >>= _) _ _ ⟨p2, g, d, tk2, os⟩
  refine wpAny_bind (wpAny_newTuple ?_)
  have hsz : p2.objs.size = hp.objs.size := by rw [hp2.1, hp1.1, hs₁.1]
  have hz2 : IsZipHeld p2 z TI TO T true := hp2.extBut _ _ S.zi2 (hp1.extBut _ _ S.zi1 hz₁)
  have up : ∀ c o, p2.get? c = some o → (p2.push { cls := .type "tuple", data := .seq #[x1, x2] }).get? c = some o := fun c o e => Heap.get?_push_of_some _ e
  refine wpAny_pure ⟨_, rfl, ?_⟩
  show Q (.ref p2.objs.size) ⟨p2.push { cls := .type "tuple", data := .seq #[x1, x2] }, g, d, tk2, os⟩
  have hp : IsTupOf2 (p2.push { cls := .type "tuple", data := .seq #[x1, x2] }) p2.objs.size x1 x2 := Heap.get?_push_size _ rfl
  have hz4 : (p2.push { cls := .type "tuple", data := .seq #[x1, x2] }).objs.size = p2.objs.size + 1 := Heap.size_push ..
  have f1 : St1 (i + 1) (p2.push { cls := .type "tuple", data := .seq #[x1, x2] }) := D1.frame _ _ _ (D1.over sn1 hp2 S.sep2_1) fun b _ o e => up b o e
  have f2 : St2 (i + 1) (p2.push { cls := .type "tuple", data := .seq #[x1, x2] }) := D2.frame _ _ _ sn2 fun b _ o e => up b o e
  generalize p2.push { cls := .type "tuple", data := .seq #[x1, x2] } = p3 at up hp hz4 f1 f2
  rw [hsz] at hp hz4 ⊢
  exact hQ x1 x2 p3 tk2 hx1 hx2 (up _ _ hz2) f1 f2 hp hz4 fun c o c1 c2 c3 e => up _ _ (hp2.extBut _ _ c3 (hp1.extBut _ _ c2 (hs₁.extBut _ _ c1 e)))
theorem zipH_next_end {Q : Fin → Shared → Prop} (S : ZipSep2 z TI TO i1 i2 fp1 fp2) (D1 : Draws prog w A i1 fp1 n1 P1 St1) (D2 : Draws prog w A i2 fp2 n2 P2 St2)
    (hz : IsZipHeld s.heap z TI TO T f) (hT : s.heap.get? T = some oT) (hTI : IsTupOf2 s.heap TI (.ref i1) (.ref i2)) (st1 : St1 i s.heap) (st2 : St2 i s.heap) (hle1 : i ≤ n1) (hle2 : i ≤ n2) (hend : i = n1 ∨ i = n2)
    (hE : ∀ h' tk e, (∀ c o, c ≠ z → c ≠ i1 → c ≠ i2 → s.heap.get? c = some o → h'.get? c = some o) → (∃ o, h'.get? e = some o ∧ o.cls = .type "StopIteration") → E (.ref e) { s with heap := h', toks := tk }) :
    wpAny (model prog w) A (Builtin.«zip.__next__» ⟨[.ref z], []⟩) Q E s := by
  obtain ⟨hp, g, d, tk0, os⟩ := s
  show wpAny _ _ (field (.ref z) 2 >>= _) _ _ _
  refine wpAny_bind (wpAny_field hz rfl (x := .bool false) rfl ?_)
  show wpAny _ _ (field (.ref z) 3 >>= _) _ _ _
  refine wpAny_bind (wpAny_field hz rfl (x := .ref TI) rfl ?_)
  refine wpAny_bind (wpAny_seqItems hTI rfl ?_)
  show wpAny _ _ (Builtin.SmallTypes.ownedTupleIsFree (.ref z) >>= _) _ _ _
  refine wpAny_bind (wpAny_tupleHeld_zip hz hT fun h₁ hz₁ hs₁ => ?_)
  replace hs₁ : Heap.SameBut z hp h₁ := hs₁
  simp only [Bool.false_eq_true, if_false]
  refine wpAny_bind ?_
  rw [← Array.forIn_toList]
  simp only [List.forIn_cons, List.forIn_nil]
  refine wpAny_bind (wpAny_bind (wpAny_holding ?_))
  show wpAny _ _ (Builtin.SmallTypes.nextOf (.ref i1) >>= _) _ _ ⟨h₁, g, d, tk0, os⟩
  by_cases hlt1 : i < n1
  · refine wpAny_bind (D1.item i _ _ _ hlt1 (D1.over st1 hs₁ S.zf1) fun x1 p1 tk1 hx1 sn1 hp1 => wpAny_pure ?_)
    replace hp1 : Heap.SameBut i1 h₁ p1 := hp1
    have hi2 : i = n2 := by omega
    refine wpAny_pure ?_
    refine wpAny_bind (wpAny_bind (wpAny_holding ?_))
    show wpAny _ _ (Builtin.SmallTypes.nextOf (.ref i2) >>= _) _ _ ⟨p1, g, d, tk1, os⟩
    refine wpAny_bind (D2.done ⟨p1, g, d, tk1, os⟩ _ _ (by rw [← hi2]; exact D2.over (D2.over st2 hs₁ S.zf2) hp1 S.sep1_2) fun q e hq he => ?_)
    replace hq : Heap.ExtBut i2 p1 q := hq
    exact hE q tk1 e (fun c o cz c1 c2 x => hq _ _ c2 (hp1.extBut _ _ c1 (hs₁.extBut _ _ cz x))) he
  · have hi1 : i = n1 := by omega
    refine wpAny_bind (D1.done ⟨h₁, g, d, tk0, os⟩ _ _ (by rw [← hi1]; exact D1.over st1 hs₁ S.zf1) fun q e hq he => ?_)
    replace hq : Heap.ExtBut i1 h₁ q := hq
    exact hE q tk0 e (fun c o cz c1 c2 x => hq _ _ c1 (hs₁.extBut _ _ cz x)) he
/-- a zip, before its first turn or with a tuple out -/
def ZipSt (h : Heap) (z TI TO : Addr) : Prop := (IsZip h z TI TO .none ∧ ∃ x y, IsTupOf2 h TO x y) ∨ ∃ T f oT, IsZipHeld h z TI TO T f ∧ h.get? T = some oT ∧ T ≠ z
theorem zipA_item {Q : Option Value → Shared → Prop} (S : ZipSep2 z TI TO i1 i2 fp1 fp2) (D1 : Draws prog w A.in1 i1 fp1 n1 P1 St1) (D2 : Draws prog w A.in1 i2 fp2 n2 P2 St2)
    (hz : ZipSt s.heap z TI TO) (hTI : IsTupOf2 s.heap TI (.ref i1) (.ref i2)) (st1 : St1 i s.heap) (st2 : St2 i s.heap) (hlt1 : i < n1) (hlt2 : i < n2)
    (hQ : ∀ x1 x2 h' tk T f, P1 i x1 → P2 i x2 → IsZipHeld h' z TI TO T f → (∃ oT, h'.get? T = some oT) → T ≠ z → St1 (i + 1) h' → St2 (i + 1) h' → IsTupOf2 h' s.heap.objs.size x1 x2 → h'.objs.size = s.heap.objs.size + 1 →
      (∀ c o, c ≠ z → c ≠ TO → c ≠ i1 → c ≠ i2 → s.heap.get? c = some o → h'.get? c = some o) → Q (some (.ref s.heap.objs.size)) { s with heap := h', toks := tk }) :
    wpAny (model prog w) A (pyNext (.ref z)) Q E s := by
  rcases hz with ⟨hz, x, y, hTO⟩ | ⟨T, f, oT, hz, hT, nT⟩
  · refine wpAny_pyNext_zipD2_item S D1 D2 hz hTI hTO st1 st2 hlt1 hlt2 fun x1 x2 h' tk y1 y2 b1 b2 d1 d2 b5 b6 b7 => ?_
    exact hQ x1 x2 h' tk s.heap.objs.size false y1 y2 b1 ⟨_, b5⟩ (Nat.ne_of_gt (Heap.lt_size hz)) d1 d2 b5 b6 b7
  · have hTy : s.TypeIs (.ref z) "zip" := ⟨_, hz, rfl⟩
    unfold pyNext
    refine wpAny_bind (wpAny_attempt (wpAny_callSpecial?_slot (name := Str.ofString "__next__") hTy F.slot_zip_next
      (wpAny_call_entry F.slot_zip_next hTy F.entry_zip_next
        (zipH_next_item S D1 D2 hz hT hTI st1 st2 hlt1 hlt2 fun x1 x2 h' tk y1 y2 b1 d1 d2 b5 b6 b7 => wpAny_pure ?_) (F.args_zip_next_1 _))))
    have tl : ∃ oT, h'.get? T = some oT := by
      by_cases e1 : T = i1
      · subst e1
        exact D1.live _ _ d1
      · by_cases e2 : T = i2
        · subst e2
          exact D2.live _ _ d2
        · exact ⟨_, b7 _ _ nT e1 e2 hT⟩
    exact hQ x1 x2 h' tk T true y1 y2 b1 tl nT d1 d2 b5 b6 fun c o c1 _ c3 c4 e => b7 c o c1 c3 c4 e
theorem zipA_end {Q : Option Value → Shared → Prop} (S : ZipSep2 z TI TO i1 i2 fp1 fp2) (D1 : Draws prog w A.in1 i1 fp1 n1 P1 St1) (D2 : Draws prog w A.in1 i2 fp2 n2 P2 St2)
    (hz : ZipSt s.heap z TI TO) (hTI : IsTupOf2 s.heap TI (.ref i1) (.ref i2)) (st1 : St1 i s.heap) (st2 : St2 i s.heap) (hle1 : i ≤ n1) (hle2 : i ≤ n2) (hend : i = n1 ∨ i = n2)
    (hQ : ∀ h' tk, (∀ c o, c ≠ z → c ≠ TO → c ≠ i1 → c ≠ i2 → s.heap.get? c = some o → h'.get? c = some o) → Q none { s with heap := h', toks := tk }) :
    wpAny (model prog w) A (pyNext (.ref z)) Q E s := by
  rcases hz with ⟨hz, x, y, hTO⟩ | ⟨T, f, oT, hz, hT, nT⟩
  · exact wpAny_pyNext_zipD2_end S D1 D2 hz hTI hTO st1 st2 hle1 hle2 hend hQ
  · have hTy : s.TypeIs (.ref z) "zip" := ⟨_, hz, rfl⟩
    unfold pyNext
    refine wpAny_bind (wpAny_attempt (wpAny_callSpecial?_slot (name := Str.ofString "__next__") hTy F.slot_zip_next
      (wpAny_call_entry F.slot_zip_next hTy F.entry_zip_next (zipH_next_end S D1 D2 hz hT hTI st1 st2 hle1 hle2 hend fun h' tk e hk he => ?_) (F.args_zip_next_1 _))))
    obtain ⟨o, ho, hc⟩ := he
    refine wpAny_bind (wpAny_isInstance (T := "StopIteration") (b := true) ⟨o, ho, hc⟩ isSubtype_stop ?_)
    exact wpAny_pure (hQ _ _ fun c o c1 _ c3 c4 e => hk c o c1 c3 c4 e)
theorem nolen_zip : typeLookup (.type "zip") "__len__" = pure none := by rw [typeLookup_type, builtinLookup_eq_fast]; kernel_rfl
theorem nohint_zip : typeLookup (.type "zip") "__length_hint__" = pure none := by rw [typeLookup_type, builtinLookup_eq_fast]; kernel_rfl
theorem hint_zip {Q : Bool → Shared → Prop} (hT : s.TypeIs (.ref z) "zip") (h : Q true s) : wpAny (model prog w) A (Builtin.List.listLengthHint (.ref z)) Q E s := by
  unfold Builtin.List.listLengthHint
  refine wpAny_bind (wpAny_specialOf hT nolen_zip ?_)
  show wpAny _ A (specialOf (Value.ref z) (Str.ofString "__length_hint__") >>= _) _ _ _
  refine wpAny_bind (wpAny_specialOf hT nohint_zip ?_)
  exact wpAny_pure h
end

def PairsL (H : Hp) (ts : List Addr) (ps : List (V × V)) : Prop := Paired (fun t p => H t = some (.tup [p.1, p.2])) ts ps
theorem PairsL.mono {H G : Hp} {ts : List Addr} {ps : List (V × V)} (h : PairsL H ts ps) (k : ∀ t x y, H t = some (.tup [x, y]) → G t = some (.tup [x, y])) : PairsL G ts ps := Paired.mono (fun _ _ e => k _ _ _ e) h
section
variable {X : Cx} {pins : List (Addr × Obj)} {σ : St} {A A1 : Around}
/-- how the cells of the zip stand -/
structure ZipRun (X : Cx) (pins : List (Addr × Obj)) (H : Hp) (h : Heap) (z TI TO i1 i2 a b : Addr) (i : Nat) : Prop where
  fp : ∀ c ∈ zipFp z TI TO i1 i2, FpOk X pins H c ∧ c < h.objs.size
  zip : ZipSt h z TI TO
  ti : IsTupOf2 h TI (.ref i1) (.ref i2)
  one : h.IsListIter i1 a i
  two : h.IsTupleIter i2 b i
theorem ZipSt.ty {s : Shared} {z TI TO : Addr} (h : ZipSt s.heap z TI TO) : s.TypeIs (.ref z) "zip" := by
  rcases h with ⟨h, _⟩ | ⟨_, _, _, h, _⟩ <;> exact ⟨_, h, rfl⟩
theorem ZipRun.but {H G : Hp} {h h' : Heap} {z TI TO i1 i2 a b q : Addr} {i : Nat} {oq : Obj} (r : ZipRun X pins H h z TI TO i1 i2 a b i) (nq : ∀ c ∈ zipFp z TI TO i1 i2, c ≠ q) (sb : ∀ c o, c ≠ q → h.get? c = some o → h'.get? c = some o) (sz : h.objs.size ≤ h'.objs.size) (lq : h'.get? q = some oq)
    (hG : ∀ c ∈ zipFp z TI TO i1 i2, G c = none) : ZipRun X pins G h' z TI TO i1 i2 a b i := by
  have m : ∀ {c}, (c = z ∨ c = TI ∨ c = TO ∨ c = i1 ∨ c = i2) → c ≠ q := fun e => nq _ (zipFp_mem.mpr e)
  refine ⟨fun c hc => ⟨⟨hG c hc, (r.fp c hc).1.2⟩, Nat.lt_of_lt_of_le (r.fp c hc).2 sz⟩, ?_, sb _ _ (m (.inr (.inl rfl))) r.ti, r.one.at fun o e => sb _ _ (m (.inr (.inr (.inr (.inl rfl))))) e, r.two.at fun o e => sb _ _ (m (.inr (.inr (.inr (.inr rfl))))) e⟩
  rcases r.zip with ⟨hz, x, y, hTO⟩ | ⟨T, f, oT, hz, hT, nT⟩
  · exact .inl ⟨sb _ _ (m (.inl rfl)) hz, x, y, sb _ _ (m (.inr (.inr (.inl rfl)))) hTO⟩
  · by_cases e : T = q
    · subst e
      exact .inr ⟨T, f, _, sb _ _ (m (.inl rfl)) hz, lq, nT⟩
    · exact .inr ⟨T, f, oT, sb _ _ (m (.inl rfl)) hz, sb _ _ e hT, nT⟩
theorem take_snocP {α : Type} {l : List α} {i : Nat} {x : α} (h : l[i]? = some x) : l.take (i + 1) = l.take i ++ [x] := by
  rw [List.take_add_one, h]
  rfl
theorem zip_fill {q z TI TO i1 i2 a b : Addr} {xs ys : List V} {H0 : Hp} {Rs : Result → Shared → Prop} (hh : A1.in1.handled = none) (na : a ≠ i1) (nb : b ≠ i2) (S : ZipSep2 z TI TO i1 i2 [i1, a] [i2, b])
    (qa : H0 a = some (.lst xs)) (qb : H0 b = some (.tup ys)) (aq : a ≠ q) (bq : b ≠ q) (hsz : xs.length < sizeLine)
    (fin : ∀ H2 s2 ts, Inv X pins σ H2 s2 → H2 q = some (.lst (ts.map V.ref)) → PairsL H2 ts (xs.zip ys) → (∀ c o, c ≠ q → H0 c = some o → H2 c = some o) → Rs (.ok (.ret .none)) s2) :
    ∀ (k i : Nat) (H : Hp) (s : Shared) (ts : List Addr), i + k = (xs.zip ys).length → Inv X pins σ H s → ZipRun X pins H s.heap z TI TO i1 i2 a b i → H q = some (.lst (ts.map V.ref)) → PairsL H ts ((xs.zip ys).take i) → (∀ c o, c ≠ q → H0 c = some o → H c = some o) →
      codeAny (model X.prog X.w) A1 (.builtin "list.extend.loop" ⟨[.ref q, .ref z, .none], []⟩) Rs s := by
  intro k
  have zl : (xs.zip ys).length = min xs.length ys.length := List.length_zip
  have hh1 : A1.in1.in1.handled = none := hh
  induction k with
  | zero =>
    intro i H s ts hi I R hq hp hk
    have ei : i = (xs.zip ys).length := hi
    rw [ei, List.take_length] at hp
    refine codeAny_builtin PySem.F.entry_extend_loop ?_
    rw [Around.under_plainId PySem.F.plain_extend_loop _]
    obtain ⟨its, rv, p, _⟩ := I.list (SqL.of (hk _ _ aq qa))
    obtain ⟨its2, rv2, p2, _⟩ := I.tuple (SqT.of (hk _ _ bq qb))
    have l1 : xs.length = its.toArray.size := by rw [rv.length, List.size_toArray]
    have l2 : ys.length = its2.toArray.size := by rw [rv2.length, List.size_toArray]
    have notin : ∀ {c : Addr}, c ∉ zipFp z TI TO i1 i2 → c ≠ z ∧ c ≠ TO ∧ c ≠ i1 ∧ c ≠ i2 := fun n => ⟨fun e => n (zipFp_mem.mpr (.inl e)), fun e => n (zipFp_mem.mpr (.inr (.inr (.inl e)))), fun e => n (zipFp_mem.mpr (.inr (.inr (.inr (.inl e))))), fun e => n (zipFp_mem.mpr (.inr (.inr (.inr (.inr e)))))⟩
    show wpAny _ A1.in1 (pyNext (.ref z) >>= _) _ _ s
    refine wpAny_bind (zipA_end (i := i) S (Draws.list (prog := X.prog) (w := X.w) (A := A1.in1.in1) hh1 i1 a na its.toArray) (Draws.tuple (prog := X.prog) (w := X.w) (A := A1.in1.in1) hh1 i2 b nb its2.toArray) R.zip R.ti ⟨R.one, p.isList⟩ ⟨R.two, p2⟩ (by omega) (by omega) (by omega) fun h' tk hk' => ?_)
    refine wpAny_pure (fin H _ ts (I.turnedL (t' := tk) (ch := zipFp z TI TO i1 i2) (fun c o n e => hk' c o (notin n).1 (notin n).2.1 (notin n).2.2.1 (notin n).2.2.2 e) fun c hc => (R.fp c hc).1) hq hp hk)
  | succ k ih =>
    intro i H s ts hi I R hq hp hk
    have lt : i < (xs.zip ys).length := by omega
    refine codeAny_builtin PySem.F.entry_extend_loop ?_
    rw [Around.under_plainId PySem.F.plain_extend_loop _]
    obtain ⟨its, rv, p, _⟩ := I.list (SqL.of (hk _ _ aq qa))
    obtain ⟨its2, rv2, p2, _⟩ := I.tuple (SqT.of (hk _ _ bq qb))
    have hx := List.getElem?_eq_getElem (l := xs) (i := i) (by omega)
    have hy := List.getElem?_eq_getElem (l := ys) (i := i) (by omega)
    have hxy : (xs.zip ys)[i]? = some (xs[i]'(by omega), ys[i]'(by omega)) := by
      rw [List.getElem?_eq_getElem lt, List.getElem_zip]
    generalize xs[i]'(by omega) = x at hx hxy
    generalize ys[i]'(by omega) = y at hy hxy
    obtain ⟨u, hu, ru⟩ := rv.get hx
    obtain ⟨u2, hu2, ru2⟩ := rv2.get hy
    have lt1 := (List.getElem?_eq_some_iff.mp hu).1
    have lt2 := (List.getElem?_eq_some_iff.mp hu2).1
    have notin : ∀ {c : Addr}, c ∉ zipFp z TI TO i1 i2 → c ≠ z ∧ c ≠ TO ∧ c ≠ i1 ∧ c ≠ i2 := fun n => ⟨fun e => n (zipFp_mem.mpr (.inl e)), fun e => n (zipFp_mem.mpr (.inr (.inr (.inl e)))), fun e => n (zipFp_mem.mpr (.inr (.inr (.inr (.inl e))))), fun e => n (zipFp_mem.mpr (.inr (.inr (.inr (.inr e)))))⟩
    show wpAny _ A1.in1 (pyNext (.ref z) >>= _) _ _ s
    refine wpAny_bind (zipA_item (i := i) S (Draws.list (prog := X.prog) (w := X.w) (A := A1.in1.in1) hh1 i1 a na its.toArray) (Draws.tuple (prog := X.prog) (w := X.w) (A := A1.in1.in1) hh1 i2 b nb its2.toArray) R.zip R.ti ⟨R.one, p.isList⟩ ⟨R.two, p2⟩ (by simpa using lt1) (by simpa using lt2) fun v1 v2 h' tk T f q1 q2 z' hTl nT s1 s2 hT hsz' hk' => ?_)
    have ev1 : v1 = u := by
      have : its[i]? = some v1 := by simpa using q1
      rw [hu] at this
      exact (Option.some.inj this).symm
    have ev2 : v2 = u2 := by
      have : its2[i]? = some v2 := by simpa using q2
      rw [hu2] at this
      exact (Option.some.inj this).symm
    subst ev1 ev2
    have free : H s.heap.objs.size = none := I.hok.fresh (Nat.le_refl _)
    have new : ObjOk X.prog X.w (upd H s.heap.objs.size (.tup [x, y])) h' s.heap.objs.size (.tup [x, y]) :=
      ⟨by show 2 ≤ sizeLine; decide, [v1, v2], .cons ru (.cons ru2 .nil), ⟨_, hT, rfl, _, rfl⟩⟩
    have I1 : Inv X pins σ (upd H s.heap.objs.size (.tup [x, y])) { s with heap := h', toks := tk } :=
      I.turnedNew (t' := tk) (ch := zipFp z TI TO i1 i2) (fun c o n e => hk' c o (notin n).1 (notin n).2.1 (notin n).2.2.1 (notin n).2.2.2 e) (fun c hc => (R.fp c hc).1) (Nat.le_refl _) new
    have qn : q ≠ s.heap.objs.size := ne_of_none hq free
    have hq1 : upd H s.heap.objs.size (.tup [x, y]) q = some (.lst (ts.map V.ref)) := by rw [upd_ne qn]; exact hq
    obtain ⟨_, its3, c3, r3, len3, e3⟩ := I1.lstM hq1
    have lts : ts.length = i := by
      have := Paired.length hp
      rw [List.length_take] at this
      omega
    have l3 : its3.length = i := by rw [← r3.length, List.length_map]; exact lts
    refine wpAny_bind (m := updateSeq q (·.push (Value.ref s.heap.objs.size))) (wpAny_updateSeq (s := { s with heap := h', toks := tk }) e3 rfl ?_ (by rw [List.size_toArray]; omega) (by show (its3.toArray.push _).size ≤ sizeLine + 1; rw [Array.size_push, List.size_toArray]; omega))
    have I2 := I1.lset (f := (·.push (Value.ref s.heap.objs.size))) (its' := its3 ++ [Value.ref s.heap.objs.size]) (ys := ts.map V.ref ++ [V.ref s.heap.objs.size]) (t' := tk) hq1 e3 (by simp) (r3.append (.cons rfl .nil)) (by rw [List.length_append, List.length_singleton, List.length_map]; omega)
    have lq := Heap.get?_update_self (Obj.mapSeq (·.push (Value.ref s.heap.objs.size))) e3 rfl
    have sb := Heap.SameBut.update h' q (Obj.mapSeq (·.push (Value.ref s.heap.objs.size)))
    refine wpAny_pure ⟨plainId_quiet PySem.F.plain_extend_loop _, ih (i + 1) _ _ (ts ++ [s.heap.objs.size]) (by omega) I2 ?_ ?_ ?_ fun c o c1 e => ?_⟩
    · have fpn : ∀ c ∈ zipFp z TI TO i1 i2, c ≠ q ∧ c ≠ s.heap.objs.size := fun c hc => by
        refine ⟨fun e => ?_, Nat.ne_of_lt (R.fp c hc).2⟩
        have h0 := (R.fp c hc).1.1
        rw [e, hq] at h0
        cases h0
      have R1 : ZipRun X pins (upd H s.heap.objs.size (.tup [x, y])) h' z TI TO i1 i2 a b (i + 1) := by
        obtain ⟨oT, hoT⟩ := hTl
        refine ⟨fun c hc => ⟨⟨by rw [upd_ne (fpn c hc).2]; exact (R.fp c hc).1.1, (R.fp c hc).1.2⟩, by rw [hsz']; exact Nat.lt_succ_of_lt (R.fp c hc).2⟩, .inr ⟨T, f, oT, z', hoT, nT⟩, hk' _ _ S.TIz S.TITO S.TIi1 S.TIi2 R.ti, s1.1, s2.1⟩
      refine R1.but (fun c hc => (fpn c hc).1) (fun c o n e => sb.extBut c o n e) (Nat.le_of_eq sb.1.symm) lq fun c hc => ?_
      rw [upd_ne (fpn c hc).1, upd_ne (fpn c hc).2]
      exact (R.fp c hc).1.1
    · rw [upd_same, List.map_append]
      rfl
    · rw [take_snocP hxy]
      have tq : ∀ {t : Addr} {o : List V}, H t = some (.tup o) → t ≠ q := fun e z => by
        rw [z, hq] at e
        cases e
      refine Paired.snoc (hp.mono fun t x y e => ?_) ?_
      · rw [upd_ne (tq e), upd_ne (ne_of_none e free)]
        exact e
      · rw [upd_ne (Ne.symm qn), upd_same]
    · have := hk _ _ c1 e
      rw [upd_ne c1, upd_ne (ne_of_none this free)]
      exact this
/-- room is made in an empty list -/
theorem touch_ownH {s : Shared} {H : Hp} {q : Addr} {E' : Value → Shared → Prop} {Q : Unit → Shared → Prop} (I : Inv X pins σ H s) (hq : H q = some (.lst [])) (h : ∀ h2 tk, Inv X pins σ H { s with heap := h2, toks := tk } → Heap.SameBut q s.heap h2 → Q () { s with heap := h2, toks := tk }) :
    wpAny (model X.prog X.w) A (updateSeq q (·.push .none) >>= fun _ => updateSeq q (·.pop)) Q E' s := by
  obtain ⟨_, its, c, r, _, e⟩ := I.lstM hq
  cases r
  have one : 1 ≤ sizeLine := by rw [sizeLine_eq]; decide
  have I1 := I.lset (f := (·.push Value.none)) (its' := [Value.none]) (ys := [.non]) (t' := s.toks) hq e (by simp) (.cons rfl .nil) one
  refine wpAny_bind (wpAny_updateSeq e rfl ?_)
  obtain ⟨_, its2, c2, r2, _, e2⟩ := I1.lstM upd_same
  obtain ⟨v, rfl, _⟩ := vals1 r2
  have I2 := I1.lset (f := (·.pop)) (its := [v]) (its' := []) (ys := []) (t' := s.toks) upd_same e2 (by rfl) .nil (Nat.zero_le _)
  have us : upd H q (.lst []) = H := by
    funext b
    by_cases e : b = q
    · rw [e, upd_same, hq]
    · rw [upd_ne e]
  rw [upd_upd, us] at I2
  have b1 := Heap.SameBut.update s.heap q (Obj.mapSeq (·.push Value.none))
  have b2 := Heap.SameBut.update (s.heap.update q (Obj.mapSeq (·.push Value.none))) q (Obj.mapSeq (·.pop))
  exact wpAny_updateSeq e2 rfl (h _ _ I2 ⟨b2.1.trans b1.1, fun b n => (b2.2 b n).trans (b1.2 b n)⟩) one (Nat.zero_le _)
theorem call_listZ {s : Shared} {H : Hp} {z TI TO i1 i2 a b : Addr} {xs ys : List V} {Q : VK} (hh : X.A.handled = none) (na : a ≠ i1) (nb : b ≠ i2) (S : ZipSep2 z TI TO i1 i2 [i1, a] [i2, b]) (I : Inv X pins σ H s) (R : ZipRun X pins H s.heap z TI TO i1 i2 a b 0) (hz : IsZip s.heap z TI TO .none)
    (qa : H a = some (.lst xs)) (qb : H b = some (.tup ys)) (hsz : xs.length < sizeLine)
    (h : ∀ G q ts, Same H G → H q = none → G q = some (.lst (ts.map V.ref)) → PairsL G ts (xs.zip ys) → Q (.ref q) G) :
    wpAny (model X.prog X.w) X.A (call (.type "list") [.ref z]) (EP X pins σ Q) X.xe s := by
  refine callType_codes (Q₁ := fun o s1 => o = .ref s.heap.objs.size ∧ s1 = { s with heap := s.heap.push { cls := .type "list", data := .seq #[] } }) PySem.F.called_list (PySem.F.typeCall_list_1 _) PySem.F.entry_list_init (code_list_new _ ⟨rfl, rfl⟩) fun o s1 h1 => ?_
  obtain ⟨rfl, rfl⟩ := h1
  have there : (s.heap.push { cls := .type "list", data := .seq #[] }).get? s.heap.objs.size = some { cls := .type "list", data := .seq #[] } := Heap.get?_push_size _ rfl
  refine ⟨⟨_, there, rfl⟩, PySem.F.args_list_init_2 _ _, ?_⟩
  have nq : H s.heap.objs.size = none := I.hok.fresh (Nat.le_refl _)
  have old : ∀ b o, H b = some o → upd H s.heap.objs.size (.lst []) b = some o := same_new nq
  have nz : ∀ c ∈ zipFp z TI TO i1 i2, c ≠ s.heap.objs.size := fun c hc => Nat.ne_of_lt (R.fp c hc).2
  show wpAny _ _ (Builtin.List.listItems (.ref s.heap.objs.size) >>= fun zz => updateSeq s.heap.objs.size (fun _ => #[]) >>= fun _ => letGo zz.toList.reverse >>= fun _ => Builtin.List.listExtendWith (.ref s.heap.objs.size) (.ref z) .none) _ _ _
  refine wpAny_bind (m := Builtin.List.listItems _) ?_
  have I1 : Inv X pins σ (upd H s.heap.objs.size (.lst [])) { s with heap := s.heap.push { cls := .type "list", data := .seq #[] } } := I.lnew (its := []) (t' := s.toks) .nil (Nat.zero_le _)
  have hG : ∀ c ∈ zipFp z TI TO i1 i2, upd H s.heap.objs.size (.lst []) c = none := fun c hc => by
    rw [upd_ne (nz c hc)]
    exact (R.fp c hc).1.1
  have R1 : ZipRun X pins (upd H s.heap.objs.size (.lst [])) (s.heap.push { cls := .type "list", data := .seq #[] }) z TI TO i1 i2 a b 0 :=
    R.but nz (fun c o _ e => Heap.get?_push_of_some _ e) (by rw [Heap.size_push]; omega) there hG
  unfold Builtin.List.listItems
  refine wpAny_bind (wpAny_seqItems there rfl (wpAny_pure (wpAny_bind (wpAny_updateSeq there rfl (wpAny_bind (wpAny_letGo ?_))))))
  have I2 := I1.lset (f := fun _ => #[]) (its := []) (its' := []) (ys := []) (t' := s.toks) upd_same there rfl .nil (Nat.zero_le _)
  rw [upd_upd] at I2
  have lq := Heap.get?_update_self (Obj.mapSeq (fun _ => #[])) there rfl
  have sb := Heap.SameBut.update (s.heap.push { cls := .type "list", data := .seq #[] }) s.heap.objs.size (Obj.mapSeq (fun _ => #[]))
  have R2 := R1.but nz (fun c o n e => sb.extBut c o n e) (Nat.le_of_eq sb.1.symm) lq hG
  have hz0 := sb.extBut _ _ (nz z (zipFp_mem.mpr (.inl rfl))) (Heap.get?_push_of_some { cls := .type "list", data := .seq #[] } hz)
  generalize (s.heap.push { cls := .type "list", data := .seq #[] }).update s.heap.objs.size (Obj.mapSeq (fun _ => #[])) = h2 at I2 R2 hz0
  generalize hQ : s.heap.objs.size = q at *
  have qz : q ≠ z := Ne.symm (nz z (zipFp_mem.mpr (.inl rfl)))
  unfold Builtin.List.listExtendWith
  refine wpAny_bind (wpAny_typeOf (T := "zip") (R2.zip.ty (s := { s with heap := h2 })) ?_)
  have g1 : Builtin.List.listSameRef (.ref q) (.ref z) = false := by simp [Builtin.List.listSameRef, qz]
  have g2 : (Value.type "zip" == Value.type "list" || Value.type "zip" == Value.type "tuple") = false := by decide
  refine PySem.W.KFB.if_not (by rw [g1]; exact g2) ?_
  refine wpAny_bind (wpAny_pyIter_zip hz0 ?_)
  refine wpAny_bind (wpAny_holding (hint_zip (R2.zip.ty (s := { s with heap := h2 })) ?_))
  refine wpAny_ite_split (fun _ => ?_) (fun zz => absurd rfl zz)
  refine wpAny_bind (wpAny_rule ?_)
  refine wpAny_bind (touch_ownH I2 upd_same fun h3 tk I3 sb3 => ?_)
  obtain ⟨_, _, _, _, _, e9⟩ := I3.lstM upd_same
  have R3 := R2.but nz (fun c o n e => sb3.extBut c o n e) (Nat.le_of_eq sb3.1.symm) e9 hG
  have aq : a ≠ q := ne_of_none qa nq
  have bq : b ≠ q := ne_of_none qb nq
  refine wpAny_pure ⟨plainId_quiet PySem.F.plain_extend_loop _, zip_fill (A1 := X.A.in1) (H0 := H) (Rs := wants (fun r s2 => r = .none ∧ EP X pins σ Q (.ref q) s2) X.xe) hh na nb S qa qb aq bq hsz (fun G s4 ts I4 hq4 hp4 hk4 => ?_) (xs.zip ys).length 0 _ _ [] (Nat.zero_add _) I3 R3 upd_same .nil fun c o _ e => old c o e⟩
  exact ⟨rfl, .ref q, G, I4, rfl, h G q ts (fun c o e => hk4 c o (ne_of_none e nq) e) nq hq4 hp4⟩
def tListZip (ta : TA) : TE := fun σ H Q => ta σ H fun vs H1 => ∃ a b xs ys, vs = [.ref a, .ref b] ∧ H1 a = some (.lst xs) ∧ H1 b = some (.tup ys) ∧ xs.length < sizeLine ∧ ∀ G q ts, Same H1 G → H1 q = none → G q = some (.lst (ts.map V.ref)) → PairsL G ts (xs.zip ys) → Q (.ref q) G
/-- list(zip(a list, a tuple)) -/
theorem pe_listZip {e e2 : Expr} {ta : TA} {p p2 pos pos2 : Pos} (hc : X.calm = true) (hgl : Gl X "list") (hml : X.mg "list" = none) (hg : Gl X "zip") (hm : X.mg "zip" = none) (ha : PA X [e, e2] ta)
    (hs : starEach [e, e2] X.env = (false, eval e X.env) :: starEach [e2] X.env := by rfl) (hpl : (backTo pos2 (starEach [e2] X.env)).any (·.1) = false := by rfl)
    (hst : starEach [.Call (.Name "zip" p2) [e, e2] [] pos2] X.env = (false, eval (.Call (.Name "zip" p2) [e, e2] [] pos2) X.env) :: starEach [] X.env := by rfl) :
    PE X (.Call (.Name "list" p) [.Call (.Name "zip" p2) [e, e2] [] pos2] [] pos) (tListZip ta) := by
  refine ⟨fun pins s σ H Q I h => ?_⟩
  refine wpAny_Call_Name_kw (ld_blt I hgl hml boot_list ?_)
  refine PyProof.Rows.callWith_type1 ?_ hst rfl
  rw [hst]
  show wpAny _ _ (spliced ((false, eval (.Call (.Name "zip" p2) [e, e2] [] pos2) X.env) :: backTo pos (starEach [] X.env))) _ _ s
  refine Calls.spliced_cons ?_
  refine Call_ (ld_blt I hg hm PyProof.Rows.boot_zip (PyProof.Rows.callWith_type1 (thn (ha.run pos2 pins s σ H _ I h) fun us s1 ⟨vs, H1, I1, r1, q1⟩ => ?_) hs hpl))
  obtain ⟨a, b, xs, ys, rfl, hqx, hqy, hsz, q⟩ := q1
  cases r1 with
  | cons ra rr =>
    cases rr with
    | cons rb rr =>
      cases rr
      cases ra
      cases rb
      obtain ⟨its, rv, p1, _⟩ := I1.list (SqL.of hqx)
      obtain ⟨its2, rv2, p2, _⟩ := I1.tuple (SqT.of hqy)
      obtain ⟨o2, ho2, _⟩ := id p2
      have la : a < s1.heap.objs.size := p1.lt
      have lb : b < s1.heap.objs.size := Heap.lt_size ho2
      refine zip_begins2 (begins_list a its.toArray) (begins_tuple b its2.toArray) p1.isList p2 fun h' hz hTI hTO h1 h2 hsz' hk => Calls.spliced_nil ?_
      have I2 : Inv X pins σ H1 { s1 with heap := h' } := I1.kept (t' := s1.toks) hk
      have S : ZipSep2 (s1.heap.objs.size + 4) (s1.heap.objs.size + 2) (s1.heap.objs.size + 3) s1.heap.objs.size (s1.heap.objs.size + 1) [s1.heap.objs.size, a] [s1.heap.objs.size + 1, b] := zip_sep2 (fp1 := [a]) (fp2 := [b]) (fun c e => by rw [List.mem_singleton.mp e]; exact la) (fun c e => by rw [List.mem_singleton.mp e]; exact lb)
      refine call_listZ (s := { s1 with heap := h' }) (I1.ok.hd hc) (Nat.ne_of_lt la) (Nat.ne_of_lt (Nat.lt_succ_of_lt lb)) S I2 ⟨fun c hm2 => ?_, .inl ⟨hz, _, _, hTO⟩, hTI, ⟨_, h1, rfl, rfl⟩, ⟨_, h2, rfl, rfl⟩⟩ hz hqx hqy hsz q
      have up : s1.heap.objs.size ≤ c ∧ ∃ o, h'.get? c = some o := by
        rcases zipFp_mem.mp hm2 with e | e | e | e | e <;> rw [e]
        · exact ⟨Nat.le_add_right _ _, _, hz⟩
        · exact ⟨Nat.le_add_right _ _, _, hTI⟩
        · exact ⟨Nat.le_add_right _ _, _, hTO⟩
        · exact ⟨Nat.le_refl _, _, h1⟩
        · exact ⟨Nat.le_succ _, _, h2⟩
      obtain ⟨u1, o, u2⟩ := up
      exact ⟨I1.fpOk u1 (I1.hok.fresh u1), Heap.lt_size u2⟩
end
end L2

set_option Elab.async false
set_option linter.all false
set_option maxRecDepth 100000
set_option maxHeartbeats 4000000
namespace K45
open PySem PySem.Spec PyProof.Rows L2
structure Tp (mg : Str → Option Value) : Prop where
  dict : mg "dict" = none
  repr : mg "repr" = none
section
variable {P : Program} {w : World} {K : PySem.W.Frag} {mg : Str → Option Value} {base : Heap} {C CP : Addr}
theorem ok_isMark {f fN : Addr} {fd fdN : FuncData} (F : Fun K "is_mark" "is_mark" sIsMark f fd) (GN : FnOk P w K mg base CX0 2 fN fdN ["value", "least", "most"] (spWithin K)) (kN : PySem.W.keepIn K (.ref fN) = true) (bN : Binds K fdN ["value", "least", "most"] [])
    (gN : mg "is_integer_within" = some (.ref fN)) (cl : Cls K C) (nM : NoAttr K C "most") : FnOk P w K mg base CX0 3 f fd ["crowd", "value"] (spIsMark K C) := by
  refine F.ok scIsMark (fun vs H Q E h => ?_) (fun cdv A outer s H vs Q E hr h => ?_)
  · obtain ⟨c, v, zs, m, rfl, _⟩ := h
    rfl
  · obtain ⟨c, v, zs, m, rfl, hc, ht, q⟩ := h
    obtain ⟨dx, l, hx, hl⟩ := id hc
    refine ⟨_, pss_one (ps_ret (pe_call GN hr (by rfl) gN kN bN .nil pass0 (pa_cons (pv 1) (pa_cons pe_int (pa_cons (pe_fld (pv 0) rfl) pa_nil))))), ?_⟩
    exact ⟨_, rfl, _, rfl, c, C, dx, _, _, rfl, hx, cl, nM, rfl, v, 0, m, rfl, ht, q⟩
theorem ok_isMarkN {f fM : Addr} {fd fdM : FuncData} (F : Fun K "is_mark_or_none" "is_mark_or_none" sIsMarkOrNone f fd) (GM : FnOk P w K mg base CX0 3 fM fdM ["crowd", "value"] (spIsMark K C)) (kM : PySem.W.keepIn K (.ref fM) = true) (bM : Binds K fdM ["crowd", "value"] [])
    (gM : mg "is_mark" = some (.ref fM)) : FnOk P w K mg base CX0 4 f fd ["crowd", "value"] (spIsMarkN K C) := by
  refine F.ok scIsMarkOrNone (fun vs H Q E h => ?_) (fun cdv A outer s H vs Q E hr h => ?_)
  · obtain ⟨c, v, zs, m, rfl, _⟩ := h
    rfl
  · obtain ⟨c, v, zs, m, rfl, hc, ht, q⟩ := h
    refine ⟨_, pss_one (ps_ret (pe_or (pe_cmpR op_isN (pv 1) pe_non (nomark _)) (pe_one (pe_call GM hr (by rfl) gM kM bM .nil pass0 (pa_cons (pv 0) (pa_cons (pv 1) pa_nil)))))), ?_⟩
    unfold mkOk at q
    refine ⟨_, rfl, rfl, _, rfl, ?_⟩
    cases h1 : decide (v = .non) with
    | true =>
      rw [h1, Bool.true_or] at q
      exact iteT q
    | false =>
      rw [h1, Bool.false_or] at q
      exact iteF ⟨_, rfl, _, rfl, c, v, zs, m, rfl, hc, ht, q⟩
theorem ok_areMarks {f fM fPa fIs : Addr} {fd fdM dPa dIs : FuncData} (F : Fun K "are_marks" "are_marks" sAreMarks f fd) (GM : FnOk P w K mg base CX0 4 fM fdM ["crowd", "value"] (spIsMarkN K C)) (kM : PySem.W.keepIn K (.ref fM) = true) (bM : Binds K fdM ["crowd", "value"] [])
    (gM : mg "is_mark_or_none" = some (.ref fM)) (cl : Cls K C) (mPa : Meth K C "pairs" fPa) (GPa : FnOk P w K mg base CX0 1 fPa dPa ["self"] (spCrowdPairs C)) (bPa : Binds K dPa ["self"] [])
    (mIs : Meth K C "is_pair" fIs) (GIs : FnOk P w K mg base CX0 2 fIs dIs ["self", "value"] (spIsPair K C)) (bIs : Binds K dIs ["self", "value"] []) (B : Bt mg) (T : Tx mg) (Z : Tp mg) : FnOk P w K mg base CX0 5 f fd ["crowd", "value"] (spAreMarks C) := by
  refine F.ok scAreMarks (fun vs H Q E h => ?_) (fun cdv A outer s H vs Q E hr h => ?_)
  · obtain ⟨c, d, zs, m, kvs, rfl, _⟩ := h
    rfl
  · obtain ⟨c, d, zs, m, kvs, rfl, hc, z8, ⟨hd, hl, hk⟩, q⟩ := h
    obtain ⟨dx, lp, hx, hlp⟩ := id hc
    refine ⟨_, pss_cons (ps_if (PW.pt (pw_or (pt_not (pt_val (pe_callB call_isi (by rfl) T.isi (by decide +kernel) (pa_cons (pv 1) (pa_cons (pe_bltn (v := .ty "dict") (by rfl) Z.dict (by decide +kernel) rfl) pa_nil)))))
        (pw_or1 (pt_cmpR op_ne (pe_callB call_len_dT (by rfl) B.len PySem.boot_len (pa_cons (pv 1) pa_nil)) (pe_callB call_len_seq (by rfl) B.len PySem.boot_len (pa_cons (pe_meth0 (pv 0) cl mPa GPa (hr.mono (by decide)) bPa .nil pass0) pa_nil)) (nomark _))))) (pss_one (ps_ret pe_bl)) pss_nil)
      (pss_one (ps_ret (pe_callB (cr_all rfl) (by rfl) T.all (by decide +kernel) (pa_cons (pe_lock (pe_lc (own := [("pair", 2), ("mark", 3)]) (g := gTup K 2 (gCons (gName 2) (gCons (gName 3) gNil))) (by rfl) scAreMarks.nd (pi_itemsT (pv 1)) (blkOk_by (own := [("pair", 2), ("mark", 3)]) (N := ["crowd", "value", "pair", "mark"]) (sc := defScope sAreMarks) (by decide +kernel))
        (fun _ _ _ _ _ => by exact pg_tup rfl (pgs_cons (pg_name (i := 2) scAreMarks.nd rfl (Or.inl rfl)) (pgs_cons (pg_name (i := 3) scAreMarks.nd rfl (Or.inl rfl)) pgs_nil))) (fun _ _ _ _ _ => pts_nil)
        (fun _ _ _ _ _ => pe_and (pe_meth (pv 0) cl mIs GIs (Room.mono (by exact hr) (by decide)) bIs .nil pass0 (pa_cons (pv 2) pa_nil)) (pe_one (pe_call GM (by exact hr) (by rfl) gM kM bM .nil pass0 (pa_cons (pv 0) (pa_cons (pv 3) pa_nil))))))) pa_nil)))), ?_⟩
    refine ⟨_, rfl, .ref d, .ty "dict", _, _, _, rfl, .ty "dict", .base (.dT hd), kit_ty (kit_dict (by decide)), _, rfl, ?_⟩
    refine iteF ⟨_, rfl, d, kvs, rfl, hd, _, rfl, c, dx, _, rfl, hx, rfl, c, zs, m, rfl, hc, z8, fun H1 p1 ys1 s1 n1 h1 t1 => ?_⟩
    refine ⟨p1, ys1, rfl, .inl (SqL.of h1), rfl, _, rfl, ?_⟩
    rw [show decide (V.int ((kvs.length : Nat) : Int) = V.int ((ys1.length : Nat) : Int)) = true from decide_eq_true (by rw [hl, t1.1])]
    refine iteF ?_
    have hd1 := s1 _ _ hd
    have hx1 := s1 _ _ hx
    have hlp1 := s1 _ _ hlp
    have k64 : kvs.length ≤ 64 := by
      rw [hl]
      exact pairs_len z8 z8
    refine ⟨d, _, hd1, trivial, fun od => ?_⟩
    have dL : upd H1 d (.frz od (.dT kvs)) d = some (.frz od (.dT kvs)) := upd_same
    have bL : But d H1 (upd H1 d (.frz od (.dT kvs))) := But.upd
    have un : ∀ G, Same (upd H1 d (.frz od (.dT kvs))) G → Same H (upd G d (.dT kvs)) := fun G sG => s1.trans (unlock_same hd1 sG)
    generalize upd H1 d (.frz od (.dT kvs)) = HL at dL bL un
    have xL := bL _ _ (ne_of hx1 hd1 (fun z => nomatch z)) hx1
    have lL := bL _ _ (ne_of hlp1 hd1 (fun z => nomatch z)) hlp1
    refine ⟨_, rfl, d, od, kvs, rfl, dL, fun D nD => ?_⟩
    refine nest_it walk_itemsT (fun i G => Same HL G ∧ G D = some (.lst (List.replicate i (.bl true)))) ⟨same_new nD, upd_same⟩ (fun i G _ h => h.1 _ _ dL) ?_ ?_
    · rintro i y G G2 hi ⟨sG, hD⟩ ⟨t, k, v, q0, hkv, rfl, nT, hq, rfl⟩
      obtain ⟨⟨p, hp, rfl⟩, mk⟩ := hk _ (List.mem_of_getElem? hkv)
      have nTD : D ≠ t := ne_of_none hD nT
      have s2 : Same G (upd G t (.tup [.ref q0, v])) := same_new nT
      refine ⟨t, _, rfl, SqT.of upd_same, rfl, _, _, rfl, _, _, rfl, rfl, rfl, ?_⟩
      refine ⟨_, rfl, c, dx, _, rfl, s2 _ _ (sG _ _ xL), rfl, _, rfl, c, _, zs, m, _, rfl, ⟨dx, lp, s2 _ _ (sG _ _ xL), s2 _ _ (sG _ _ lL)⟩, .two (a := .str p.1) (b := .str p.2) (s2 _ _ hq) (S := "str") (T := "str") ⟨.base (.str _), by decide⟩ ⟨.base (.str _), by decide⟩, ?_⟩
      rw [isPair_true hp]
      refine ⟨_, rfl, iteT ⟨_, rfl, _, rfl, c, v, zs, m, rfl, ⟨dx, lp, s2 _ _ (sG _ _ xL), s2 _ _ (sG _ _ lL)⟩, mkOk_ty mk, ?_⟩⟩
      rw [show mkOk m v = true from mk]
      refine ⟨_, by rw [upd_ne nTD]; exact hD, by rw [List.length_replicate]; exact small1000 (by omega), fun b o e => ?_, ?_⟩
      · rw [upd_ne (ne_of_none e nD)]
        exact s2 _ _ (sG _ _ e)
      · rw [upd_same, List.replicate_succ']
    rintro G ⟨sG, hD⟩
    refine ⟨sG _ _ dL, D, List.replicate kvs.length true, rfl, ?_, ?_⟩
    · have nd : D ≠ d := ne_of hD (sG _ _ dL) (fun z => nomatch z)
      rw [List.map_replicate]
      exact SqL.of (by rw [upd_ne nd]; exact hD)
    · rw [show (List.replicate kvs.length true).all id = true by rw [List.all_eq_true]; intro x hx; exact List.eq_of_mem_replicate hx]
      exact q _ (un G sG)
end
end K45

set_option Elab.async false
set_option linter.all false
set_option maxRecDepth 100000
set_option maxHeartbeats 4000000
namespace K45
open PySem PySem.Spec PyProof.Rows L2
section
variable {P : Program} {w : World} {K : PySem.W.Frag} {mg : Str → Option Value} {base : Heap} {C CP : Addr}
theorem ok_needCrowd {f : Addr} {fd : FuncData} (F : Fun K "need_crowd" "need_crowd" sNeedCrowd f fd) (gC : mg "Crowd" = some (.ref C)) (k1 : PySem.W.kitOne K (.ref C) (.ref C) = some true) (io : IsOwn K C) (T : Tx mg) : FnOk P w K mg base CX0 1 f fd ["crowd"] (spNeedCrowd C) := by
  refine F.ok scNeedCrowd (fun vs H Q E h => ?_) (fun cdv A outer s H vs Q E hr h => ?_)
  · obtain ⟨c, zs, m, rfl, _⟩ := h
    rfl
  · obtain ⟨c, zs, m, rfl, ⟨dx, l, hx, hl⟩, q⟩ := h
    refine ⟨_, pss_one (ps_if (pt_not (pt_val (pe_callB call_isi (by rfl) T.isi (by decide +kernel) (pa_cons (pv 0) (pa_cons (pe_glob (v := .ref C) (by rfl) gC rfl) pa_nil))))) pss_never pss_nil), ?_⟩
    exact ⟨_, rfl, .ref c, .ref C, _, _, _, rfl, .own C, io.ty hx, k1, _, rfl, iteF q⟩
theorem ok_pageInit {f fNC fAM fPa : Addr} {fd dNC dAM dPa : FuncData} (F : Fun K "__init__" "Page.__init__" sPageInit f fd) (GNC : FnOk P w K mg base CX0 1 fNC dNC ["crowd"] (spNeedCrowd C)) (kNC : PySem.W.keepIn K (.ref fNC) = true) (bNC : Binds K dNC ["crowd"] []) (gNC : mg "need_crowd" = some (.ref fNC))
    (GAM : FnOk P w K mg base CX0 5 fAM dAM ["crowd", "value"] (spAreMarks C)) (kAM : PySem.W.keepIn K (.ref fAM) = true) (bAM : Binds K dAM ["crowd", "value"] []) (gAM : mg "are_marks" = some (.ref fAM))
    (cl : Cls K C) (mPa : Meth K C "pairs" fPa) (GPa : FnOk P w K mg base CX0 1 fPa dPa ["self"] (spCrowdPairs C)) (bPa : Binds K dPa ["self"] []) (clP : Cls K CP) (nC : NoAttr K CP "crowd") (nM : NoAttr K CP "_marks") : FnOk P w K mg base CX0 6 f fd ["self", "crowd", "marks"] (spPageInit C CP) := by
  refine F.ok scPageInit (fun vs H Q E h => ?_) (fun cdv A outer s H vs Q E hr h => ?_)
  · obtain ⟨x, dx, c, d, zs, m, kvs, rfl, _⟩ := h
    rfl
  · obtain ⟨x, dx, c, d, zs, m, kvs, rfl, hx, hc, z8, nd, hM, hA, q⟩ := h
    obtain ⟨dc, lc, hcx, hcl⟩ := id hc
    have hu1 : (A.deeper (envOfC "Page.__init__" (defScope sPageInit) s.heap.objs.size f cdv)).units + 1 < cLine := by
      have := hr.units
      omega
    refine ⟨_, pss_cons (ps_expr (pe_call GNC (hr.mono (by decide)) (by rfl) gNC kNC bNC .nil pass0 (pa_cons (pv 1) pa_nil)))
      (pss_cons (ps_if (pt_not (pt_val (pe_call GAM (hr.mono (by decide)) (by rfl) gAM kAM bAM .nil pass0 (pa_cons (pv 1) (pa_cons (pv 2) pa_nil))))) pss_never pss_nil)
      (pss_cons (ps_fld (pv 0) (pv 1) rfl)
      (pss_one (ps_fld (pv 0) (pe_dcT (own := [("pair", 3)]) (g := gName 3) (by exact hu1) (by rfl) scPageInit.nd (pi_list (pe_meth0 (pv 1) cl mPa GPa (hr.mono (by decide)) bPa .nil pass0)) (blkOk_by (own := [("pair", 3)]) (N := ["self", "crowd", "marks", "pair"]) (sc := defScope sPageInit) (by decide +kernel))
        (fun _ _ _ _ _ => pg_name (i := 3) scPageInit.nd rfl (Or.inl rfl)) (fun _ _ _ _ _ => pts_nil) (fun _ _ _ _ _ => pv 3) (fun _ _ _ _ _ => pe_dget (by exact hu1) (pv 2) (pv 3) (fun _ _ => rfl))) rfl)))), ?_⟩
    refine ⟨_, rfl, c, zs, m, rfl, hc, ?_⟩
    refine ⟨_, rfl, _, rfl, c, d, zs, m, kvs, rfl, hc, z8, hM, fun H1 s1 => ⟨true, rfl, iteF ?_⟩⟩
    have hx1 := s1 _ _ hx
    refine ⟨_, rfl, _, rfl, x, CP, dx, [], rfl, hx1, clP, nC, (by show 0 < 1000; decide), ?_⟩
    have cx : x ≠ c := ne_of hx hcx (fun z => by
      injection z with _ _ z
      cases z)
    have lx : lc ≠ x := ne_of hcl hx (fun z => nomatch z)
    have dxx : d ≠ x := ne_of hM.1 hx (fun z => nomatch z)
    generalize e2 : upd H1 x _ = H2
    have b2 : But x H1 H2 := e2 ▸ But.upd
    have hx2 : H2 x = some (.ins CP dx (putF "crowd" (.ref c) [])) := e2 ▸ upd_same
    have c2 : CrowdOf H2 C c zs m := ⟨dc, lc, b2 _ _ cx.symm (s1 _ _ hcx), b2 _ _ lx (s1 _ _ hcl)⟩
    have d2 := b2 _ _ dxx (s1 _ _ hM.1)
    refine ⟨_, rfl, c, dc, _, rfl, b2 _ _ cx.symm (s1 _ _ hcx), rfl, c, zs, m, rfl, c2, z8, fun H3 p3 ys s3 n3 h3 t3 => ?_⟩
    refine ⟨p3, rfl, ⟨_, SqL.of h3⟩, fun D nD => ?_⟩
    have len : ys.length = (pairsOf zs).length := t3.1
    have d3 := s3 _ _ d2
    refine nest_it (walk_list (K := K) (a := p3) (xs := ys)) (fun i G => Same H3 G ∧ G D = some (.dT ((sheetOf zs fun p => (valV kvs (key2 p)).getD .non).take i))) ⟨same_new nD, upd_same⟩ (fun i G _ h => SqL.of (h.1 _ _ h3)) ?_ ?_
    · rintro i y G G2 hi ⟨sG, hD⟩ ⟨rfl, hy⟩
      have hi2 : i < (pairsOf zs).length := by omega
      have hp := List.getElem?_eq_getElem hi2
      have hmem := List.getElem_mem hi2
      generalize (pairsOf zs)[i] = p at hp hmem
      obtain ⟨t, rfl, _, ht⟩ := t3.2 i y p hy hp
      obtain ⟨v, hv⟩ := hA p hmem
      have gt := DGet.t (sG _ _ d3) (k := key2 p) (sG _ _ ht)
      rw [hv] at gt
      refine ⟨rfl, _, rfl, _, rfl, _, rfl, d, v, rfl, gt, _, key2 p, t, rfl, sG _ _ ht, hD, ?_, fun b o e => ?_, ?_⟩
      · rw [List.length_take]
        exact Nat.lt_of_le_of_lt (Nat.min_le_left _ _) (small1000 (by have : (pairsOf zs).length ≤ 64 := pairs_len z8 z8; omega))
      · rw [upd_ne (ne_of_none e nD)]
        exact sG _ _ e
      · have at_ : (sheetOf zs fun p => (valV kvs (key2 p)).getD .non)[i]? = some (key2 p, (valV kvs (key2 p)).getD .non) := sheet_at hp
        rw [hv] at at_
        rw [upd_same]
        exact congrArg (fun z => some (HO.dT z)) (put_take (sheet_nodup nd _) at_)
    rintro G ⟨sG, hD⟩
    rw [len, ← sheet_len (f := fun p => (valV kvs (key2 p)).getD .non), List.take_length] at hD
    have hxG := sG _ _ (s3 _ _ hx2)
    have nDx : D ≠ x := ne_of hD hxG (fun z => nomatch z)
    refine ⟨_, rfl, x, CP, dx, _, rfl, hxG, clP, nM, (by show 1 < 1000; decide), ?_⟩
    refine q _ dx D ?_ (s1.free ?_) (by rw [upd_same]; exact congrArg (fun z => some (HO.ins CP dx z)) page_put) (by rw [upd_ne nDx]; exact hD)
    · exact (((But.of_same s1).trans b2).trans (But.of_same (s3.trans sG))).trans But.upd
    · have nD2 := s3.free nD
      rw [← e2, upd_ne nDx] at nD2
      exact nD2
end
end K45

set_option Elab.async false
set_option linter.all false
set_option maxRecDepth 100000
set_option maxHeartbeats 4000000
namespace K45
open PySem PySem.Spec PyProof.Rows L2
section
variable {P : Program} {w : World} {K : PySem.W.Frag} {mg : Str → Option Value} {base : Heap} {C CP : Addr}
theorem ok_pageMarks {fA : Addr} {fd : FuncData} (F : Fun K "marks" "Page.marks" sPageMarks fA fd) (clP : Cls K CP) (nM : NoAttr K CP "_marks") : FnOk P w K mg base CX0 1 fA fd ["self"] (spPageMarks C CP) := by
  refine F.ok scPageMarks (fun vs H Q E h => ?_) (fun cdv A outer s H vs Q E hr h => ?_)
  · obtain ⟨x, zs, m, f, rfl, _⟩ := h
    rfl
  · obtain ⟨x, zs, m, f, rfl, ⟨dx, c, d, hx, hc, hd⟩, z8, nd, q⟩ := h
    have hu1 : (A.deeper (envOfC "Page.marks" (defScope sPageMarks) s.heap.objs.size fA cdv)).units + 1 < cLine := by
      have := hr.units
      omega
    refine ⟨_, pss_one (ps_ret (pe_lock (pe_dcT (own := [("pair", 1), ("mark", 2)]) (g := gTup K 2 (gCons (gName 1) (gCons (gName 2) gNil))) (by exact hu1) (by rfl) scPageMarks.nd (pi_itemsT (pe_fld (pv 0) rfl)) (blkOk_by (own := [("pair", 1), ("mark", 2)]) (N := ["self", "pair", "mark"]) (sc := defScope sPageMarks) (by decide +kernel))
      (fun _ _ _ _ _ => by exact pg_tup rfl (pgs_cons (pg_name (i := 1) scPageMarks.nd rfl (Or.inl rfl)) (pgs_cons (pg_name (i := 2) scPageMarks.nd rfl (Or.inl rfl)) pgs_nil))) (fun _ _ _ _ _ => pts_nil) (fun _ _ _ _ _ => pv 1) (fun _ _ _ _ _ => pv 2)))), ?_⟩
    have l64 : (pairsOf zs).length ≤ 64 := pairs_len z8 z8
    refine ⟨d, _, hd, trivial, fun od => ?_⟩
    have dL : upd H d (.frz od (.dT (sheetOf zs f))) d = some (.frz od (.dT (sheetOf zs f))) := upd_same
    have bL : But d H (upd H d (.frz od (.dT (sheetOf zs f)))) := But.upd
    have un : ∀ G, Same (upd H d (.frz od (.dT (sheetOf zs f)))) G → Same H (upd G d (.dT (sheetOf zs f))) := fun G sG => unlock_same hd sG
    have nf : ∀ b, upd H d (.frz od (.dT (sheetOf zs f))) b = none → H b = none := fun b e => by
      by_cases h : b = d
      · rw [h, upd_same] at e
        cases e
      · rw [upd_ne h] at e
        exact e
    generalize upd H d (.frz od (.dT (sheetOf zs f))) = HL at dL bL un nf
    have xL := bL _ _ (ne_of hx hd (fun z => nomatch z)) hx
    refine ⟨_, rfl, x, CP, dx, _, _, rfl, xL, clP, nM, rfl, d, od, _, rfl, dL, fun D nD => ?_⟩
    refine nest_it walk_itemsT (fun i G => Same HL G ∧ G D = some (.dT ((sheetOf zs f).take i))) ⟨same_new nD, upd_same⟩ (fun i G _ h => h.1 _ _ dL) ?_ ?_
    · rintro i y G G2 hi ⟨sG, hD⟩ ⟨t, k, v, q0, hkv, rfl, nT, hq, rfl⟩
      have nTD : D ≠ t := ne_of_none hD nT
      have s2 : Same G (upd G t (.tup [.ref q0, v])) := same_new nT
      refine ⟨t, _, rfl, SqT.of upd_same, rfl, _, _, rfl, _, _, rfl, rfl, rfl, ?_⟩
      refine ⟨_, rfl, _, rfl, _, k, q0, rfl, s2 _ _ hq, by rw [upd_ne nTD]; exact hD, ?_, fun b o e => ?_, ?_⟩
      · rw [List.length_take]
        exact Nat.lt_of_le_of_lt (Nat.min_le_left _ _) (small1000 (by rw [sheet_len] at hi; omega))
      · rw [upd_ne (ne_of_none e nD)]
        exact s2 _ _ (sG _ _ e)
      · rw [upd_same, put_take (sheet_nodup nd f) hkv]
    rintro G ⟨sG, hD⟩
    rw [List.take_length] at hD
    have nDd : D ≠ d := ne_of hD (sG _ _ dL) (fun z => nomatch z)
    exact ⟨sG _ _ dL, q _ D (un G sG) (nf D nD) (by rw [upd_ne nDd]; exact hD)⟩
end
end K45

set_option Elab.async false
set_option linter.all false
set_option maxRecDepth 100000
set_option maxHeartbeats 4000000
namespace K45
open PySem PySem.Spec PyProof.Rows L2
structure Lt (mg : Str → Option Value) : Prop where
  sum : mg "sum" = none
  max : mg "max" = none
  list : mg "list" = none
  tuple : mg "tuple" = none
/-- the sum of the marks that somebody gets from markers -/
def sumOf (f : Str × Str → V) (ks : List Str) (b : Str) : Int := ((ks.map fun a => match f (a, b) with | .int i => i | _ => 0)).sum
/-- the first with the greatest sum -/
def goodB (f : Str × Str → V) (ms ks : List Str) (b : Str) : Bool := decide (∀ c ∈ ms, sumOf f ks c ≤ sumOf f ks b)
def bestOf (f : Str × Str → V) (ms ks : List Str) : List Str := (ms.filter (goodB f ms ks)).take 1
def spListWinners : Sp := fun vs H Q _ => ∃ (d l k : Addr) (zs ms ks : List Str) (f : Str × Str → V), vs = [.ref d, .ref l, .ref k] ∧ H d = some (.dT (sheetOf zs f)) ∧ H l = some (.lst (ms.map V.str)) ∧ H k = some (.lst (ks.map V.str)) ∧
  ms.length ≤ 8 ∧ ks.length ≤ 8 ∧ ms.Nodup ∧ (∀ b ∈ ms, b ∈ zs) ∧ (∀ a ∈ ks, a ∈ zs ∧ a ∉ ms) ∧ (∀ p ∈ pairsOf zs, ∃ i : Int, f p = .int i) ∧ ∀ H' p, Same H H' → H p = none → H' p = some (.lst ((bestOf f ms ks).map V.str)) → Q (.ref p) H'
def sumsE (f : Str × Str → V) (ks ms : List Str) : List (Str × V) := ms.map fun b => (b, V.int (sumOf f ks b))
theorem not_take {ms : List Str} (nd : ms.Nodup) {i : Nat} {b : Str} (h : ms[i]? = some b) : b ∉ ms.take i := fun z => by
  obtain ⟨hi, e⟩ := List.getElem?_eq_some_iff.mp h
  have e2 : ms = ms.take i ++ b :: ms.drop (i + 1) := by
    rw [← e, ← List.drop_eq_getElem_cons hi, List.take_append_drop]
  rw [e2] at nd
  exact (List.nodup_append.mp nd).2.2 b z b (List.mem_cons_self ..) rfl
theorem sums_new {f : Str × Str → V} {ks ms : List Str} {b : Str} (h : b ∉ ms) : valV (rowD (sumsE f ks ms)) (Sum.inr b : Key) = none := valV_none fun z => by
  unfold rowD sumsE at z
  rw [List.map_map, List.map_map] at z
  obtain ⟨c, hc, e⟩ := List.mem_map.mp z
  exact h (by rw [← Sum.inr.inj e]; exact hc)
theorem sums_at {f : Str × Str → V} {ks : List Str} {b : Str} : ∀ {ms : List Str}, b ∈ ms → valV (rowD (sumsE f ks ms)) (Sum.inr b : Key) = some (.int (sumOf f ks b))
  | c :: ms, h => by
    show valV ((Sum.inr c, V.int (sumOf f ks c)) :: rowD (sumsE f ks ms)) (Sum.inr b : Key) = _
    by_cases e : c = b
    · subst e
      exact valV_pos rfl
    · rw [valV_neg fun z => e (Sum.inr.inj z)]
      exact sums_at ((List.mem_cons.mp h).resolve_left fun z => e z.symm)
theorem take_snoc {ms : List Str} {i : Nat} {b : Str} (h : ms[i]? = some b) : ms.take (i + 1) = ms.take i ++ [b] := by
  rw [List.take_add_one, h]
  rfl
abbrev lwN : List Str := ["marks", "members", "markers", "sums", "marker", "member", "greatest"]
section
variable {P : Program} {w : World} {K : PySem.W.Frag} {mg : Str → Option Value} {base : Heap} {C CP : Addr}
theorem ok_listWinners {fA : Addr} {fd : FuncData} (F : Fun K "list_winners" "list_winners" sListWinners fA fd) (L : Lt mg) : FnOk P w K mg base CX0 1 fA fd ["marks", "members", "markers"] spListWinners := by
  refine F.ok scListWinners (fun vs H Q E h => ?_) (fun cdv A outer s H vs Q E hr h => ?_)
  · obtain ⟨d, l, k, zs, ms, ks, f, rfl, _⟩ := h
    rfl
  · obtain ⟨d, l, k, zs, ms, ks, f, rfl, hd, hl, hk, m8, k8, nd, hm, hks, hf, q⟩ := h
    have hu1 : (A.deeper (envOfC "list_winners" (defScope sListWinners) s.heap.objs.size fA cdv)).units + 1 < cLine := by
      have := hr.units
      omega
    refine ⟨_, pss_cons (ps_set (i := 3) scListWinners.nd rfl (.inr rfl) (pe_dc (own := [("member", 5)]) (g := gName 5) (by rfl) scListWinners.nd (pi_list (pv 1)) (blkOk_by (own := [("member", 5)]) (N := lwN) (sc := defScope sListWinners) (by decide +kernel))
          (fun _ _ _ _ _ => pg_name (i := 5) scListWinners.nd rfl (Or.inr rfl)) (fun _ _ _ _ _ => pts_nil) (fun _ _ _ _ _ => pv 5)
          (fun _ _ _ _ _ => by exact pe_callB (r := rSum K) (cr_sum rfl) (by rfl) L.sum (by decide +kernel) (pa_cons (pe_lc (own := [("marker", 4)]) (wi := iList K (tVar 2)) (g := gName 4) (by rfl) scListWinners.nd (pi_list (pv 2)) (blkOk_by (own := [("marker", 4)]) (N := lwN) (by kernel_rfl))
            (fun _ _ _ _ _ => pg_name (i := 4) scListWinners.nd rfl (Or.inl rfl)) (fun _ _ _ _ _ => pts_nil) (fun _ _ _ _ _ => pe_dget (by exact hu1) (pv 0) (pe_tup (pa_cons (pv 4) (pa_cons (pv 5) pa_nil))) (fun _ _ => rfl))) pa_nil))))
      (pss_cons (ps_set (i := 6) scListWinners.nd rfl (.inr rfl) (pe_cut (fun _ H v H2 => ∃ g : Int, v = .int g ∧ Same H H2 ∧ ∀ b ∈ ms, sumOf f ks b = g ↔ ∀ c ∈ ms, sumOf f ks c ≤ sumOf f ks b) (pe_callBK (cr_maxDef rfl (by exact hu1)) (by rfl) L.max (by decide +kernel) (pa_cons (pe_callTy (call_list_valsK rfl) (by rfl) L.list (by decide +kernel) (pa_cons (pe_bm0 PySem.F.plainAttrs_dict PySem.F.slot_dict_values PySem.F.type_dict_values mt_valuesK (pv 3)) pa_nil)) pa_nil) (pk_cons pe_int pk_nil))))
      (pss_one (ps_ret (pe_slice sl_list (pe_lc (own := [("member", 5)]) (g := gName 5) (by rfl) scListWinners.nd (pi_list (pv 1)) (blkOk_by (own := [("member", 5)]) (N := lwN) (sc := defScope sListWinners) (by decide +kernel))
          (fun _ _ _ _ _ => pg_name (i := 5) scListWinners.nd rfl (Or.inl rfl)) (fun _ _ _ _ _ => pts_one (pt_cmpR op_eq (pe_dget (by exact hu1) (pv 3) (pv 5) (fun _ _ => rfl)) (pv 6) (nomark _))) (fun _ _ _ _ _ => pv 5)) po_none (po_some pe_int))))), ?_⟩
    have l1000 : ∀ {xs : List Str}, xs.length ≤ 8 → xs.length < sizeLine := fun h => small1000 (by omega)
    refine ⟨_, rfl, l, rfl, ⟨_, SqL.of hl⟩, fun D nD => ?_⟩
    refine nest_it (walk_list (K := K) (a := l) (xs := ms.map V.str)) (fun i G => Same H G ∧ G D = some (.dK (rowD (sumsE f ks (ms.take i))))) ⟨same_new nD, upd_same⟩ (fun i G _ h => SqL.of (h.1 _ _ hl)) ?_ ?_
    · rintro i x G G2 hi ⟨sG, hD⟩ ⟨rfl, hx⟩
      rw [List.getElem?_map] at hx
      obtain ⟨b, hb, rfl⟩ := Option.map_eq_some_iff.mp hx
      have hbm := List.mem_of_getElem? hb
      have hkG := sG _ _ hk
      refine ⟨rfl, _, rfl, _, rfl, k, rfl, ⟨_, SqL.of hkG⟩, fun D2 nD2 => ?_⟩
      refine lc_map (ys := (ks.map fun a => match f (a, b) with | .int i => i | _ => 0).map V.int) (w := walk_list (K := K) (a := k) (xs := ks.map V.str)) (by simp) (small1000 (by rw [List.length_map]; omega)) nD2 (fun H2 s2 => SqL.of (s2 _ _ hkG)) (fun _ => rfl) (fun j x y H2 Q2 hxj hyj s2 kk => ?_) (fun H2 s2 hD2 => ?_)
      · rw [List.getElem?_map] at hxj
        obtain ⟨a, ha, rfl⟩ := Option.map_eq_some_iff.mp hxj
        rw [List.getElem?_map, List.getElem?_map, ha] at hyj
        obtain rfl := Option.some.inj hyj
        obtain ⟨haz, ham⟩ := hks a (List.mem_of_getElem? ha)
        have hp := mem_pairsOf haz (hm b hbm) (fun z => ham (z ▸ hbm))
        obtain ⟨v, hv⟩ := hf _ hp
        refine ⟨_, rfl, _, rfl, _, rfl, (by show 2 ≤ sizeLine; decide), fun t nt => ?_⟩
        have s3 : Same H2 (upd H2 t (.tup [.str a, .str b])) := same_new nt
        have gt := DGet.t (s3 _ _ (s2 _ _ (sG _ _ hd))) (k := key2 (a, b)) (show upd H2 t (.tup [.str a, .str b]) t = some (.tup ((key2 (a, b)).map kV)) from upd_same)
        rw [valV_sheet hp] at gt
        refine ⟨d, _, rfl, gt, ?_⟩
        have e : f (a, b) = V.int (match f (a, b) with | .int i => i | _ => 0) := by rw [hv]
        rw [e]
        exact kk _ s3
      · refine ⟨D2, _, rfl, SqL.of hD2, rowD (sumsE f ks (ms.take i)), Sum.inr b, rfl, s2 _ _ hD, ?_, fun c o e => ?_, ?_⟩
        · unfold rowD sumsE
          rw [List.length_map, List.length_map, List.length_take]
          exact Nat.lt_of_le_of_lt (Nat.min_le_left _ _) (small1000 (by rw [List.length_map] at hi; omega))
        · rw [upd_ne (ne_of_none e nD)]
          exact s2 _ _ (sG _ _ e)
        · rw [upd_same, putK_new _ (sums_new (not_take nd hb)), take_snoc hb]
          unfold rowD sumsE
          rw [List.map_append, List.map_append]
          rfl
    rintro G1 ⟨s1, hD⟩
    rw [List.length_map, List.take_length] at hD
    -- the greatest
    refine ⟨⟨_, rfl, .inr (.inr (.inl ⟨rfl, .inl ⟨_, hD⟩⟩)), D, _, rfl, rfl, hD, fun p np => ?_⟩, ?_⟩
    · have s2 : Same G1 (upd G1 p (valsO p D)) := same_new np
      refine ⟨p, D, _, rfl, upd_same, s2 _ _ hD, fun l2 nl2 => ?_⟩
      have s3 : Same (upd G1 p (valsO p D)) (upd (upd G1 p (valsO p D)) l2 (.lst ((rowD (sumsE f ks ms)).map (·.2)))) := same_new nl2
      have vals : (rowD (sumsE f ks ms)).map (·.2) = (ms.map (sumOf f ks)).map V.int := by
        unfold rowD sumsE
        rw [List.map_map, List.map_map, List.map_map]
        rfl
      have h3 : upd (upd G1 p (valsO p D)) l2 (.lst ((rowD (sumsE f ks ms)).map (·.2))) l2 = some (.lst ((ms.map (sumOf f ks)).map V.int)) := by rw [upd_same, vals]
      refine ⟨l2, ms.map (sumOf f ks), 0, rfl, rfl, SqL.of h3, fun e => ⟨0, rfl, s2.trans s3, fun b hb => ?_⟩, fun m h1 h2 => ⟨m, rfl, s2.trans s3, fun b hb => ⟨fun e c hc => ?_, fun h => ?_⟩⟩⟩
      · rw [List.map_eq_nil_iff.mp e] at hb
        cases hb
      · rw [e]
        exact h2 _ (List.mem_map.mpr ⟨c, hc, rfl⟩)
      · obtain ⟨c, hc, rfl⟩ := List.mem_map.mp h1
        exact Int.le_antisymm (h2 _ (List.mem_map.mpr ⟨b, hb, rfl⟩)) (h c hc)
    rintro v G3 ⟨g, rfl, s3, hg⟩
    have S3 := s1.trans s3
    have D3 := s3 _ _ hD
    refine ⟨_, rfl, l, rfl, ⟨_, SqL.of (S3 _ _ hl)⟩, fun D2 nD2 => ?_⟩
    refine nest_it (walk_list (K := K) (a := l) (xs := ms.map V.str)) (fun i G => Same G3 G ∧ G D2 = some (.lst (((ms.take i).filter (goodB f ms ks)).map V.str))) ⟨same_new nD2, upd_same⟩ (fun i G _ h => SqL.of (h.1 _ _ (S3 _ _ hl))) ?_ ?_
    · rintro i x G G2 hi ⟨sG, hD2⟩ ⟨rfl, hx⟩
      rw [List.getElem?_map] at hx
      obtain ⟨b, hb, rfl⟩ := Option.map_eq_some_iff.mp hx
      have hbm := List.mem_of_getElem? hb
      have gt := DGet.k (sG _ _ D3) (k := (Sum.inr b : Key))
      rw [sums_at hbm] at gt
      refine ⟨rfl, _, rfl, _, rfl, D, _, rfl, gt, _, rfl, rfl, _, rfl, ?_⟩
      have tk : (ms.take (i + 1)).filter (goodB f ms ks) = ((ms.take i).filter (goodB f ms ks)) ++ ([b].filter (goodB f ms ks)) := by
        rw [take_snoc hb, List.filter_append]
      by_cases e : sumOf f ks b = g
      · rw [show decide (V.int (sumOf f ks b) = V.int g) = true from decide_eq_true (by rw [e])]
        refine iteT ⟨_, rfl, _, hD2, ?_, fun c o ec => ?_, ?_⟩
        · rw [List.length_map]
          refine Nat.lt_of_le_of_lt (List.length_filter_le _ _) (small1000 ?_)
          rw [List.length_take]
          omega
        · rw [upd_ne (ne_of_none ec nD2)]
          exact sG _ _ ec
        · rw [upd_same, tk, List.filter_cons_of_pos (show goodB f ms ks b = true from decide_eq_true ((hg b hbm).mp e)), List.filter_nil, List.map_append]
          rfl
      · rw [show decide (V.int (sumOf f ks b) = V.int g) = false from decide_eq_false (fun z => e (V.int.inj z))]
        refine iteF ⟨sG, ?_⟩
        rw [tk, List.filter_cons_of_neg (show ¬ goodB f ms ks b = true from fun z => e ((hg b hbm).mpr (of_decide_eq_true z))), List.filter_nil, List.append_nil]
        exact hD2
    · rintro G ⟨sG, hD2⟩
      rw [List.length_map, List.take_length] at hD2
      refine ⟨1, rfl, D2, _, rfl, SqL.of hD2, fun p np => ?_⟩
      have S4 := S3.trans sG
      refine q _ p (S4.trans (same_new np)) (S4.free np) ?_
      rw [upd_same, show cutV ((ms.filter (goodB f ms ks)).map V.str) none (some 1) = ((ms.filter (goodB f ms ks)).map V.str).take 1 from km_take 1, ← List.map_take]
      rfl
end
end K45

set_option Elab.async false
set_option linter.all false
set_option maxRecDepth 100000
set_option maxHeartbeats 4000000
namespace K45
open PySem PySem.Spec PyProof.Rows L2
def oneOf (zs ys : List Str) : List Str := zs.filter fun b => decide (b ∈ ys)
def restOf (zs ys : List Str) : List Str := zs.filter fun b => !decide (b ∈ ys)
/-- the winners of a lot -/
def winB (f : Str × Str → V) (zs ys : List Str) : List Str := zs.filter fun b => decide (b ∈ bestOf f (oneOf zs ys) (restOf zs ys) ++ bestOf f (restOf zs ys) (oneOf zs ys))
def spParting : Sp := fun vs H Q _ => ∃ (pl d v : Addr) (zs ys : List Str) (f : Str × Str → V), vs = [.ref pl, .ref d, .ref v] ∧ H pl = some (.lst (zs.map V.str)) ∧ H d = some (.dT (sheetOf zs f)) ∧ (H v = some (.lst (ys.map V.str)) ∨ H v = some (.tup (ys.map V.str))) ∧
  zs.length ≤ 8 ∧ zs.Nodup ∧ (∀ p ∈ pairsOf zs, ∃ i : Int, f p = .int i) ∧ ∀ H' p, Same H H' → H p = none → H' p = some (.lst ((winB f zs ys).map V.str)) → Q (.ref p) H'
theorem mem_one {zs ys : List Str} {b : Str} : b ∈ oneOf zs ys ↔ b ∈ zs ∧ b ∈ ys := by
  unfold oneOf
  rw [List.mem_filter, decide_eq_true_iff]
theorem mem_rest {zs ys : List Str} {b : Str} : b ∈ restOf zs ys ↔ b ∈ zs ∧ b ∉ ys := by
  unfold restOf
  rw [List.mem_filter, Bool.not_eq_true', decide_eq_false_iff_not]
theorem best_len {f : Str × Str → V} {ms ks : List Str} : (bestOf f ms ks).length ≤ 1 := by
  unfold bestOf
  rw [List.length_take]
  exact Nat.min_le_left _ _
abbrev pwN : List Str := ["people", "marks", "first", "one", "person", "other", "found"]
section
variable {P : Program} {w : World} {K : PySem.W.Frag} {mg : Str → Option Value} {base : Heap} {C CP : Addr}
theorem ok_parting {fA fL : Addr} {fd dL : FuncData} (F : Fun K "parting_winners" "parting_winners" sPartingWinners fA fd) (GL : FnOk P w K mg base CX0 1 fL dL ["marks", "members", "markers"] spListWinners) (kL : PySem.W.keepIn K (.ref fL) = true) (bL : Binds K dL ["marks", "members", "markers"] []) (gL : mg "list_winners" = some (.ref fL)) :
    FnOk P w K mg base CX0 2 fA fd ["people", "marks", "first"] spParting := by
  refine F.ok scPartingWinners (fun vs H Q E h => ?_) (fun cdv A outer s H vs Q E hr h => ?_)
  · obtain ⟨pl, d, v, zs, ys, f, rfl, _⟩ := h
    rfl
  · obtain ⟨pl, d, v, zs, ys, f, rfl, hpl, hd, hv, z8, nd, hf, q⟩ := h
    refine ⟨_, pss_cons (ps_setLc (i := 3) (own := [("person", 4)]) (g := gName 4) (by rfl) scPartingWinners.nd rfl rfl (sw_true rfl rfl rfl (by decide +kernel)) (pi_list (pv 0)) (blkOk_by (own := [("person", 4)]) (N := pwN) (sc := defScope sPartingWinners) (by decide +kernel))
          (fun _ _ _ _ _ => pg_name (i := 4) scPartingWinners.nd rfl (Or.inl rfl)) (fun _ _ _ _ _ => pts_one (pt_cmpR (r := rIn K false) op_in_seq (pv 4) (pv 2) (by rfl))) (fun _ _ _ _ _ => pv 4))
      (pss_cons (ps_setLc (i := 5) (own := [("person", 4)]) (g := gName 4) (by rfl) scPartingWinners.nd rfl rfl (sw_true rfl rfl rfl (by decide +kernel)) (pi_list (pv 0)) (blkOk_by (own := [("person", 4)]) (N := pwN) (sc := defScope sPartingWinners) (by decide +kernel))
          (fun _ _ _ _ _ => pg_name (i := 4) scPartingWinners.nd rfl (Or.inl rfl)) (fun _ _ _ _ _ => pts_one (pt_cmpR (r := rIn K true) op_notIn_seq (pv 4) (pv 2) (by rfl))) (fun _ _ _ _ _ => pv 4))
      (pss_cons (ps_set (i := 6) scPartingWinners.nd rfl (.inr rfl) (pe_op op_cat (pe_call GL hr (by rfl) gL kL bL .nil pass0 (pa_cons (pv 1) (pa_cons (pv 3) (pa_cons (pv 5) pa_nil)))) (pe_call GL hr (by rfl) gL kL bL .nil pass0 (pa_cons (pv 1) (pa_cons (pv 5) (pa_cons (pv 3) pa_nil))))))
      (pss_one (ps_ret (pe_lc (own := [("person", 4)]) (g := gName 4) (by rfl) scPartingWinners.nd (pi_list (pv 0)) (blkOk_by (own := [("person", 4)]) (N := pwN) (sc := defScope sPartingWinners) (by decide +kernel))
          (fun _ _ _ _ _ => pg_name (i := 4) scPartingWinners.nd rfl (Or.inl rfl)) (fun _ _ _ _ _ => pts_one (pt_cmpR (r := rIn K false) op_in_seq (pv 4) (pv 6) (by rfl))) (fun _ _ _ _ _ => pv 4)))))), ?_⟩
    have kv : ∀ {G}, Same H G → SqL K G v (ys.map V.str) ∨ SqT K G v (ys.map V.str) := fun s => hv.elim (fun h => .inl (SqL.of (s _ _ h))) (fun h => .inr (SqT.of (s _ _ h)))
    refine ⟨_, rfl, pl, rfl, ⟨_, SqL.of hpl⟩, fun D nD => ?_⟩
    refine nest_filter (walk_list (K := K) (a := pl) (xs := zs.map V.str)) (List.length_map ..) (by omega) nD (fun i x G G' y => y) (fun G s => SqL.of (s _ _ hpl)) (fun b => decide (b ∈ ys)) ?_ ?_
    · rintro b G Nx hb sG yes no
      refine ⟨rfl, _, rfl, _, rfl, v, ys.map V.str, rfl, kv sG, rfl, all_flat_strs ys, _, rfl, ?_⟩
      rw [if_neg (by decide), inV_strs]
      exact ite2 (fun c => ⟨_, rfl, yes c _ (Same.refl _)⟩) (fun c => no (by simpa using c) _ (Same.refl _))
    rintro G1 s1 hD
    refine ⟨_, rfl, pl, rfl, ⟨_, SqL.of (s1 _ _ hpl)⟩, fun D2 nD2 => ?_⟩
    refine nest_filter (walk_list (K := K) (a := pl) (xs := zs.map V.str)) (List.length_map ..) (by omega) nD2 (fun i x G G' y => y) (fun G s => SqL.of (s _ _ (s1 _ _ hpl))) (fun b => !decide (b ∈ ys)) ?_ ?_
    · rintro b G Nx hb sG yes no
      refine ⟨rfl, _, rfl, _, rfl, v, ys.map V.str, rfl, kv (s1.trans sG), rfl, all_flat_strs ys, _, rfl, ?_⟩
      rw [if_pos rfl, inV_strs]
      exact ite2 (fun c => ⟨_, rfl, yes c _ (Same.refl _)⟩) (fun c => no (by simpa using c) _ (Same.refl _))
    rintro G2 s2 hD2
    have S2 := s1.trans s2
    have h1 := s2 _ _ hD
    have l1 : (oneOf zs ys).length ≤ 8 := Nat.le_trans (List.length_filter_le _ _) z8
    have l2 : (restOf zs ys).length ≤ 8 := Nat.le_trans (List.length_filter_le _ _) z8
    refine ⟨_, rfl, _, rfl, _, rfl, d, D, D2, zs, oneOf zs ys, restOf zs ys, f, rfl, S2 _ _ hd, h1, hD2, l1, l2, nd.filter _, fun b hb => (mem_one.mp hb).1, fun b hb => ⟨(mem_rest.mp hb).1, fun z => (mem_rest.mp hb).2 (mem_one.mp z).2⟩, hf, fun G3 p3 s3 n3 h3 => ?_⟩
    refine ⟨_, rfl, _, rfl, _, rfl, d, D2, D, zs, restOf zs ys, oneOf zs ys, f, rfl, s3 _ _ (S2 _ _ hd), s3 _ _ hD2, s3 _ _ h1, l2, l1, nd.filter _, fun b hb => (mem_rest.mp hb).1, fun b hb => ⟨(mem_one.mp hb).1, fun z => (mem_rest.mp z).2 (mem_one.mp hb).2⟩, hf, fun G4 p4 s4 n4 h4 => ?_⟩
    refine ⟨p3, p4, _, _, rfl, rfl, s4 _ _ h3, h4, ?_, fun p5 n5 => ?_⟩
    · rw [List.length_map, List.length_map]
      have a1 := best_len (f := f) (ms := oneOf zs ys) (ks := restOf zs ys)
      have a2 := best_len (f := f) (ms := restOf zs ys) (ks := oneOf zs ys)
      exact Nat.le_of_lt (small1000 (by omega))
    rw [← List.map_append]
    have s5 : Same G4 (upd G4 p5 (.lst ((bestOf f (oneOf zs ys) (restOf zs ys) ++ bestOf f (restOf zs ys) (oneOf zs ys)).map V.str))) := same_new n5
    have h5 : upd G4 p5 (.lst ((bestOf f (oneOf zs ys) (restOf zs ys) ++ bestOf f (restOf zs ys) (oneOf zs ys)).map V.str)) p5 = some (.lst ((bestOf f (oneOf zs ys) (restOf zs ys) ++ bestOf f (restOf zs ys) (oneOf zs ys)).map V.str)) := upd_same
    generalize upd G4 p5 (.lst ((bestOf f (oneOf zs ys) (restOf zs ys) ++ bestOf f (restOf zs ys) (oneOf zs ys)).map V.str)) = G5 at s5 h5
    have S5 := S2.trans (s3.trans (s4.trans s5))
    refine ⟨_, rfl, pl, rfl, ⟨_, SqL.of (S5 _ _ hpl)⟩, fun D6 nD6 => ?_⟩
    refine nest_filter (walk_list (K := K) (a := pl) (xs := zs.map V.str)) (List.length_map ..) (by omega) nD6 (fun i x G G' y => y) (fun G s => SqL.of (s _ _ (S5 _ _ hpl))) (fun b => decide (b ∈ bestOf f (oneOf zs ys) (restOf zs ys) ++ bestOf f (restOf zs ys) (oneOf zs ys))) ?_ ?_
    · rintro b G Nx hb sG yes no
      refine ⟨rfl, _, rfl, _, rfl, p5, _, rfl, .inl (SqL.of (sG _ _ h5)), rfl, all_flat_strs _, _, rfl, ?_⟩
      rw [if_neg (by decide), inV_strs]
      exact ite2 (fun c => ⟨_, rfl, yes c _ (Same.refl _)⟩) (fun c => no (by simpa using c) _ (Same.refl _))
    rintro G6 s6 hD6
    exact q _ D6 (S5.trans s6) (S5.free nD6) hD6
end
end K45

set_option Elab.async false
set_option linter.all false
set_option maxRecDepth 100000
set_option maxHeartbeats 4000000
namespace K45
open PySem PySem.Spec PyProof.Rows L2
def spLawLot : Sp := fun vs H Q _ => ∃ (gm l d v : Addr) (zs ys : List Str) (m : Int) (f : Str × Str → V), vs = [.ref gm, .ref d, .ref v] ∧ H gm = some (.dK (planK l m)) ∧ H l = some (.lst (zs.map V.str)) ∧ H d = some (.dT (sheetOf zs f)) ∧ H v = some (.lst (ys.map V.str)) ∧ oneOf zs ys = ys ∧
  zs.length ≤ 8 ∧ zs.Nodup ∧ (∀ z ∈ zs, PyData.strOk z = true) ∧ (∀ p ∈ pairsOf zs, ∃ i : Int, f p = .int i) ∧ ∀ H' p, Same H H' → H p = none → H' p = some (.lst ((winB f zs ys).map V.str)) → Q (.ref p) H'
theorem first_filter {p : Str → Bool} : ∀ {l : List Str} {j : Nat} {b : Str}, l[j]? = some b → p b = true → (∀ i c, i < j → l[i]? = some c → p c = false) → (l.filter p).take 1 = [b]
  | [], _, _, h, _, _ => by simp at h
  | c :: l, 0, b, h, hb, _ => by
    cases h
    rw [List.filter_cons_of_pos hb]
    rfl
  | c :: l, j + 1, b, h, hb, hc => by
    rw [List.filter_cons_of_neg (by rw [hc 0 c (Nat.succ_pos _) rfl]; decide)]
    exact first_filter (l := l) (j := j) h hb fun i e hi he => hc (i + 1) e (Nat.succ_lt_succ hi) he
theorem best_at {f : Str × Str → V} {ms ks : List Str} {j : Nat} {b : Str} (hb : ms[j]? = some b) (h : ∀ c ∈ ms, sumOf f ks c ≤ sumOf f ks b) (h2 : ∀ i c, i < j → ms[i]? = some c → sumOf f ks c ≠ sumOf f ks b) : bestOf f ms ks = [b] := by
  unfold bestOf
  refine first_filter hb (decide_eq_true h) fun i c hi hc => decide_eq_false fun z => h2 i c hi hc ?_
  exact Int.le_antisymm (h c (List.mem_of_getElem? hc)) (z b (List.mem_of_getElem? hb))
theorem first_at {mx : Int} : ∀ {l : List Int}, mx ∈ l → ∃ j : Nat, l[j]? = some mx ∧ ∀ (i : Nat) (c : Int), i < j → l[i]? = some c → c ≠ mx
  | [], h => by cases h
  | c :: l, h => by
    by_cases e : c = mx
    · exact ⟨0, by rw [e]; rfl, fun i _ hi _ => absurd hi (Nat.not_lt_zero _)⟩
    · obtain ⟨j, h1, h2⟩ := first_at (l := l) ((List.mem_cons.mp h).resolve_left fun z => e z.symm)
      refine ⟨j + 1, h1, fun i d hi hd => ?_⟩
      cases i with
      | zero => cases hd; exact e
      | succ i => exact h2 i d (Nat.lt_of_succ_lt_succ hi) hd
abbrev llN : List Str := ["_law_game", "_law_marks", "_law_first", "_law_found", "_law_rest", "_law_one", "_law_mine", "_law_others", "_law_sums_here", "_law_other"]
section
variable {P : Program} {w : World} {K : PySem.W.Frag} {mg : Str → Option Value} {base : Heap} {C CP : Addr}
theorem ok_lawLot {fA : Addr} {fd : FuncData} (F : Fun K "_law_lot_winners" "_law_lot_winners" sLawLot fA fd) (L : Lt mg) : FnOk P w K mg base CX0 1 fA fd ["_law_game", "_law_marks", "_law_first"] spLawLot := by
  refine F.ok scLawLot (fun vs H Q E h => ?_) (fun cdv A outer s H vs Q E hr h => ?_)
  · obtain ⟨gm, l, d, v, zs, ys, m, f, rfl, _⟩ := h
    rfl
  · obtain ⟨gm, l, d, v, zs, ys, m, f, rfl, hgm, hl, hd, hv, one, z8, nd, oz, hf, q⟩ := h
    have hu1 : (A.deeper (envOfC "_law_lot_winners" (defScope sLawLot) s.heap.objs.size fA cdv)).units + 1 < cLine := by
      have := hr.units
      omega
    have hu64 : (A.deeper (envOfC "_law_lot_winners" (defScope sLawLot) s.heap.objs.size fA cdv)).units + 64 < cLine := hr.units
    refine ⟨_, pss_cons (ps_set (i := 3) scLawLot.nd rfl (.inr rfl) (pe_lst pa_nil))
      (pss_cons (ps_setLc (i := 4) (own := [("_law_one", 5)]) (g := gName 5) (by rfl) scLawLot.nd rfl rfl (sw_true rfl rfl rfl (by decide +kernel)) (pi_list (pe_dget (by exact hu1) (pv 0) pe_str (fun _ _ => rfl))) (blkOk_by (own := [("_law_one", 5)]) (N := llN) (sc := defScope sLawLot) (by decide +kernel))
          (fun _ _ _ _ _ => pg_name (i := 5) scLawLot.nd rfl (Or.inl rfl)) (fun _ _ _ _ _ => pts_one (pt_cmpR (r := rIn K true) op_notIn_seq (pv 5) (pv 2) (by rfl))) (fun _ _ _ _ _ => pv 5))
      (pss_cons (ps_for PassesOwn.never rfl (pi_list (pe_lst (pa_cons (pe_tup (pa_cons (pe_lc (own := [("_law_one", 5)]) (g := gName 5) (by rfl) scLawLot.nd (pi_list (pe_dget (by exact hu1) (pv 0) pe_str (fun _ _ => rfl))) (blkOk_by (own := [("_law_one", 5)]) (N := llN) (sc := defScope sLawLot) (by decide +kernel))
          (fun _ _ _ _ _ => pg_name (i := 5) scLawLot.nd rfl (Or.inl rfl)) (fun _ _ _ _ _ => pts_one (pt_cmpR (r := rIn K false) op_in_seq (pv 5) (pv 2) (by rfl))) (fun _ _ _ _ _ => pv 5)) (pa_cons (pv 4) pa_nil))) (pa_cons (pe_tup (pa_cons (pv 4) (pa_cons (pv 2) pa_nil))) pa_nil))))
          (pg_tup rfl (pgs_cons (pg_name (i := 6) scLawLot.nd rfl (.inl rfl)) (pgs_cons (pg_name (i := 7) scLawLot.nd rfl (.inr rfl)) pgs_nil)))
        (pss_cons (ps_setLc (i := 8) (own := [("_law_one", 5)]) (g := gName 5) (by rfl) scLawLot.nd rfl rfl (sw_true rfl rfl rfl (by decide +kernel)) (pi_list (pv 6)) (blkOk_by (own := [("_law_one", 5)]) (N := llN) (sc := defScope sLawLot) (by decide +kernel))
            (fun _ _ _ _ _ => pg_name (i := 5) scLawLot.nd rfl (Or.inr rfl)) (fun _ _ _ _ _ => pts_nil)
            (fun _ _ _ _ _ => by exact pe_callB (r := rSum K) (cr_sum rfl) (by rfl) L.sum (by decide +kernel) (pa_cons (pe_lc (own := [("_law_other", 9)]) (wi := iList K (tVar 7)) (g := gName 9) (by rfl) scLawLot.nd (pi_list (pv 7)) (blkOk_by (own := [("_law_other", 9)]) (N := llN) (by kernel_rfl))
              (fun _ _ _ _ _ => pg_name (i := 9) scLawLot.nd rfl (Or.inl rfl)) (fun _ _ _ _ _ => pts_nil) (fun _ _ _ _ _ => pe_dget (by exact hu1) (pv 1) (pe_tup (pa_cons (pv 9) (pa_cons (pv 5) pa_nil))) (fun _ _ => rfl))) pa_nil)))
        (pss_one (ps_if (pt_cmpR (op_neD (by exact hu64)) (pv 6) (pe_lst pa_nil) (nomark _)) (pss_one (ps_expr (pe_bm PySem.F.plainAttrs_list PySem.F.slot_list_append PySem.F.type_list_append mt_append (pv 3) (pa_cons
            (pe_ix ix_list (pv 6) (pe_bm PySem.F.plainAttrs_list PySem.F.slot_list_index PySem.F.type_list_index mt_index (pv 8) (pa_cons (pe_callB (cr_max rfl) (by rfl) L.max (by decide +kernel) (pa_cons (pv 8) pa_nil)) pa_nil)) (fun _ _ => rfl)) pa_nil)))) pss_nil))))
      (pss_one (ps_ret (pe_lc (own := [("_law_one", 5)]) (g := gName 5) (by rfl) scLawLot.nd (pi_list (pe_dget (by exact hu1) (pv 0) pe_str (fun _ _ => rfl))) (blkOk_by (own := [("_law_one", 5)]) (N := llN) (sc := defScope sLawLot) (by decide +kernel))
          (fun _ _ _ _ _ => pg_name (i := 5) scLawLot.nd rfl (Or.inl rfl)) (fun _ _ _ _ _ => pts_one (pt_cmpR (r := rIn K false) op_in_seq (pv 5) (pv 3) (by rfl))) (fun _ _ _ _ _ => pv 5)))))), ?_⟩
    refine ⟨(by exact Nat.zero_le _), fun fl nfl => ?_⟩
    have s1 : Same H (upd H fl (.lst [])) := same_new nfl
    have hfl1 : upd H fl (.lst []) fl = some (.lst []) := upd_same
    generalize upd H fl (.lst []) = H1 at s1 hfl1
    refine ⟨_, rfl, gm, _, rfl, get_people (s1 _ _ hgm), l, rfl, ⟨_, SqL.of (s1 _ _ hl)⟩, fun D nD => ?_⟩
    refine nest_filter (walk_list (K := K) (a := l) (xs := zs.map V.str)) (List.length_map ..) (by omega) nD (fun i x G G' y => y) (fun G s => SqL.of (s _ _ (s1 _ _ hl))) (fun b => !decide (b ∈ ys)) ?_ ?_
    · rintro b G Nx hb sG yes no
      refine ⟨rfl, _, rfl, _, rfl, v, ys.map V.str, rfl, .inl (SqL.of (sG _ _ (s1 _ _ hv))), rfl, all_flat_strs ys, _, rfl, ?_⟩
      rw [if_pos rfl, inV_strs]
      exact ite2 (fun c => ⟨_, rfl, yes c _ (Same.refl _)⟩) (fun c => no (by simpa using c) _ (Same.refl _))
    rintro G2 s2 hD
    have S2 := s1.trans s2
    refine ⟨_, rfl, gm, _, rfl, get_people (S2 _ _ hgm), l, rfl, ⟨_, SqL.of (S2 _ _ hl)⟩, fun D3 nD3 => ?_⟩
    refine nest_filter (walk_list (K := K) (a := l) (xs := zs.map V.str)) (List.length_map ..) (by omega) nD3 (fun i x G G' y => y) (fun G s => SqL.of (s _ _ (S2 _ _ hl))) (fun b => decide (b ∈ ys)) ?_ ?_
    · rintro b G Nx hb sG yes no
      refine ⟨rfl, _, rfl, _, rfl, v, ys.map V.str, rfl, .inl (SqL.of (sG _ _ (S2 _ _ hv))), rfl, all_flat_strs ys, _, rfl, ?_⟩
      rw [if_neg (by decide), inV_strs]
      exact ite2 (fun c => ⟨_, rfl, yes c _ (Same.refl _)⟩) (fun c => no (by simpa using c) _ (Same.refl _))
    rintro G3 s3 hD3
    have S3 := S2.trans s3
    refine ⟨_, rfl, (by show 2 ≤ sizeLine; decide), fun t1 nt1 => ?_⟩
    have s4 : Same G3 (upd G3 t1 (.tup [.ref D3, .ref D])) := same_new nt1
    have h4 : upd G3 t1 (.tup [.ref D3, .ref D]) t1 = some (.tup [.ref D3, .ref D]) := upd_same
    generalize upd G3 t1 (.tup [.ref D3, .ref D]) = G4 at s4 h4
    refine ⟨_, rfl, _, rfl, (by show 2 ≤ sizeLine; decide), fun t2 nt2 => ?_⟩
    have s5 : Same G4 (upd G4 t2 (.tup [.ref D, .ref v])) := same_new nt2
    have h5 : upd G4 t2 (.tup [.ref D, .ref v]) t2 = some (.tup [.ref D, .ref v]) := upd_same
    generalize upd G4 t2 (.tup [.ref D, .ref v]) = G5 at s5 h5
    refine ⟨(by show 2 ≤ sizeLine; decide), fun p np => ?_⟩
    have s6 : Same G5 (upd G5 p (.lst [.ref t1, .ref t2])) := same_new np
    have h6 : upd G5 p (.lst [.ref t1, .ref t2]) p = some (.lst [.ref t1, .ref t2]) := upd_same
    have np1 : fl ≠ p := ne_of_none (s5 _ _ (s4 _ _ (s3 _ _ (s2 _ _ hfl1)))) np
    generalize upd G5 p (.lst [.ref t1, .ref t2]) = G6 at s6 h6
    have S36 := s4.trans (s5.trans s6)
    have S6 := S3.trans S36
    have S16 : Same H1 G6 := s2.trans (s3.trans S36)
    have nDf : D ≠ fl := (ne_of_none hfl1 nD).symm
    have nD3f : D3 ≠ fl := (ne_of_none (s2 _ _ hfl1) nD3).symm
    have keep : ∀ {b : Addr} {o : HO}, H b = some o → b ≠ fl := fun e => ne_of_none e nfl
    have l1 : (oneOf zs ys).length ≤ 8 := Nat.le_trans (List.length_filter_le _ _) z8
    have l2 : (restOf zs ys).length ≤ 8 := Nat.le_trans (List.length_filter_le _ _) z8
    refine ⟨p, rfl, ⟨_, SqL.of h6⟩, ?_⟩
    refine for_list (K := K) (a := p) (xs := [.ref t1, .ref t2]) (fun i σ G => ∃ v5 v6 v7 v8 v9, σ = [some (.ref gm), some (.ref d), some (.ref v), some (.ref fl), some (.ref D), v5, v6, v7, v8, v9] ∧ But fl G6 G ∧ G fl = some (.lst ((([bestOf f (oneOf zs ys) (restOf zs ys), bestOf f (restOf zs ys) (oneOf zs ys)].take i).flatten).map V.str))) ⟨_, _, _, _, _, rfl, But.of_same (Same.refl _), S16 _ _ hfl1⟩ (fun i σ G _ h => ?_) ?_ ?_
    · obtain ⟨_, _, _, _, _, _, b, _⟩ := h
      exact SqL.of (b _ _ np1.symm h6)
    · rintro i y σ G hy ⟨v5, v6, v7, v8, v9, rfl, bG, hfl⟩
      obtain ⟨t, am, ak, ms, ks, rfl, ht, ham, hak, mn, kn, m8, k8, mz, kz, ndm, hi⟩ : ∃ (t am ak : Addr) (ms ks : List Str), y = .ref t ∧ G t = some (.tup [.ref am, .ref ak]) ∧ G am = some (.lst (ms.map V.str)) ∧ G ak = some (.lst (ks.map V.str)) ∧ am ≠ fl ∧ ak ≠ fl ∧ ms.length ≤ 8 ∧ ks.length ≤ 8 ∧
          (∀ b ∈ ms, b ∈ zs) ∧ (∀ b ∈ ks, b ∈ zs ∧ b ∉ ms) ∧ ms.Nodup ∧ [bestOf f (oneOf zs ys) (restOf zs ys), bestOf f (restOf zs ys) (oneOf zs ys)][i]? = some (bestOf f ms ks) := by
        match i, hy with
        | 0, hy =>
          cases hy
          exact ⟨t1, D3, D, oneOf zs ys, restOf zs ys, rfl, bG _ _ (ne_of (s6 _ _ (s5 _ _ h4)) (S16 _ _ hfl1) (fun z => nomatch z)) (s6 _ _ (s5 _ _ h4)), bG _ _ nD3f (S36 _ _ hD3), bG _ _ nDf (S36 _ _ (s3 _ _ hD)), nD3f, nDf, l1, l2, fun b hb => (mem_one.mp hb).1, fun b hb => ⟨(mem_rest.mp hb).1, fun z => (mem_rest.mp hb).2 (mem_one.mp z).2⟩, nd.filter _, rfl⟩
        | 1, hy =>
          cases hy
          exact ⟨t2, D, v, restOf zs ys, oneOf zs ys, rfl, bG _ _ (ne_of (s6 _ _ h5) (S16 _ _ hfl1) (fun z => nomatch z)) (s6 _ _ h5), bG _ _ nDf (S36 _ _ (s3 _ _ hD)), bG _ _ (keep hv) (by rw [one]; exact S6 _ _ hv), nDf, keep hv, l2, l1, fun b hb => (mem_rest.mp hb).1, fun b hb => ⟨(mem_one.mp hb).1, fun z => (mem_rest.mp z).2 (mem_one.mp hb).2⟩, nd.filter _, rfl⟩
        | k + 2, hy => simp at hy
      refine ⟨t, _, rfl, SqT.of ht, rfl, _, _, rfl, _, _, rfl, rfl, ?_⟩
      have hdG : G d = some (.dT (sheetOf zs f)) := bG _ _ (keep hd) (S6 _ _ hd)
      refine ⟨_, rfl, am, rfl, ⟨_, SqL.of ham⟩, fun D5 nD5 => ?_⟩
      refine lc_map (ys := (ms.map (sumOf f ks)).map V.int) (w := walk_list (K := K) (a := am) (xs := ms.map V.str)) (by simp) (small1000 (by rw [List.length_map]; omega)) nD5 (fun H2 s2 => SqL.of (s2 _ _ ham)) (fun _ => rfl) (fun j x y H2 Q2 hxj hyj s2 kk => ?_) (fun G7 s7 hD5 => ?_)
      · rw [List.getElem?_map] at hxj
        obtain ⟨b, hb, rfl⟩ := Option.map_eq_some_iff.mp hxj
        rw [List.getElem?_map, List.getElem?_map, hb] at hyj
        obtain rfl := Option.some.inj hyj
        have hbm := List.mem_of_getElem? hb
        have hkG := s2 _ _ hak
        refine ⟨_, rfl, ak, rfl, ⟨_, SqL.of hkG⟩, fun D6 nD6 => ?_⟩
        refine lc_map (ys := (ks.map fun a => match f (a, b) with | .int i => i | _ => 0).map V.int) (w := walk_list (K := K) (a := ak) (xs := ks.map V.str)) (by simp) (small1000 (by rw [List.length_map]; omega)) nD6 (fun H3 s3 => SqL.of (s3 _ _ hkG)) (fun _ => rfl) (fun j x y H3 Q3 hxj hyj s3 kk3 => ?_) (fun H3 s3 hD6 => ?_)
        · rw [List.getElem?_map] at hxj
          obtain ⟨a, ha, rfl⟩ := Option.map_eq_some_iff.mp hxj
          rw [List.getElem?_map, List.getElem?_map, ha] at hyj
          obtain rfl := Option.some.inj hyj
          obtain ⟨haz, ham2⟩ := kz a (List.mem_of_getElem? ha)
          have hp := mem_pairsOf haz (mz b hbm) (fun z => ham2 (z ▸ hbm))
          obtain ⟨i2, hv2⟩ := hf _ hp
          refine ⟨_, rfl, _, rfl, _, rfl, (by show 2 ≤ sizeLine; decide), fun t' nt' => ?_⟩
          have s8 : Same H3 (upd H3 t' (.tup [.str a, .str b])) := same_new nt'
          have gt := DGet.t (s8 _ _ (s3 _ _ (s2 _ _ hdG))) (k := key2 (a, b)) (show upd H3 t' (.tup [.str a, .str b]) t' = some (.tup ((key2 (a, b)).map kV)) from upd_same)
          rw [valV_sheet hp] at gt
          refine ⟨d, _, rfl, gt, ?_⟩
          have e : f (a, b) = V.int (match f (a, b) with | .int i => i | _ => 0) := by rw [hv2]
          rw [e]
          exact kk3 _ s8
        · exact ⟨D6, _, rfl, SqL.of hD6, kk _ s3⟩
      -- whether there is anybody
      have B7 : But fl G6 G7 := bG.trans (But.of_same s7)
      have fl7 := s7 _ _ hfl
      have am7 := s7 _ _ ham
      refine ⟨_, rfl, (by exact Nat.zero_le _), fun e0 ne0 => ?_⟩
      have s8 : Same G7 (upd G7 e0 (.lst [])) := same_new ne0
      have h8 : upd G7 e0 (.lst []) e0 = some (.lst []) := upd_same
      generalize upd G7 e0 (.lst []) = G8 at s8 h8
      have B8 : But fl G6 G8 := B7.trans (But.of_same s8)
      have fl8 := s8 _ _ fl7
      have am8 := s8 _ _ am7
      have D58 := s8 _ _ hD5
      have tk : ([bestOf f (oneOf zs ys) (restOf zs ys), bestOf f (restOf zs ys) (oneOf zs ys)].take (i + 1)).flatten = ([bestOf f (oneOf zs ys) (restOf zs ys), bestOf f (restOf zs ys) (oneOf zs ys)].take i).flatten ++ bestOf f ms ks := by
        rw [List.take_add_one, hi, List.flatten_append]
        simp
      refine ⟨_, _, .lst (SqL.of am8) (dp_strs ms), .lst (SqL.of h8) .nil, shaped_strs (fun z hz => oz z (mz z hz)), (by decide +kernel), _, rfl, ?_⟩
      cases hms : ms with
      | nil =>
        rw [show PyData.eqv (.list (([] : List Str).map PyData.str)) (.list []) = true by decide +kernel]
        refine iteF ⟨_, _, _, _, _, rfl, B8, ?_⟩
        rw [tk, hms, show bestOf f [] ks = [] from rfl, List.append_nil]
        exact fl8
      | cons c r =>
        rw [show PyData.eqv (.list ((c :: r).map PyData.str)) (.list []) = false by simp [PyData.eqv, PyData.eqvAll]]
        refine iteT ⟨_, rfl, .inl ⟨rfl, _, SqL.of fl8⟩, _, rfl, _, rfl, .inl ⟨rfl, _, SqL.of D58⟩, _, rfl, D5, ms.map (sumOf f ks), rfl, SqL.of D58, by rw [hms]; exact Nat.succ_pos _, fun mx h1 h2 => ?_⟩
        obtain ⟨j, hj, hjm⟩ := first_at h1
        rw [List.getElem?_map] at hj
        obtain ⟨b, hb, rfl⟩ := Option.map_eq_some_iff.mp hj
        refine ⟨D5, (ms.map (sumOf f ks)).map V.int, .int (sumOf f ks b), j, .int (sumOf f ks b), rfl, rfl, SqL.of D58, rfl, (by rw [List.all_map]; exact List.all_eq_true.mpr fun _ _ => rfl), by rw [List.getElem?_map, List.getElem?_map, hb]; rfl, by show (sumOf f ks b == sumOf f ks b) = true; exact beq_self_eq_true _, fun i2 z' hi2 hz' => ?_, ?_⟩
        · rw [List.getElem?_map] at hz'
          obtain ⟨z2, hz2, rfl⟩ := Option.map_eq_some_iff.mp hz'
          have := hjm i2 z2 hi2 hz2
          show (z2 == sumOf f ks b) = false
          exact beq_eq_false_iff_ne.mpr this
        have bo : bestOf f ms ks = [b] := best_at hb (fun c hc => h2 _ (List.mem_map.mpr ⟨c, hc, rfl⟩)) fun i2 c2 hi2 hc2 => hjm i2 _ hi2 (by rw [List.getElem?_map, hc2]; rfl)
        refine ⟨am, ms.map V.str, (j : Int), .str b, rfl, rfl, SqL.of am8, atI_nat (by rw [List.getElem?_map, hb]; rfl), fl, _, .str b, rfl, rfl, fl8, ?_, ?_⟩
        · rw [List.length_map]
          have a1 := best_len (f := f) (ms := oneOf zs ys) (ks := restOf zs ys)
          have a2 := best_len (f := f) (ms := restOf zs ys) (ks := oneOf zs ys)
          refine small1000 ?_
          match i with
          | 0 => exact Nat.zero_le _
          | 1 => simp; omega
          | k + 2 => simp at hi
        refine ⟨_, _, _, _, _, rfl, fun u o nu e => ?_, ?_⟩
        · rw [upd_ne nu]
          exact B8 _ _ nu e
        · rw [upd_same, tk, bo, List.map_append]
          rfl
    · rintro σ G ⟨v5, v6, v7, v8, v9, rfl, bG, hfl⟩
      have efl : (([bestOf f (oneOf zs ys) (restOf zs ys), bestOf f (restOf zs ys) (oneOf zs ys)].take 2).flatten) = bestOf f (oneOf zs ys) (restOf zs ys) ++ bestOf f (restOf zs ys) (oneOf zs ys) := by simp
      have hfl2 : G fl = some (.lst ((bestOf f (oneOf zs ys) (restOf zs ys) ++ bestOf f (restOf zs ys) (oneOf zs ys)).map V.str)) := by rw [← efl]; exact hfl
      have S7 : Same H G := fun u o e => bG _ _ (keep e) (S6 _ _ e)
      refine ⟨_, rfl, gm, _, rfl, get_people (S7 _ _ hgm), l, rfl, ⟨_, SqL.of (S7 _ _ hl)⟩, fun D6 nD6 => ?_⟩
      refine nest_filter (walk_list (K := K) (a := l) (xs := zs.map V.str)) (List.length_map ..) (by omega) nD6 (fun i x G G' y => y) (fun G s => SqL.of (s _ _ (S7 _ _ hl))) (fun b => decide (b ∈ bestOf f (oneOf zs ys) (restOf zs ys) ++ bestOf f (restOf zs ys) (oneOf zs ys))) ?_ ?_
      · rintro b G Nx hb sG yes no
        refine ⟨rfl, _, rfl, _, rfl, fl, _, rfl, .inl (SqL.of (sG _ _ hfl2)), rfl, all_flat_strs _, _, rfl, ?_⟩
        rw [if_neg (by decide), inV_strs]
        exact ite2 (fun c => ⟨_, rfl, yes c _ (Same.refl _)⟩) (fun c => no (by simpa using c) _ (Same.refl _))
      rintro G6 s6 hD6
      exact q _ D6 (S7.trans s6) (S7.free nD6) hD6
end
end K45

set_option Elab.async false
set_option linter.all false
set_option maxRecDepth 100000
set_option maxHeartbeats 4000000
namespace K45
open PySem PySem.Spec PyProof.Rows L2
def spDrawnPage0 : Sp := fun vs H Q _ => ∃ (a gm l : Addr) (zs : List Str) (m : Int), vs = [.ref a, .ref gm] ∧ Pool H a ∧ H gm = some (.dK (planK l m)) ∧ H l = some (.lst (zs.map V.str)) ∧ zs.Nodup ∧ 1 ≤ zs.length ∧ zs.length ≤ 8 ∧ 1 ≤ m ∧ m ≤ 10 ∧
  ∀ H' p f, Pool H' a → But a H H' → H p = none → H' p = some (.dT (sheetOf zs f)) → (∀ q ∈ pairsOf zs, ∃ i : Int, f q = .int i ∧ 0 ≤ i ∧ i ≤ m) → Q (.ref p) H'
def spCrowdOf : Sp := fun vs H Q _ => ∃ (a : Addr) (n6 k10 : Int), vs = [.ref a, .int n6, .int k10] ∧ 1 ≤ n6 ∧ n6 ≤ 6 ∧ 1 ≤ k10 ∧ k10 ≤ 10 ∧ Pool H a ∧ ∀ H' gm l (zs : List Str) (m : Int), Pool H' a → But a H H' → H gm = none → H l = none → H' gm = some (.dK (planK l m)) → H' l = some (.lst (zs.map V.str)) → Rot zs → (zs.length : Int) ≤ n6 → 1 ≤ m → m ≤ k10 → Q (.ref gm) H'
end K45

set_option Elab.async false
set_option linter.all false
set_option maxRecDepth 100000
set_option maxHeartbeats 4000000
namespace K45
open PySem PySem.Spec PyProof.Rows L2
section
variable {P : Program} {w : World} {K : PySem.W.Frag} {mg : Str → Option Value} {base : Heap} {C CP : Addr}
theorem ok_crowdOf {fA fD : Addr} {fd dD : FuncData} (F : Fun K "_law_crowd_of" "_law_crowd_of" sCrowdOf fA fd)
    (GD : FnOk P w K mg base CX0 1 fD dD ["_law_pool", "_law_many_here"] spDraw) (kD : PySem.W.keepIn K (.ref fD) = true) (bD : Binds K dD ["_law_pool", "_law_many_here"] []) (gD : mg "_law_draw" = some (.ref fD)) (B : Bt mg) : FnOk P w K mg base CX0 2 fA fd ["_law_pool", "_law_many_here", "_law_most"] spCrowdOf := by
  refine F.ok scCrowdOf (fun vs H Q E h => ?_) (fun cdv A outer s H vs Q E hr h => ?_)
  · obtain ⟨a, n6, k10, rfl, _⟩ := h
    rfl
  · obtain ⟨a, n6, k10, rfl, c1, c2, c3, c4, hP, q⟩ := h
    refine ⟨_, pss_cons (ps_set (i := 3) scCrowdOf.nd rfl (.inl rfl) (pe_slice sl_list (pe_lst (pa_cons pe_str (pa_cons pe_str (pa_cons pe_str (pa_cons pe_str (pa_cons pe_str (pa_cons pe_str pa_nil))))))) po_none (po_some (pe_op op_add pe_int (pe_call GD hr (by rfl) gD kD bD .nil pass0 (pa_cons (pv 0) (pa_cons (pv 1) pa_nil)))))))
      (pss_cons (ps_set (i := 4) scCrowdOf.nd rfl (.inl rfl) (pe_call GD hr (by rfl) gD kD bD .nil pass0 (pa_cons (pv 0) (pa_cons (pe_callB call_len_seq (by rfl) B.len PySem.boot_len (pa_cons (pv 3) pa_nil)) pa_nil))))
      (pss_one (ps_ret (pe_disp (pps_cons pe_str (pe_op op_cat (pe_slice sl_list (pv 3) (po_some (pv 4)) po_none) (pe_slice sl_list (pv 3) po_none (po_some (pv 4))))
        (pps_cons pe_str (pe_op op_add pe_int (pe_call GD hr (by rfl) gD kD bD .nil pass0 (pa_cons (pv 0) (pa_cons (pv 2) pa_nil)))) pps_nil)) (by rfl) (by rfl) (fun z => by cases z) (by decide))))), ?_⟩
    have free : ∀ {G : Hp} {p : Addr}, But a H G → Pool G a → G p = none → H p = none := fun {G p} b P n => by
      cases e : H p with
      | none => rfl
      | some o =>
        have n5 : p ≠ a := fun z => by
          obtain ⟨g, r, ha, _⟩ := P
          rw [z, ha] at n
          cases n
        rw [b _ _ n5 e] at n
        cases n
    have na : ∀ {G : Hp} {p : Addr}, Pool G a → G p = none → p ≠ a := fun P n z => by
      obtain ⟨g, r, ha, _⟩ := P
      rw [z, ha] at n
      cases n
    refine ⟨(by show 6 ≤ sizeLine; decide), fun x nx => ?_⟩
    have s1 : Same H (upd H x (.lst (names6.map V.str))) := same_new nx
    have h1 : upd H x (.lst (names6.map V.str)) x = some (.lst (names6.map V.str)) := upd_same
    have nxa := na hP nx
    refine ⟨_, rfl, _, rfl, a, n6, rfl, hP.same s1, by omega, by omega, fun r H2 r0 r1 P2 b2 => ?_⟩
    obtain ⟨k, rfl⟩ : ∃ k : Nat, r = (k : Int) := ⟨r.toNat, by omega⟩
    have B2 : But a H H2 := (But.of_same s1).trans b2
    refine ⟨_, _, rfl, rfl, _, rfl, x, names6.map V.str, rfl, SqL.of (b2 _ _ nxa h1), fun p np => ?_⟩
    have ek : (1 : Int) + (k : Int) = ((k + 1 : Nat) : Int) := by omega
    rw [ek, km_take, ← List.map_take]
    have s3 : Same H2 (upd H2 p (.lst ((names6.take (k + 1)).map V.str))) := same_new np
    have h3 : upd H2 p (.lst ((names6.take (k + 1)).map V.str)) p = some (.lst ((names6.take (k + 1)).map V.str)) := upd_same
    have npa := na P2 np
    have P3 := P2.same s3
    have B3 := B2.trans (But.of_same s3)
    generalize upd H2 p (.lst ((names6.take (k + 1)).map V.str)) = H3 at s3 h3 P3 B3
    have lk : (names6.take (k + 1)).length = k + 1 := by
      rw [List.length_take]
      show min (k + 1) 6 = k + 1
      omega
    refine ⟨_, rfl, _, rfl, p, _, rfl, .inl (SqL.of h3), a, _, rfl, P3, by rw [List.length_map, lk]; omega, by rw [List.length_map, lk]; omega, fun r2 H4 r20 r21 P4 b4 => ?_⟩
    obtain ⟨j, rfl⟩ : ∃ j : Nat, r2 = (j : Int) := ⟨r2.toNat, by omega⟩
    have h4 := b4 _ _ npa h3
    have B4 := B3.trans b4
    refine fun gm ngm => ?_
    have s5 : Same H4 (upd H4 gm (.dK [])) := same_new ngm
    have hgm5 : upd H4 gm (.dK []) gm = some (.dK []) := upd_same
    have ngma := na P4 ngm
    have ngmH := free B4 P4 ngm
    have P5 := P4.same s5
    have B5 := B4.trans (But.of_same s5)
    have h5 := s5 _ _ h4
    generalize upd H4 gm (.dK []) = H5 at s5 hgm5 P5 B5 h5
    refine ⟨_, rfl, _, rfl, _, rfl, p, _, rfl, SqL.of h5, fun l1 nl1 => ?_⟩
    rw [km_drop, ← List.map_drop]
    have s6 : Same H5 (upd H5 l1 (.lst (((names6.take (k + 1)).drop j).map V.str))) := same_new nl1
    have h6 : upd H5 l1 (.lst (((names6.take (k + 1)).drop j).map V.str)) l1 = some (.lst (((names6.take (k + 1)).drop j).map V.str)) := upd_same
    generalize upd H5 l1 (.lst (((names6.take (k + 1)).drop j).map V.str)) = H6 at s6 h6
    refine ⟨_, rfl, _, rfl, _, rfl, p, _, rfl, SqL.of (s6 _ _ h5), fun l2 nl2 => ?_⟩
    rw [km_take, ← List.map_take]
    have s7 : Same H6 (upd H6 l2 (.lst (((names6.take (k + 1)).take j).map V.str))) := same_new nl2
    have h7 : upd H6 l2 (.lst (((names6.take (k + 1)).take j).map V.str)) l2 = some (.lst (((names6.take (k + 1)).take j).map V.str)) := upd_same
    generalize upd H6 l2 (.lst (((names6.take (k + 1)).take j).map V.str)) = H7 at s7 h7
    have rot : Rot ((names6.take (k + 1)).drop j ++ (names6.take (k + 1)).take j) := rot_of (by omega) (by omega)
    have len6 : (((names6.take (k + 1)).drop j ++ (names6.take (k + 1)).take j).length : Int) ≤ n6 := by
      have e := lk
      simp only [List.length_append, List.length_drop, List.length_take] at e ⊢
      omega
    refine ⟨l1, l2, _, _, rfl, rfl, s7 _ _ h6, h7, ?_, fun l nl => ?_⟩
    · have := rot.most
      rw [List.length_append] at this
      rw [List.length_map, List.length_map]
      exact Nat.le_of_lt (small1000 (by omega))
    rw [← List.map_append]
    generalize (names6.take (k + 1)).drop j ++ (names6.take (k + 1)).take j = zs at rot len6
    have s8 : Same H7 (upd H7 l (.lst (zs.map V.str))) := same_new nl
    have h8 : upd H7 l (.lst (zs.map V.str)) l = some (.lst (zs.map V.str)) := upd_same
    have S58 := s6.trans (s7.trans s8)
    have B8 := B5.trans (But.of_same S58)
    have P8 := P5.same S58
    have nlH : H l = none := free (B5.trans (But.of_same (s6.trans s7))) (P5.same (s6.trans s7)) nl
    have nla : l ≠ a := na (P5.same (s6.trans s7)) nl
    have hgm8 := S58 _ _ hgm5
    generalize upd H7 l (.lst (zs.map V.str)) = H8 at h8 B8 P8 hgm8
    refine ⟨_, rfl, _, rfl, a, k10, rfl, P8, by omega, by omega, fun r3 H9 r30 r31 P9 b9 => ?_⟩
    have hgm9 := b9 _ _ ngma hgm8
    refine ⟨_, _, rfl, rfl, hgm9, planK l (1 + r3), rfl, (by show 2 ≤ 15; decide), ?_⟩
    rw [plan_merge]
    have h9 := b9 _ _ nla h8
    refine q _ gm l zs (1 + r3) ?_ (but_fresh (B8.trans b9) ngmH) ngmH nlH upd_same ?_ rot len6 (by omega) (by omega)
    · obtain ⟨g, r, ha, hb⟩ := P9
      exact ⟨g, r, by rw [upd_ne ngma.symm]; exact ha, hb⟩
    · rw [upd_ne (ne_of h9 hgm9 (fun z => nomatch z))]
      exact h9
end
end K45

set_option Elab.async false
set_option linter.all false
set_option maxRecDepth 100000
set_option maxHeartbeats 4000000
namespace K45
open PySem PySem.Spec PyProof.Rows L2
def RowsAt (H : Hp) (rss : List (List Str)) (as : List Addr) : Prop := Paired (fun r a => H a = some (.lst (r.map V.str))) rss as
def spFirsts : Sp := fun vs H Q _ => ∃ (l : Addr) (zs : List Str), vs = [.ref l] ∧ H l = some (.lst (zs.map V.str)) ∧ zs.length ≤ 6 ∧ ∀ H' p as, Same H H' → H' p = some (.lst (as.map V.ref)) → RowsAt H' (subsOf zs) as → Q (.ref p) H'
theorem paired_app {α β : Type} {R : α → β → Prop} : ∀ {a1 a2 : List α} {b1 b2 : List β}, Paired R a1 b1 → Paired R a2 b2 → Paired R (a1 ++ a2) (b1 ++ b2)
  | _, _, _, _, .nil, h => h
  | _, _, _, _, .cons h t, k => .cons h (paired_app t k)
theorem keep_rows {H G : Hp} : ∀ {rss : List (List Str)} {as : List Addr}, RowsAt H rss as → (∀ a ∈ as, ∀ o, H a = some o → G a = some o) → RowsAt G rss as
  | _, _, .nil, _ => .nil
  | _, _, .cons h t, k => .cons (k _ (List.mem_cons_self ..) _ h) (keep_rows t fun a ha => k a (List.mem_cons_of_mem _ ha))
section
variable {P : Program} {w : World} {K : PySem.W.Frag} {mg : Str → Option Value} {base : Heap} {C CP : Addr}
theorem ok_firsts {fA : Addr} {fd : FuncData} (F : Fun K "_law_firsts" "_law_firsts" sFirsts fA fd) : FnOk P w K mg base CX0 1 fA fd ["_law_people"] spFirsts := by
  refine F.ok scFirsts (fun vs H Q E h => ?_) (fun cdv A outer s H vs Q E hr h => ?_)
  · obtain ⟨l, zs, rfl, _⟩ := h
    rfl
  · obtain ⟨l, zs, rfl, hl, z6, q⟩ := h
    refine ⟨_, pss_cons (ps_set (i := 1) scFirsts.nd rfl (.inl rfl) (pe_lst (pa_cons (pe_lst pa_nil) pa_nil)))
      (pss_cons (ps_for PassesOwn.never rfl (pi_list (pv 0)) (pg_name (i := 2) scFirsts.nd rfl (.inr rfl))
        (pss_one (ps_set (i := 1) scFirsts.nd rfl (.inl rfl) (pe_op op_cat (pv 1) (pe_lc (own := [("_law_row", 3)]) (g := gName 3) (by rfl) scFirsts.nd (pi_list (pv 1)) (blkOk_by (own := [("_law_row", 3)]) (N := ["_law_people", "_law_found", "_law_person", "_law_row"]) (sc := defScope sFirsts) (by decide +kernel))
          (fun _ _ _ _ _ => pg_name (i := 3) scFirsts.nd rfl (Or.inl rfl)) (fun _ _ _ _ _ => pts_nil) (fun _ _ _ _ _ => pe_op op_cat (pv 3) (pe_lst (pa_cons (pv 2) pa_nil))))))))
      (pss_one (ps_ret (pv 1)))), ?_⟩
    have two : ∀ {i : Nat}, i ≤ 6 → 2 ^ i ≤ 64 := fun {i} h => by
      have : 2 ^ i ≤ 2 ^ 6 := Nat.pow_le_pow_right (by decide) h
      omega
    refine ⟨(by exact Nat.zero_le _), fun e0 ne0 => ⟨(by show 1 ≤ sizeLine; decide), fun p0 np0 => ?_⟩⟩
    have s1 : Same H (upd H e0 (.lst [])) := same_new ne0
    have s2 : Same (upd H e0 (.lst [])) (upd (upd H e0 (.lst [])) p0 (.lst [.ref e0])) := same_new np0
    have h1 := s2 _ _ (show upd H e0 (.lst []) e0 = some (.lst []) from upd_same)
    have h2 : upd (upd H e0 (.lst [])) p0 (.lst [.ref e0]) p0 = some (.lst [.ref e0]) := upd_same
    have s12 := s1.trans s2
    generalize upd (upd H e0 (.lst [])) p0 (.lst [.ref e0]) = H2 at h1 h2 s12
    refine ⟨_, rfl, l, rfl, ⟨_, SqL.of (s12 _ _ hl)⟩, ?_⟩
    refine for_list (K := K) (a := l) (xs := zs.map V.str) (fun i σ G => ∃ p as rss v2, σ = [some (.ref l), some (.ref p), v2, none] ∧ Same H G ∧ G p = some (.lst (as.map V.ref)) ∧ RowsAt G rss as ∧ rss = subsOf (zs.take i)) ⟨p0, [e0], [[]], _, rfl, s12, h2, .cons h1 .nil, rfl⟩ (fun i σ G _ h => ?_) ?_ ?_
    · obtain ⟨_, _, _, _, _, sG, _⟩ := h
      exact SqL.of (sG _ _ hl)
    · rintro i y σ G hy ⟨p, as, rss, v2, rfl, sG, hp, hrs, erss⟩
      have hlen0 : rss.length = 2 ^ (zs.take i).length := by rw [erss]; exact subs_len _
      have hsub : ∀ r ∈ rss, r.Sublist (zs.take i) := by rw [erss]; exact subs_sub
      rw [List.getElem?_map] at hy
      obtain ⟨z, hz, rfl⟩ := Option.map_eq_some_iff.mp hy
      have hi : i < zs.length := (List.getElem?_eq_some_iff.mp hz).1
      have hlen : rss.length = 2 ^ i := by rw [hlen0, List.length_take, Nat.min_eq_left (by omega)]
      have l64 : rss.length ≤ 64 := by rw [hlen]; exact two (by omega)
      have las : as.length = rss.length := hrs.length.symm
      refine ⟨_, rfl, _, rfl, p, rfl, ⟨_, SqL.of hp⟩, fun D nD => ?_⟩
      refine nest_it (walk_list (K := K) (a := p) (xs := as.map V.ref)) (fun j G' => Same G G' ∧ ∃ bs : List Addr, G' D = some (.lst (bs.map V.ref)) ∧ D ∉ bs ∧ RowsAt G' ((rss.take j).map fun r => r ++ [z]) bs) ⟨same_new nD, [], upd_same, by simp, .nil⟩ (fun j G' _ h => SqL.of (h.1 _ _ hp)) ?_ ?_
      · rintro j y G' G2 hj ⟨sG', bs, hD, nDb, hbs⟩ ⟨rfl, hy2⟩
        rw [List.getElem?_map] at hy2
        obtain ⟨a, ha, rfl⟩ := Option.map_eq_some_iff.mp hy2
        obtain ⟨r, hr2, har⟩ := paired_at hrs ha
        have hr6 : r.length ≤ 6 := Nat.le_trans (hsub r (List.mem_of_getElem? hr2)).length_le (by rw [List.length_take]; omega)
        refine ⟨rfl, _, rfl, _, rfl, (by show 1 ≤ sizeLine; decide), fun e ne => ?_⟩
        have s3 : Same G2 (upd G2 e (.lst [.str z])) := same_new ne
        refine ⟨a, e, r.map V.str, [.str z], rfl, rfl, s3 _ _ (sG' _ _ har), upd_same, by rw [List.length_map]; exact Nat.le_of_lt (small1000 (by simp; omega)), fun b nb => ?_⟩
        have s4 : Same (upd G2 e (.lst [.str z])) (upd (upd G2 e (.lst [.str z])) b (.lst (r.map V.str ++ [.str z]))) := same_new nb
        have h4 : upd (upd G2 e (.lst [.str z])) b (.lst (r.map V.str ++ [.str z])) b = some (.lst ((r ++ [z]).map V.str)) := by rw [upd_same, List.map_append]; rfl
        have S4 := s3.trans s4
        have nbD : b ≠ D := (ne_of_none (s3 _ _ hD) nb).symm
        generalize upd (upd G2 e (.lst [.str z])) b (.lst (r.map V.str ++ [.str z])) = G4 at s4 h4 S4
        refine ⟨_, S4 _ _ hD, ?_, fun c o ec => ?_, bs ++ [b], ?_, ?_, ?_⟩
        · rw [List.length_map, ← hbs.length, List.length_map, List.length_take]
          exact Nat.lt_of_le_of_lt (Nat.min_le_right _ _) (small1000 (by omega))
        · rw [upd_ne (ne_of_none ec nD)]
          exact S4 _ _ (sG' _ _ ec)
        · rw [upd_same, List.map_append]
          rfl
        · rw [List.mem_append]
          rintro (h | h)
          · exact nDb h
          · exact nbD (List.mem_singleton.mp h).symm
        · rw [List.take_add_one, hr2, List.map_append]
          refine paired_app ?_ (.cons ?_ .nil)
          · refine keep_rows hbs fun b' hb' o e' => ?_
            rw [upd_ne (fun (z : b' = D) => nDb (z ▸ hb'))]
            exact S4 _ _ e'
          · rw [upd_ne nbD]
            exact h4
      rintro G' ⟨sG', bs, hD, nDb, hbs⟩
      rw [List.length_map, las, List.take_length] at hbs
      refine ⟨p, D, _, _, rfl, rfl, sG' _ _ hp, hD, ?_, fun p2 np2 => ?_⟩
      · have := hbs.length
        rw [List.length_map] at this
        rw [List.length_map, List.length_map]
        exact Nat.le_of_lt (small1000 (by omega))
      have s5 : Same G' (upd G' p2 (.lst (as.map V.ref ++ bs.map V.ref))) := same_new np2
      refine ⟨p2, as ++ bs, rss ++ rss.map fun r => r ++ [z], _, rfl, sG.trans (sG'.trans s5), by rw [upd_same, List.map_append], paired_app (keep_rows hrs fun b' _ o e' => s5 _ _ (sG' _ _ e')) (keep_rows hbs fun b' _ o e' => s5 _ _ e'), ?_⟩
      rw [take_snoc hz, subsOf_snoc, ← erss]
    · rintro σ G ⟨p, as, rss, v2, rfl, sG, hp, hrs, erss⟩
      rw [List.length_map, List.take_length] at erss
      rw [erss] at hrs
      exact ⟨_, rfl, q G p as sG hp hrs⟩
end
end K45

set_option Elab.async false
set_option linter.all false
set_option maxRecDepth 100000
set_option maxHeartbeats 4000000
namespace K45
open PySem PySem.Spec PyProof.Rows L2
def spLowest : Sp := fun vs H Q _ => ∃ t b : Int, vs = [.int t, .int b] ∧ 0 < b ∧ b.natAbs < 2 ^ 64 ∧ ∀ H' p, Same H H' → H p = none → H' p = some (.tup [.int (low2 t b).1, .int (low2 t b).2]) → Q (.ref p) H'
def spPower : Sp := fun vs H Q _ => ∃ (b : Int) (n : Nat), vs = [.int b, .int (n : Int)] ∧ b.natAbs < 2 ^ 4 ∧ n ≤ 100 ∧ Q (.int (b ^ n)) H
def spDouble : Sp := fun vs H Q _ => ∃ (n : Nat), vs = [.int (n : Int)] ∧ n ≤ 50 ∧ Q (.int (2 ^ n)) H
def spHalves (K : PySem.W.Frag) : Sp := fun vs H Q _ => ∃ (l : Addr) (xs : List V), vs = [.ref l] ∧ SqL K H l xs ∧ xs.length ≤ 8 ∧ Q (.int (2 * 2 ^ xs.length)) H
theorem pow_bits {b : Int} (h : b.natAbs < 2 ^ 4) (i : Nat) : (b ^ i).natAbs < 2 ^ (4 * i + 1) := by
  rw [Int.natAbs_pow, Nat.pow_succ, Nat.pow_mul]
  have h1 : b.natAbs ^ i ≤ (2 ^ 4) ^ i := Nat.pow_le_pow_left (Nat.le_of_lt h) i
  have h2 : 0 < (2 ^ 4) ^ i := Nat.pow_pos (by decide)
  omega
section
variable {P : Program} {w : World} {K : PySem.W.Frag} {mg : Str → Option Value} {base : Heap} {C CP : Addr}
theorem ok_lowest {fA : Addr} {fd : FuncData} (F : Fun K "lowest_terms" "lowest_terms" sLowestTerms fA fd) (gG : mg "gcd" = some (.builtin "math.gcd")) : FnOk P w K mg base CX0 1 fA fd ["top", "bottom"] spLowest := by
  refine F.ok scLowestTerms (fun vs H Q E h => ?_) (fun cdv A outer s H vs Q E hr h => ?_)
  · obtain ⟨t, b, rfl, _⟩ := h
    rfl
  · obtain ⟨t, b, rfl, hb, hs, q⟩ := h
    refine ⟨_, pss_cons (ps_set (i := 2) scLowestTerms.nd rfl (.inl rfl) (pe_callBfun cr_gcd (by rfl) gG (pa_cons (pv 0) (pa_cons (pv 1) pa_nil))))
      (pss_one (ps_ret (pe_tup (pa_cons (pe_op op_fdivW (pv 0) (pv 2)) (pa_cons (pe_op op_fdivW (pv 1) (pv 2)) pa_nil))))), ?_⟩
    have g0 := gcd_pos (t := t) hb
    have g1 := gcd_le (t := t) hb
    have gw : (gcdI t b).natAbs < 2 ^ 64 := by omega
    refine ⟨_, rfl, _, rfl, t, b, rfl, _, rfl, _, rfl, _, _, rfl, rfl, wide_div g0 gw (by decide) (by decide), _, rfl, _, rfl, _, _, rfl, rfl, wide_div g0 gw (by decide) (by decide), (by show 2 ≤ sizeLine; decide), fun p np => ?_⟩
    exact q _ p (same_new np) np upd_same
theorem ok_power {fA : Addr} {fd : FuncData} (F : Fun K "power" "power" sPower fA fd) (zr : mg "range" = none) : FnOk P w K mg base CX0 1 fA fd ["base", "many"] spPower := by
  refine F.ok scPower (fun vs H Q E h => ?_) (fun cdv A outer s H vs Q E hr h => ?_)
  · obtain ⟨b, n, rfl, _⟩ := h
    rfl
  · obtain ⟨b, n, rfl, hb, hn, q⟩ := h
    refine ⟨_, pss_cons (ps_set (i := 2) scPower.nd rfl (.inl rfl) pe_int)
      (pss_cons (ps_for PassesOwn.never rfl (pi_range1 (by rfl) zr (pa_cons (pv 1) pa_nil)) (pg_name (i := 3) scPower.nd rfl (.inl rfl)) (pss_one (ps_set (i := 2) scPower.nd rfl (.inl rfl) (pe_op op_mulW (pv 2) (pv 0)))))
      (pss_one (ps_ret (pv 2)))), ?_⟩
    refine ⟨_, rfl, _, rfl, by omega, by omega, ?_⟩
    refine for_range (lo := 0) (fun i σ H' => ∃ v, σ = [some (.int b), some (.int (n : Int)), some (.int (b ^ i)), v] ∧ H' = H) ⟨_, by rw [Int.pow_zero]; rfl, rfl⟩ ?_ ?_
    · rintro i σ H' hi ⟨v, rfl, rfl⟩
      refine ⟨_, rfl, _, rfl, _, _, rfl, rfl, wide_mul (pow_bits hb i) hb (by omega) (by decide) (by omega), some (.int (0 + (i : Int))), by rw [Int.pow_succ]; rfl, rfl⟩
    · rintro σ H' ⟨v, rfl, rfl⟩
      rw [Int.toNat_natCast]
      exact ⟨_, rfl, q⟩
theorem ok_double {fA : Addr} {fd : FuncData} (F : Fun K "_law_double" "_law_double" sDouble fA fd) (zr : mg "range" = none) : FnOk P w K mg base CX0 1 fA fd ["_law_many_here"] spDouble := by
  refine F.ok scDouble (fun vs H Q E h => ?_) (fun cdv A outer s H vs Q E hr h => ?_)
  · obtain ⟨n, rfl, _⟩ := h
    rfl
  · obtain ⟨n, rfl, hn, q⟩ := h
    refine ⟨_, pss_cons (ps_set (i := 1) scDouble.nd rfl (.inl rfl) pe_int)
      (pss_cons (ps_for PassesOwn.never rfl (pi_range1 (by rfl) zr (pa_cons (pv 0) pa_nil)) (pg_name (i := 2) scDouble.nd rfl (.inl rfl)) (pss_one (ps_set (i := 1) scDouble.nd rfl (.inl rfl) (pe_op op_mul (pv 1) pe_int))))
      (pss_one (ps_ret (pv 1)))), ?_⟩
    refine ⟨_, rfl, _, rfl, by omega, by omega, ?_⟩
    refine for_range (lo := 0) (fun i σ H' => ∃ v, σ = [some (.int (n : Int)), some (.int (2 ^ i)), v] ∧ H' = H) ⟨_, by rw [Int.pow_zero]; rfl, rfl⟩ ?_ ?_
    · rintro i σ H' hi ⟨v, rfl, rfl⟩
      refine ⟨_, rfl, _, _, rfl, rfl, .inr ⟨by decide, by decide⟩, some (.int (0 + (i : Int))), by rw [Int.pow_succ]; rfl, rfl⟩
    · rintro σ H' ⟨v, rfl, rfl⟩
      rw [Int.toNat_natCast]
      exact ⟨_, rfl, q⟩
theorem ok_halves {fA fP : Addr} {fd dP : FuncData} (F : Fun K "halves_in_all" "halves_in_all" sHalvesInAll fA fd) (GP : FnOk P w K mg base CX0 1 fP dP ["base", "many"] spPower) (kP : PySem.W.keepIn K (.ref fP) = true) (bP : Binds K dP ["base", "many"] []) (gP : mg "power" = some (.ref fP)) (zl : mg "len" = none) :
    FnOk P w K mg base CX0 2 fA fd ["people"] (spHalves K) := by
  refine F.ok scHalvesInAll (fun vs H Q E h => ?_) (fun cdv A outer s H vs Q E hr h => ?_)
  · obtain ⟨l, xs, rfl, _⟩ := h
    rfl
  · obtain ⟨l, xs, rfl, hl, x8, q⟩ := h
    refine ⟨_, pss_one (ps_ret (pe_op op_mul pe_int (pe_call GP hr (by rfl) gP kP bP .nil pass0 (pa_cons pe_int (pa_cons (pe_callB call_len_seq (by rfl) zl PySem.boot_len (pa_cons (pv 0) pa_nil)) pa_nil))))), ?_⟩
    exact ⟨_, rfl, l, _, rfl, .inl hl, 2, xs.length, rfl, by decide, by omega, _, _, rfl, rfl, .inl ⟨by decide, by decide⟩, q⟩
theorem gcd_step {a b : Int} (ha : 0 ≤ a) (hb : 0 < b) : gcdI b (a % b) = gcdI a b := by
  unfold gcdI
  have e : (a % b).natAbs = a.natAbs % b.natAbs := by
    have := Int.emod_nonneg a (Int.ne_of_gt hb)
    have h2 : ((a % b).natAbs : Int) = ((a.natAbs % b.natAbs : Nat) : Int) := by
      rw [Int.natCast_emod, Int.natAbs_of_nonneg this, Int.natAbs_of_nonneg ha, Int.natAbs_of_nonneg (Int.le_of_lt hb)]
    exact Int.ofNat.inj h2
  rw [e, Nat.gcd_comm a.natAbs b.natAbs, Nat.gcd_rec b.natAbs a.natAbs, Nat.gcd_comm]
theorem gcd_zero {a : Int} (ha : 0 ≤ a) : gcdI a 0 = a := by
  unfold gcdI
  rw [show (0 : Int).natAbs = 0 from rfl, Nat.gcd_zero_right, Int.natAbs_of_nonneg ha]
theorem gcd_abs {t b : Int} : gcdI (if 0 - t > t then 0 - t else t) b = gcdI t b := by
  unfold gcdI
  congr 2
  split <;> omega
theorem ok_low {fA : Addr} {fd : FuncData} (F : Fun K "_law_low" "_law_low" sLow fA fd) (B : Bt mg) : FnOk P w K mg base CX0 1 fA fd ["_law_top", "_law_bottom"] spLowest := by
  refine F.ok scLow (fun vs H Q E h => ?_) (fun cdv A outer s H vs Q E hr h => ?_)
  · obtain ⟨t, b, rfl, _⟩ := h
    rfl
  · obtain ⟨t, b, rfl, hb, hs, q⟩ := h
    refine ⟨_, pss_cons (ps_par (i := 2) (j := 3) (by rfl) scLow.nd rfl rfl (by decide) rfl rfl (pa_cons (pe_callB (call_max2 rfl) (by rfl) B.max (by decide +kernel) (pa_cons (pe_callTy call_int1 (by rfl) B.int (by decide +kernel) (pa_cons (pv 0) pa_nil)) (pa_cons (pe_callTy call_int1 (by rfl) B.int (by decide +kernel) (pa_cons (pe_op op_sub pe_int (pv 0)) pa_nil)) pa_nil))) (pa_cons (pv 1) pa_nil)) (by rfl))
      (pss_cons (ps_while PassesOwn.never (pt_cmpR op_gt (pv 3) pe_int (nomark _)) (pss_one (ps_par (i := 2) (j := 3) (by rfl) scLow.nd rfl rfl (by decide) rfl rfl (pa_cons (pv 3) (pa_cons (pe_op op_modN (pe_callTy call_int1 (by rfl) B.int (by decide +kernel) (pa_cons (pv 2) pa_nil)) (pv 3)) pa_nil)) (by rfl))))
      (pss_one (ps_ret (pe_tup (pa_cons (pe_op op_fdivW (pv 0) (pv 2)) (pa_cons (pe_op op_fdivW (pv 1) (pv 2)) pa_nil)))))), ?_⟩
    refine ⟨_, rfl, .inl ⟨_, rfl, _, rfl, _, _, rfl, rfl, .inl ⟨_, rfl, _, _, rfl, _, rfl, _, _, rfl, ?_⟩⟩⟩
    dsimp only [List.set]
    have g0 := gcd_pos (t := t) hb
    have g1 := gcd_le (t := t) hb
    have gw : (gcdI t b).natAbs < 2 ^ 64 := by omega
    refine while_by (fun σ G => ∃ x y : Int, σ = [some (.int t), some (.int b), some (.int x), some (.int y)] ∧ G = H ∧ 0 ≤ x ∧ 0 ≤ y ∧ gcdI x y = gcdI t b) (fun σ _ => match σ with | [_, _, _, some (.int y)] => y.toNat | _ => 0) ⟨_, b, rfl, rfl, ?_, Int.le_of_lt hb, gcd_abs⟩ ?_ ?_
    · split <;> omega
    · rintro σ G ⟨x, y, rfl, rfl, x0, y0, e⟩
      refine ⟨_, rfl, _, _, rfl, rfl, _, rfl, ite2 (fun c => ?_) (fun c => ?_)⟩
      · have yp : 0 < y := of_decide_eq_true c
        refine ⟨_, rfl, _, rfl, .inl ⟨_, rfl, _, rfl, _, _, rfl, rfl, Int.ne_of_gt yp, _, _, rfl, ?_⟩⟩
        dsimp only [List.set]
        rw [Int.fmod_eq_emod_of_nonneg _ y0]
        have z0 := Int.emod_nonneg x (Int.ne_of_gt yp)
        have z1 := Int.emod_lt_of_pos x yp
        exact ⟨⟨y, x % y, rfl, rfl, y0, z0, by rw [gcd_step x0 yp]; exact e⟩, by omega⟩
      · have yz : y = 0 := by
          have : ¬ 0 < y := of_decide_eq_false (by simpa using c)
          omega
        subst yz
        rw [gcd_zero x0] at e
        subst e
        refine ⟨_, rfl, _, rfl, _, _, rfl, rfl, wide_div g0 gw (by decide) (by decide), _, rfl, _, rfl, _, _, rfl, rfl, wide_div g0 gw (by decide) (by decide), (by show 2 ≤ sizeLine; decide), fun p np => ?_⟩
        exact q _ p (same_new np) np upd_same
    · rintro σ G Q1 Q2 mono ⟨v, h1, i, j, h2, h3, b, h5, h6⟩
      exact ⟨v, h1, i, j, h2, h3, b, h5, mono _ _ h6⟩
end
end K45

set_option Elab.async false
set_option linter.all false
set_option maxRecDepth 100000
set_option maxHeartbeats 4000000
namespace K45
open PySem PySem.Spec PyProof.Rows L2
def TupsAt (H : Hp) (rows : List (List Int)) (as : List Addr) : Prop := Paired (fun r a => H a = some (.tup (r.map V.int))) rows as
def spTuples : Sp := fun vs H Q _ => ∃ (m n : Nat), vs = [.int (m : Int), .int (n : Int)] ∧ 1 ≤ m ∧ m ≤ 10 ∧ n ≤ 64 ∧ (m + 1) ^ n ≤ 4096 ∧ ∀ H' p as, Same H H' → H' p = some (.lst (as.map V.ref)) → TupsAt H' (tupsOf m n) as → Q (.ref p) H'
theorem keep_tups {H G : Hp} : ∀ {rows : List (List Int)} {as : List Addr}, TupsAt H rows as → (∀ a ∈ as, ∀ o, H a = some o → G a = some o) → TupsAt G rows as
  | _, _, .nil, _ => .nil
  | _, _, .cons h t, k => .cons (k _ (List.mem_cons_self ..) _ h) (keep_tups t fun a ha => k a (List.mem_cons_of_mem _ ha))
def extT (m : Nat) (r : List Int) : List (List Int) := (List.range (m + 1)).map fun (n : Nat) => r ++ [(n : Int)]
theorem ext_take (r : List Int) (k : Nat) : ((List.range (k + 1)).map fun (n : Nat) => r ++ [(n : Int)]) = ((List.range k).map fun (n : Nat) => r ++ [(n : Int)]) ++ [r ++ [(k : Int)]] := by
  rw [List.range_succ, List.map_append]
  rfl
theorem flat_take {m : Nat} {L : List (List Int)} {j : Nat} {r : List Int} (h : L[j]? = some r) : (L.take (j + 1)).flatMap (extT m) = (L.take j).flatMap (extT m) ++ extT m r := by
  rw [List.take_add_one, h, List.flatMap_append]
  simp
theorem flat_len {m : Nat} : ∀ {L : List (List Int)}, (L.flatMap (extT m)).length = (m + 1) * L.length
  | [] => rfl
  | a :: L => by
    rw [List.flatMap_cons, List.length_append, flat_len (L := L), List.length_cons, Nat.mul_add]
    unfold extT
    rw [List.length_map, List.length_range]
    omega
abbrev atN : List Str := ["most", "many", "told", "_", "row", "number"]
section
variable {P : Program} {w : World} {K : PySem.W.Frag} {mg : Str → Option Value} {base : Heap} {C CP : Addr}
theorem ok_tuples {fA : Addr} {fd : FuncData} (F : Fun K "all_tuples" "all_tuples" sAllTuples fA fd) (zr : mg "range" = none) : FnOk P w K mg base CX0 1 fA fd ["most", "many"] spTuples := by
  refine F.ok scAllTuples (fun vs H Q E h => ?_) (fun cdv A outer s H vs Q E hr h => ?_)
  · obtain ⟨m, n, rfl, _⟩ := h
    rfl
  · obtain ⟨m, n, rfl, m1, m10, n64, hmn, q⟩ := h
    refine ⟨_, pss_cons (ps_set (i := 2) scAllTuples.nd rfl (.inl rfl) (pe_lst (pa_cons (pe_tup pa_nil) pa_nil)))
      (pss_cons (ps_for PassesOwn.never rfl (pi_range1 (by rfl) zr (pa_cons (pv 1) pa_nil)) (pg_name (i := 3) scAllTuples.nd rfl (.inl rfl))
        (pss_one (by
          refine' ps_setLc2 (i := 2) (own := [("row", 4), ("number", 5)]) (vs1 := [5]) (g := gName 4) (g1 := gName 5) (by rfl) scAllTuples.nd rfl rfl (sw_true rfl rfl rfl (by decide +kernel)) ?h1 (blkOk_by (own := [("row", 4), ("number", 5)]) (N := atN) (sc := defScope sAllTuples) (by decide +kernel)) (by decide) (fun _ _ _ _ _ => pg_name (i := 4) scAllTuples.nd rfl (Or.inl rfl)) (fun _ _ _ _ _ => pts_nil) ?h2 (fun _ _ _ _ _ => pg_name (i := 5) scAllTuples.nd rfl (Or.inl rfl)) (fun _ _ _ _ _ => pts_nil) ?h4
          (case h1 => exact pi_list (pv 2))
          (case h2 => intro _ _ _ _ _; exact pi_range1 (by rfl) zr (pa_cons (pe_op op_add (pv 0) pe_int) pa_nil))
          (case h4 => intro _ _ _ _ _; exact pe_op (r := rCatA K) op_catA (pv 4) (pe_tup (pa_cons (pv 5) pa_nil))))))
      (pss_one (ps_ret (pv 2)))), ?_⟩
    have big : ∀ {k : Nat}, k ≤ n → (m + 1) ^ k ≤ 4096 := fun {k} h => Nat.le_trans (Nat.pow_le_pow_right (by omega) h) hmn
    have line : (4096 : Nat) < sizeLine := by decide
    refine ⟨(by exact Nat.zero_le _), fun e0 ne0 => ⟨(by show 1 ≤ sizeLine; decide), fun p0 np0 => ?_⟩⟩
    have s1 : Same H (upd H e0 (.tup [])) := same_new ne0
    have s2 : Same (upd H e0 (.tup [])) (upd (upd H e0 (.tup [])) p0 (.lst [.ref e0])) := same_new np0
    have h1 := s2 _ _ (show upd H e0 (.tup []) e0 = some (.tup []) from upd_same)
    have h2 : upd (upd H e0 (.tup [])) p0 (.lst [.ref e0]) p0 = some (.lst [.ref e0]) := upd_same
    have s12 := s1.trans s2
    generalize upd (upd H e0 (.tup [])) p0 (.lst [.ref e0]) = H2 at h1 h2 s12
    refine ⟨_, rfl, _, rfl, by omega, by omega, ?_⟩
    refine for_range (lo := 0) (fun i σ G => ∃ p as v3, σ = [some (.int (m : Int)), some (.int (n : Int)), some (.ref p), v3, none, none] ∧ Same H G ∧ G p = some (.lst (as.map V.ref)) ∧ TupsAt G (tupsOf m i) as) ⟨p0, [e0], _, rfl, s12, h2, .cons h1 .nil⟩ ?_ ?_
    · rintro i σ G hi ⟨p, as, v3, rfl, sG, hp, hrs⟩
      have hi2 : i < n := by omega
      have las : as.length = (tupsOf m i).length := hrs.length.symm
      have rl := tups_len (m := m) (k := i)
      have many := tups_many m i
      have many2 := tups_many m (i + 1)
      have b1 := big (k := i) (by omega)
      have b2 := big (k := i + 1) (by omega)
      refine ⟨_, rfl, p, rfl, ⟨_, SqL.of hp⟩, fun D nD => ?_⟩
      refine nest_it (walk_list (K := K) (a := p) (xs := as.map V.ref)) (fun j G' => Same G G' ∧ ∃ bs : List Addr, G' D = some (.lst (bs.map V.ref)) ∧ D ∉ bs ∧ TupsAt G' (((tupsOf m i).take j).flatMap (extT m)) bs) ⟨same_new nD, [], upd_same, by simp, .nil⟩ (fun j G' _ h => SqL.of (h.1 _ _ hp)) ?_ ?_
      · rintro j y G' G2 hj ⟨sG', bs, hD, nDb, hbs⟩ ⟨rfl, hy2⟩
        rw [List.getElem?_map] at hy2
        obtain ⟨a, ha, rfl⟩ := Option.map_eq_some_iff.mp hy2
        obtain ⟨r, hr2, har⟩ := paired_at hrs ha
        have lr := rl r (List.mem_of_getElem? hr2)
        refine ⟨rfl, ?_⟩
        unfold tYes
        dsimp only
        rw [if_pos rfl]
        refine ⟨_, rfl, _, _, rfl, rfl, _, rfl, by omega, by omega, ?_⟩
        have em : (((m : Int) + 1)).toNat = m + 1 := by omega
        refine nest_it (walk_range (lo := 0) (n := (((m : Int) + 1)).toNat)) (fun k G3 => Same G G3 ∧ ∃ bs : List Addr, G3 D = some (.lst (bs.map V.ref)) ∧ D ∉ bs ∧ TupsAt G3 (((tupsOf m i).take j).flatMap (extT m) ++ (List.range k).map fun (n : Nat) => r ++ [(n : Int)]) bs) ⟨sG', bs, hD, nDb, by simpa using hbs⟩ (fun k G3 _ _ => trivial) ?_ ?_
        · rintro k y G0 G3 hk ⟨s3, bs3, hD3, nDb3, hbs3⟩ ⟨rfl, rfl⟩
          refine ⟨rfl, ?_⟩
          dsimp only
          rw [if_pos rfl]
          refine ⟨_, rfl, _, rfl, (by show 1 ≤ sizeLine; decide), fun e ne => ?_⟩
          have jl : j < (tupsOf m i).length := (List.getElem?_eq_some_iff.mp hr2).1
          have lenb : bs3.length < 4096 := by
            have e1 := hbs3.length
            rw [List.length_append, flat_len, List.length_map, List.length_range, List.length_take] at e1
            have e2 : (m + 1) * (j + 1) ≤ (m + 1) * (tupsOf m i).length := Nat.mul_le_mul_left _ jl
            rw [many, Nat.mul_comm (m + 1) ((m + 1) ^ i), ← Nat.pow_succ, Nat.mul_add] at e2
            have b2' : (m + 1) ^ i.succ ≤ 4096 := b2
            have e3 : min j (tupsOf m i).length = j := Nat.min_eq_left (Nat.le_of_lt jl)
            rw [e3] at e1
            omega
          have fin : ∀ (b : Addr) (G5 : Hp), Same G3 G5 → b ≠ D → G5 b = some (.tup ((r ++ [(k : Int)]).map V.int)) → ∃ acc, G5 D = some (.lst acc) ∧ acc.length < sizeLine ∧ (Same G (upd G5 D (.lst (acc ++ [.ref b]))) ∧ ∃ bs : List Addr, upd G5 D (.lst (acc ++ [.ref b])) D = some (.lst (bs.map V.ref)) ∧ D ∉ bs ∧ TupsAt (upd G5 D (.lst (acc ++ [.ref b]))) (((tupsOf m i).take j).flatMap (extT m) ++ (List.range (k + 1)).map fun (n : Nat) => r ++ [(n : Int)]) bs) := fun b G5 s5 nb hb => by
            refine ⟨_, s5 _ _ hD3, by rw [List.length_map]; omega, fun c o ec => ?_, bs3 ++ [b], ?_, ?_, ?_⟩
            · rw [upd_ne (ne_of_none ec nD)]
              exact s5 _ _ (s3 _ _ ec)
            · rw [upd_same, List.map_append]
              rfl
            · rw [List.mem_append]
              rintro (z | z)
              · exact nDb3 z
              · exact nb (List.mem_singleton.mp z).symm
            · rw [ext_take, ← List.append_assoc]
              refine paired_app (keep_tups hbs3 fun b' hb' o e' => ?_) (.cons ?_ .nil)
              · rw [upd_ne (fun (z : b' = D) => nDb3 (z ▸ hb'))]
                exact s5 _ _ e'
              · rw [upd_ne nb]
                exact hb
          have s4 : Same G3 (upd G3 e (.tup [.int (0 + (k : Int))])) := same_new ne
          have neD : e ≠ D := (ne_of_none hD3 ne).symm
          have har3 := s4 _ _ (s3 _ _ har)
          have ek : (0 : Int) + (k : Int) = (k : Int) := Int.zero_add _
          refine ⟨a, e, r.map V.int, [.int (0 + (k : Int))], rfl, rfl, SqT.of har3, SqT.of upd_same, ?_, fun z => ?_, fun _ z => (by cases z), fun nz _ b nb => ?_⟩
          · rw [List.length_map, lr]
            show i + 1 ≤ sizeLine
            omega
          · refine fin e _ s4 neD ?_
            rw [upd_same, List.map_append, z, ek]
            rfl
          · refine fin b _ (s4.trans (same_new nb)) (ne_of_none (s4 _ _ hD3) nb).symm ?_
            rw [upd_same, List.map_append, ek]
            rfl
        · rintro G3 ⟨s3, bs3, hD3, nDb3, hbs3⟩
          refine ⟨s3, bs3, hD3, nDb3, ?_⟩
          rw [flat_take hr2]
          rw [em] at hbs3
          exact hbs3
      · rintro G' ⟨sG', bs, hD, nDb, hbs⟩
        rw [List.length_map, las, List.take_length] at hbs
        exact ⟨D, bs, _, rfl, sG.trans sG', hD, hbs⟩
    · rintro σ G ⟨p, as, v3, rfl, sG, hp, hrs⟩
      rw [Int.toNat_natCast] at hrs
      exact ⟨_, rfl, q G p as sG hp hrs⟩
end
end K45

set_option Elab.async false
set_option linter.all false
set_option maxRecDepth 100000
set_option maxHeartbeats 4000000
namespace K45
open PySem PySem.Spec PyProof.Rows L2
theorem win_congr {f : Str × Str → V} {zs ys xs : List Str} (h : ∀ b, b ∈ ys ↔ b ∈ xs) : winB f zs ys = winB f zs xs := by
  have e1 : oneOf zs ys = oneOf zs xs := List.filter_congr fun b _ => decide_eq_decide.mpr (h b)
  have e2 : restOf zs ys = restOf zs xs := List.filter_congr fun b _ => by
    show (!decide (b ∈ ys)) = (!decide (b ∈ xs))
    rw [decide_eq_decide.mpr (h b)]
  unfold winB
  rw [e1, e2]
theorem win_rest {f : Str × Str → V} {zs ys : List Str} : winB f zs (restOf zs ys) = winB f zs ys := by
  have e1 : oneOf zs (restOf zs ys) = restOf zs ys := List.filter_congr fun b hb => by
    show decide (b ∈ restOf zs ys) = !decide (b ∈ ys)
    by_cases c : b ∈ ys
    · rw [decide_eq_true c, decide_eq_false fun z => (mem_rest.mp z).2 c]
      rfl
    · rw [decide_eq_false c, decide_eq_true (mem_rest.mpr ⟨hb, c⟩)]
      rfl
  have e2 : restOf zs (restOf zs ys) = oneOf zs ys := List.filter_congr fun b hb => by
    show (!decide (b ∈ restOf zs ys)) = decide (b ∈ ys)
    by_cases c : b ∈ ys
    · rw [decide_eq_true c, decide_eq_false fun z => (mem_rest.mp z).2 c]
      rfl
    · rw [decide_eq_false c, decide_eq_true (mem_rest.mpr ⟨hb, c⟩)]
      rfl
  unfold winB
  rw [e1, e2]
  refine List.filter_congr fun b _ => decide_eq_decide.mpr ?_
  rw [List.mem_append, List.mem_append]
  exact Or.comm
/-- numbers by people -/
def cntD (zs : List Str) (g : Str → Nat) : List (Key × V) := zs.map fun z => (Sum.inr z, V.int (g z : Nat))
theorem cnt_len {zs : List Str} {g : Str → Nat} : (cntD zs g).length = zs.length := List.length_map ..
theorem cnt_get {g : Str → Nat} {b : Str} : ∀ {zs : List Str}, b ∈ zs → valV (cntD zs g) (Sum.inr b : Key) = some (.int (g b : Nat))
  | c :: zs, h => by
    show valV ((Sum.inr c, V.int (g c : Nat)) :: cntD zs g) (Sum.inr b : Key) = _
    by_cases e : c = b
    · subst e
      exact valV_pos rfl
    · rw [valV_neg fun z => e (Sum.inr.inj z)]
      exact cnt_get ((List.mem_cons.mp h).resolve_left fun z => e z.symm)
theorem cnt_put {zs : List Str} {g : Str → Nat} {b : Str} {v : Nat} (h : b ∈ zs) : putK (cntD zs g) (Sum.inr b : Key) (.int (v : Nat)) = cntD zs fun z => if z = b then v else g z := by
  unfold putK
  rw [if_pos (by rw [valV_any, cnt_get h]; rfl)]
  unfold cntD
  rw [List.map_map]
  refine List.map_congr_left fun z _ => ?_
  show (if (Sum.inr z : Key) = Sum.inr b then ((Sum.inr z : Key), V.int (v : Nat)) else (Sum.inr z, V.int (g z : Nat))) = _
  by_cases e : z = b
  · subst e
    rw [if_pos rfl]
    dsimp only
    rw [if_pos rfl]
  · rw [if_neg (fun q => e (Sum.inr.inj q))]
    dsimp only
    rw [if_neg e]
theorem cnt_congr {zs : List Str} {g k : Str → Nat} (h : ∀ z ∈ zs, g z = k z) : cntD zs g = cntD zs k := by
  unfold cntD
  exact List.map_congr_left fun z hz => by rw [h z hz]
/-- whether somebody is among the winners of a parting -/
def ind (f : Str × Str → V) (zs : List Str) (z : Str) (ys : List Str) : Nat := if z ∈ winB f zs ys then 1 else 0
/-- in how many partings somebody wins -/
def wonOf (f : Str × Str → V) (zs : List Str) (z : Str) : Nat := sumS (subsOf zs) (ind f zs z)
theorem ind_le {f : Str × Str → V} {zs : List Str} {z : Str} {ys : List Str} : ind f zs z ys ≤ 1 := by
  unfold ind
  split <;> omega
theorem won_le {f : Str × Str → V} {zs : List Str} {z : Str} : wonOf f zs z ≤ 2 ^ zs.length := by
  have h := sumS_le (L := subsOf zs) (g := ind f zs z) (c := 1) fun _ _ => ind_le
  rw [subs_len, Nat.one_mul] at h
  exact h
theorem won_half {f : Str × Str → V} {zs : List Str} {z : Str} (nd : zs.Nodup) (ne : 1 ≤ zs.length) : wonOf f zs z = 2 * sumS ((tupsOf 1 (zs.length - 1)).map (picks zs)) (ind f zs z) :=
  half_subs nd ne _ fun ys _ => by
    unfold ind
    rw [show restS zs ys = restOf zs ys from rfl, win_rest]
theorem sum_snoc {α : Type} (L : List α) (a : α) (g : α → Nat) : sumS (L ++ [a]) g = sumS L g + g a := by
  rw [sumS_app, sumS_cons, sumS_nil, Nat.add_zero]
theorem mem_snoc {ws : List Str} (nd : ws.Nodup) {i : Nat} {b z : Str} (h : ws[i]? = some b) : (if z ∈ ws.take (i + 1) then (1 : Nat) else 0) = if z = b then 1 else if z ∈ ws.take i then 1 else 0 := by
  have e : ws.take (i + 1) = ws.take i ++ [b] := take_snoc h
  rw [e]
  by_cases c : z = b
  · subst c
    rw [if_pos rfl]
    exact if_pos (by simp)
  · rw [if_neg c]
    simp [c]
theorem win_nodup {f : Str × Str → V} {zs ys : List Str} (nd : zs.Nodup) : (winB f zs ys).Nodup := nd.filter _
theorem win_mem {f : Str × Str → V} {zs ys : List Str} {b : Str} (h : b ∈ winB f zs ys) : b ∈ zs := (List.mem_filter.mp h).1
theorem win_len {f : Str × Str → V} {zs ys : List Str} : (winB f zs ys).length ≤ zs.length := List.length_filter_le _ _
def spHalfPrizes : Sp := fun vs H Q _ => ∃ (pl d : Addr) (zs : List Str) (f : Str × Str → V), vs = [.ref pl, .ref d] ∧ H pl = some (.lst (zs.map V.str)) ∧ H d = some (.dT (sheetOf zs f)) ∧ 1 ≤ zs.length ∧ zs.length ≤ 8 ∧ zs.Nodup ∧ (∀ p ∈ pairsOf zs, ∃ i : Int, f p = .int i) ∧
  ∀ H' p, Same H H' → H p = none → H' p = some (.dK (cntD zs (wonOf f zs))) → Q (.ref p) H'
abbrev hpN : List Str := ["people", "marks", "told", "person", "sides", "first", "side", "winner"]

section
variable {P : Program} {w : World} {K : PySem.W.Frag} {mg : Str → Option Value} {base : Heap} {C CP : Addr}
theorem ok_halfPrizes {fA fT fW : Addr} {fd dT dW : FuncData} (F : Fun K "half_prizes" "half_prizes" sHalfPrizes fA fd)
    (GT : FnOk P w K mg base CX0 1 fT dT ["most", "many"] spTuples) (kT : PySem.W.keepIn K (.ref fT) = true) (bT : Binds K dT ["most", "many"] []) (gT : mg "all_tuples" = some (.ref fT))
    (GW : FnOk P w K mg base CX0 2 fW dW ["people", "marks", "first"] spParting) (kW : PySem.W.keepIn K (.ref fW) = true) (bW : Binds K dW ["people", "marks", "first"] []) (gW : mg "parting_winners" = some (.ref fW)) (zl : mg "len" = none) (zz : mg "zip" = none) :
    FnOk P w K mg base CX0 3 fA fd ["people", "marks"] spHalfPrizes := by
  refine F.ok scHalfPrizes (fun vs H Q E h => ?_) (fun cdv A outer s H vs Q E hr h => ?_)
  · obtain ⟨pl, d, zs, f, rfl, _⟩ := h
    rfl
  · obtain ⟨pl, d, zs, f, rfl, hpl, hd, one, z8, nd, hf, q⟩ := h
    have hu1 : (A.deeper (envOfC "half_prizes" (defScope sHalfPrizes) s.heap.objs.size fA cdv)).units + 1 < cLine := by
      have := hr.units
      omega
    refine ⟨_, pss_cons (ps_setDcK (i := 2) (own := [("person", 3)]) (g := gName 3) (by rfl) scHalfPrizes.nd rfl (.inl rfl) (.inr rfl) (swD_true rfl rfl rfl (by decide +kernel)) (pi_list (pv 0)) (blkOk_by (own := [("person", 3)]) (N := hpN) (sc := defScope sHalfPrizes) (by decide +kernel))
          (fun _ _ _ _ _ => pg_name (i := 3) scHalfPrizes.nd rfl (Or.inl rfl)) (fun _ _ _ _ _ => pts_nil) (fun _ _ _ _ _ => pv 3) (fun _ _ _ _ _ => pe_int))
      (pss_cons (ps_for PassesOwn.never rfl (pi_list (pe_call GT (hr.mono (by decide)) (by rfl) gT kT bT .nil pass0 (pa_cons pe_int (pa_cons (pe_op op_sub (pe_callB call_len_seq (by rfl) zl PySem.boot_len (pa_cons (pv 0) pa_nil)) pe_int) pa_nil)))) (pg_name (i := 4) scHalfPrizes.nd rfl (.inl rfl))
        (pss_cons (ps_setLc (i := 5) (own := [("person", 3), ("side", 6)]) (g := gTup K 2 (gCons (gName 3) (gCons (gName 6) gNil))) (by rfl) scHalfPrizes.nd rfl rfl (sw_true rfl rfl rfl (by decide +kernel)) (pi_zipM (by rfl) zz (pa_cons (pv 0) (pa_cons (pv 4) pa_nil))) (blkOk_by (own := [("person", 3), ("side", 6)]) (N := hpN) (sc := defScope sHalfPrizes) (by decide +kernel))
          (fun _ _ _ _ _ => pg_tup rfl (pgs_cons (pg_name (i := 3) scHalfPrizes.nd rfl (.inl rfl)) (pgs_cons (pg_name (i := 6) scHalfPrizes.nd rfl (.inl rfl)) pgs_nil))) (fun _ _ _ _ _ => pts_one (pt_cmpR op_eq (pv 6) pe_int (nomark _))) (fun _ _ _ _ _ => pv 3))
        (pss_one (ps_for PassesOwn.never rfl (pi_list (pe_call GW (hr.mono (by decide)) (by rfl) gW kW bW .nil pass0 (pa_cons (pv 0) (pa_cons (pv 1) (pa_cons (pv 5) pa_nil))))) (pg_name (i := 7) scHalfPrizes.nd rfl (.inl rfl))
          (pss_one (ps_dput (by exact hu1) (pv 2) (pv 7) (pe_op op_add (pe_dget (by exact hu1) (pv 2) (pv 7) (fun _ _ => rfl)) pe_int) rfl))))))
      (pss_one (ps_ret (pv 2)))), ?_⟩
    refine ⟨_, rfl, pl, rfl, ⟨_, SqL.of hpl⟩, fun D nD => ?_⟩
    refine nest_it (walk_list (K := K) (a := pl) (xs := zs.map V.str)) (fun i G => Same H G ∧ G D = some (.dK (cntD (zs.take i) fun _ => 0))) ⟨same_new nD, upd_same⟩ (fun i G _ h => SqL.of (h.1 _ _ hpl)) ?_ ?_
    · rintro i x G0 G hi ⟨sG, hD⟩ ⟨rfl, hx⟩
      rw [List.getElem?_map] at hx
      obtain ⟨b, hb, rfl⟩ := Option.map_eq_some_iff.mp hx
      refine ⟨rfl, _, rfl, cntD (zs.take i) fun _ => 0, Sum.inr b, rfl, hD, ?_, fun c o e => ?_, ?_⟩
      · rw [cnt_len, List.length_take]
        exact small1000 (by omega)
      · rw [upd_ne (ne_of_none e nD)]
        exact sG _ _ e
      · rw [upd_same, putK_new _ (valV_none fun z => ?_), take_snoc hb]
        · unfold cntD
          rw [List.map_append]
          rfl
        · unfold cntD at z
          rw [List.map_map] at z
          obtain ⟨c, hc, e⟩ := List.mem_map.mp z
          exact not_take nd hb (by rw [← Sum.inr.inj e]; exact hc)
    rintro G1 ⟨s1, hD⟩
    rw [List.length_map, List.take_length] at hD
    have nk : ((1 : Nat) + 1) ^ (zs.length - 1) ≤ 4096 := by
      have : 2 ^ (zs.length - 1) ≤ 2 ^ 7 := Nat.pow_le_pow_right (by decide) (by omega)
      show 2 ^ (zs.length - 1) ≤ 4096
      omega
    refine ⟨_, rfl, pl, _, rfl, .inl (SqL.of (s1 _ _ hpl)), _, _, rfl, rfl, 1, zs.length - 1, ?_, by decide, by decide, by omega, nk, fun G2 p as s2 hp has => ⟨p, rfl, ⟨_, SqL.of hp⟩, ?_⟩⟩
    · rw [List.length_map, show (((zs.length - 1 : Nat)) : Int) = (zs.length : Int) - 1 by omega]
      rfl
    have S2 := s1.trans s2
    have hD2 := s2 _ _ hD
    have pD : p ≠ D := fun e => by
      rw [e, hD2] at hp
      cases hp
    have keep : ∀ {b : Addr} {o : HO}, H b = some o → b ≠ D := fun e => ne_of_none e nD
    refine for_list (K := K) (a := p) (xs := as.map V.ref) (fun i σ G => ∃ v3 v4 v5 v6 v7, σ = [some (.ref pl), some (.ref d), some (.ref D), v3, v4, v5, v6, v7] ∧ But D G2 G ∧ G D = some (.dK (cntD zs fun z => 2 * sumS (((tupsOf 1 (zs.length - 1)).take i).map (picks zs)) (ind f zs z)))) ⟨_, _, _, _, _, rfl, But.of_same (Same.refl _), hD2⟩ (fun i σ G _ h => ?_) ?_ ?_
    · obtain ⟨_, _, _, _, _, _, b, _⟩ := h
      exact SqL.of (b _ _ pD hp)
    · rintro i y σ G hy ⟨v3, v4, v5, v6, v7, rfl, bG, hDG⟩
      rw [List.getElem?_map] at hy
      obtain ⟨a, ha, rfl⟩ := Option.map_eq_some_iff.mp hy
      obtain ⟨r, hr2, har2⟩ := paired_at has ha
      have har := bG _ _ (ne_of har2 hD2 (fun z => nomatch z)) har2
      have hplG := bG _ _ (keep hpl) (S2 _ _ hpl)
      have hdG := bG _ _ (keep hd) (S2 _ _ hd)
      refine ⟨_, rfl, _, rfl, pl, a, _, _, rfl, SqL.of hplG, SqT.of har, fun D2 nD2 => ?_⟩
      refine nest_it (walk_zipM (K := K) (a := pl) (b := a) (xs := zs.map V.str) (ys := r.map V.int) rfl) (fun j G' => Same G G' ∧ G' D2 = some (.lst (((((zs.zip r).take j).filter fun p => decide (p.2 = 1)).map (·.1)).map V.str))) ⟨same_new nD2, upd_same⟩ (fun j G' _ h => ⟨SqL.of (h.1 _ _ hplG), SqT.of (h.1 _ _ har)⟩) ?_ ?_
      · rintro j x G' G0 hj ⟨sG', hD3⟩ ⟨T, x1, x2, rfl, nT, rfl, e1, e2⟩
        refine ⟨T, _, rfl, SqT.of upd_same, rfl, _, _, rfl, _, _, rfl, rfl, ?_⟩
        dsimp only at e1 e2
        rw [List.getElem?_map] at e1 e2
        obtain ⟨z, hz, rfl⟩ := Option.map_eq_some_iff.mp e1
        obtain ⟨s0, hs0, rfl⟩ := Option.map_eq_some_iff.mp e2
        have zp : (zs.zip r)[j]? = some (z, s0) := List.getElem?_zip_eq_some.mpr ⟨hz, hs0⟩
        have s3 : Same G' (upd G' T (.tup [.str z, .int s0])) := same_new nT
        have tk : ((zs.zip r).take (j + 1)).filter (fun p => decide (p.2 = 1)) = ((zs.zip r).take j).filter (fun p => decide (p.2 = 1)) ++ ([(z, s0)].filter fun p => decide (p.2 = 1)) := by
          rw [List.take_add_one, zp, List.filter_append]
          rfl
        refine ⟨rfl, _, rfl, rfl, _, rfl, ?_⟩
        by_cases e : s0 = 1
        · rw [show decide (V.int s0 = V.int 1) = true from decide_eq_true (by rw [e])]
          refine iteT ⟨_, rfl, _, s3 _ _ hD3, ?_, fun c o ec => ?_, ?_⟩
          · rw [List.length_map, List.length_map]
            refine Nat.lt_of_le_of_lt (List.length_filter_le _ _) (small1000 ?_)
            rw [List.length_take, List.length_zip]
            omega
          · rw [upd_ne (ne_of_none ec nD2)]
            exact s3 _ _ (sG' _ _ ec)
          · rw [upd_same, tk, List.filter_cons_of_pos (by simpa using e), List.filter_nil, List.map_append, List.map_append]
            rfl
        · rw [show decide (V.int s0 = V.int 1) = false from decide_eq_false (fun z => e (V.int.inj z))]
          refine iteF ⟨sG'.trans s3, ?_⟩
          rw [tk, List.filter_cons_of_neg (by simpa using e), List.filter_nil, List.append_nil]
          exact s3 _ _ hD3
      rintro G3 ⟨s3, hD3⟩
      have full : (zs.zip r).take (min (zs.map V.str).length (r.map V.int).length) = zs.zip r := by
        rw [List.take_of_length_le]
        rw [List.length_zip, List.length_map, List.length_map]
        exact Nat.le_refl _
      rw [full] at hD3
      have hD3' : G3 D2 = some (.lst ((picks zs r).map V.str)) := hD3
      have S3 : Same G G3 := s3
      refine ⟨_, rfl, _, rfl, _, rfl, pl, d, D2, zs, picks zs r, f, rfl, S3 _ _ hplG, S3 _ _ hdG, .inl hD3', z8, nd, hf, fun G4 p4 s4 n4 h4 => ⟨p4, rfl, ⟨_, SqL.of h4⟩, ?_⟩⟩
      have S4 := S3.trans s4
      have hD4 := S4 _ _ hDG
      have nd4 := win_nodup (f := f) (ys := picks zs r) nd
      have wl : (winB f zs (picks zs r)).length ≤ 8 := Nat.le_trans win_len z8
      have p4D : p4 ≠ D := fun e => by
        rw [e, hD4] at h4
        cases h4
      refine for_list (K := K) (a := p4) (xs := (winB f zs (picks zs r)).map V.str) (fun j σ G' => ∃ u3 u6 u7, σ = [some (.ref pl), some (.ref d), some (.ref D), u3, some (.ref a), some (.ref D2), u6, u7] ∧ But D G4 G' ∧ G' D = some (.dK (cntD zs fun z => 2 * sumS (((tupsOf 1 (zs.length - 1)).take i).map (picks zs)) (ind f zs z) + 2 * (if z ∈ (winB f zs (picks zs r)).take j then 1 else 0)))) ⟨_, _, _, rfl, But.of_same (Same.refl _), ?_⟩ (fun j σ G' _ h => ?_) ?_ ?_
      · rw [hD4]
        exact congrArg (fun x => some (HO.dK x)) (cnt_congr fun z _ => by simp)
      · obtain ⟨_, _, _, _, b, _⟩ := h
        exact SqL.of (b _ _ p4D h4)
      · rintro j y σ G' hy2 ⟨u3, u6, u7, rfl, bG', hDG'⟩
        rw [List.getElem?_map] at hy2
        obtain ⟨b, hb, rfl⟩ := Option.map_eq_some_iff.mp hy2
        have bz := win_mem (List.mem_of_getElem? hb)
        have gt := DGet.k hDG' (k := (Sum.inr b : Key))
        rw [cnt_get bz] at gt
        refine ⟨_, rfl, _, rfl, D, _, rfl, gt, _, _, rfl, rfl, _, rfl, _, rfl, D, _, rfl, DPut.k hDG' (k := (Sum.inr b : Key)) (by rw [cnt_len]; exact small1000 (by omega)), ?_⟩
        refine ⟨_, _, _, rfl, fun c o nc e => ?_, ?_⟩
        · rw [upd_ne nc]
          exact bG' _ _ nc e
        · rw [upd_same]
          have nb : b ∉ (winB f zs (picks zs r)).take j := not_take nd4 hb
          rw [if_neg nb, Nat.mul_zero, Nat.add_zero]
          have e2 : ((2 * sumS (((tupsOf 1 (zs.length - 1)).take i).map (picks zs)) (ind f zs b) : Nat) : Int) + 2 = ((2 * sumS (((tupsOf 1 (zs.length - 1)).take i).map (picks zs)) (ind f zs b) + 2 : Nat) : Int) := by omega
          dsimp only
          rw [e2, cnt_put bz]
          congr 2
          refine cnt_congr fun z _ => ?_
          rw [mem_snoc nd4 hb]
          by_cases c : z = b
          · subst c
            rw [if_pos rfl, if_pos rfl]
          · rw [if_neg c, if_neg c]
      · rintro σ G' ⟨u3, u6, u7, rfl, bG', hDG'⟩
        refine ⟨_, _, _, _, _, rfl, fun c o nc e => bG' _ _ nc (S4 _ _ (bG _ _ nc e)), ?_⟩
        rw [hDG']
        congr 2
        refine cnt_congr fun z _ => ?_
        rw [List.length_map, List.take_length, List.take_add_one, hr2, List.map_append]
        show _ = 2 * sumS (_ ++ [picks zs r]) _
        rw [sum_snoc, Nat.mul_add]
        rfl
    · rintro σ G ⟨v3, v4, v5, v6, v7, rfl, bG, hDG⟩
      refine ⟨_, rfl, q G D (fun c o e => bG _ _ (keep e) (S2 _ _ e)) nD ?_⟩
      rw [hDG]
      congr 2
      refine cnt_congr fun z _ => ?_
      rw [won_half nd one, List.length_map, ← has.length, List.take_length]
end
end K45

set_option Elab.async false
set_option linter.all false
set_option maxRecDepth 100000
set_option maxHeartbeats 4000000
namespace K45
open PySem PySem.Spec PyProof.Rows L2
def shareOf (f : Str × Str → V) (zs : List Str) (z : Str) : Int × Int := low2 (wonOf f zs z : Nat) (2 * 2 ^ zs.length)
def spLotShares (C CP : Addr) : Sp := fun vs H Q _ => ∃ (x : Addr) (zs : List Str) (m : Int) (f : Str × Str → V), vs = [.ref x] ∧ PageOf H C CP x zs m f ∧ 1 ≤ zs.length ∧ zs.length ≤ 8 ∧ zs.Nodup ∧ (∀ p ∈ pairsOf zs, ∃ i : Int, f p = .int i) ∧
  ∀ H' p, Same H H' → H p = none → FracD H' p zs (shareOf f zs) → Q (.ref p) H'
theorem full_of {zs : List Str} {f : Str × Str → V} (hf : ∀ p ∈ pairsOf zs, ∃ i : Int, f p = .int i) : fullB zs f = true := by
  unfold fullB
  rw [List.all_eq_true]
  intro p hp
  obtain ⟨i, e⟩ := hf p hp
  rw [e]
  rfl
theorem halves_bits {n : Nat} (h : n ≤ 8) : (2 * 2 ^ n : Int).natAbs < 2 ^ 64 ∧ (0 : Int) < 2 * 2 ^ n ∧ (2 * 2 ^ n : Int) ≤ 512 := by
  have h1 : (2 : Nat) ^ n ≤ 2 ^ 8 := Nat.pow_le_pow_right (by decide) h
  have h2 : (0 : Nat) < 2 ^ n := Nat.pow_pos (by decide)
  have e : ((2 : Int) ^ n) = ((2 ^ n : Nat) : Int) := by rw [Int.natCast_pow]; rfl
  rw [e]
  refine ⟨?_, ?_, ?_⟩ <;> omega
abbrev lsN : List Str := ["page", "people", "person", "won"]
section
variable {P : Program} {w : World} {K : PySem.W.Frag} {mg : Str → Option Value} {base : Heap} {C CP : Addr}
end
end K45

set_option Elab.async false
set_option linter.all false
set_option maxRecDepth 100000
set_option maxHeartbeats 4000000
namespace K45
open PySem PySem.Spec PyProof.Rows L2
def totOf (f : Str × Str → V) (zs : List Str) (b : Str) : Int := sumOf f (zs.filter fun a => decide (a ≠ b)) b
def Marks10 (f : Str × Str → V) (zs : List Str) : Prop := ∀ p ∈ pairsOf zs, ∃ i : Int, f p = .int i ∧ 0 ≤ i ∧ i ≤ 10
theorem Marks10.ints {f : Str × Str → V} {zs : List Str} (h : Marks10 f zs) : ∀ p ∈ pairsOf zs, ∃ i : Int, f p = .int i := fun p hp => by
  obtain ⟨i, e, _⟩ := h p hp
  exact ⟨i, e⟩
theorem sum_bounds : ∀ {l : List Int}, (∀ x ∈ l, 0 ≤ x ∧ x ≤ 10) → 0 ≤ l.sum ∧ l.sum ≤ 10 * (l.length : Int)
  | [], _ => ⟨by simp, by simp⟩
  | a :: l, h => by
    obtain ⟨h1, h2⟩ := sum_bounds (l := l) fun x hx => h x (List.mem_cons_of_mem _ hx)
    obtain ⟨h3, h4⟩ := h a (List.mem_cons_self ..)
    rw [List.sum_cons, List.length_cons]
    constructor <;> omega
theorem tot_bounds {f : Str × Str → V} {zs : List Str} {b : Str} (hf : Marks10 f zs) (hb : b ∈ zs) (z8 : zs.length ≤ 8) : 0 ≤ totOf f zs b ∧ totOf f zs b ≤ 80 := by
  unfold totOf sumOf
  have h := sum_bounds (l := (zs.filter fun a => decide (a ≠ b)).map fun a => match f (a, b) with | .int i => i | _ => 0) fun x hx => by
    obtain ⟨a, ha, rfl⟩ := List.mem_map.mp hx
    obtain ⟨h1, h2⟩ := List.mem_filter.mp ha
    obtain ⟨i, e, h3, h4⟩ := hf _ (mem_pairsOf h1 hb (of_decide_eq_true h2))
    rw [e]
    exact ⟨h3, h4⟩
  have l := List.length_filter_le (fun a => decide (a ≠ b)) zs
  rw [List.length_map] at h
  exact ⟨h.1, Int.le_trans h.2 (by omega)⟩
def spSumsOf : Sp := fun vs H Q _ => ∃ (pl d : Addr) (zs : List Str) (f : Str × Str → V), vs = [.ref pl, .ref d] ∧ H pl = some (.lst (zs.map V.str)) ∧ H d = some (.dT (sheetOf zs f)) ∧ zs.length ≤ 8 ∧ zs.Nodup ∧ (∀ p ∈ pairsOf zs, ∃ i : Int, f p = .int i) ∧
  ∀ H' p, Same H H' → H p = none → H' p = some (.dK (wordsI zs (totOf f zs))) → Q (.ref p) H'
def worthTop (f : Str × Str → V) (zs : List Str) : Int := (zs.map fun z => (wonOf f zs z : Int) * totOf f zs z).sum
def worthOf (f : Str × Str → V) (zs : List Str) : Int × Int := low2 (worthTop f zs) (2 * 2 ^ zs.length)
def IsMx (f : Str × Str → V) (zs : List Str) (g : Int) : Prop := (∃ b ∈ zs, totOf f zs b = g) ∧ ∀ b ∈ zs, totOf f zs b ≤ g
theorem IsMx.uniq {f : Str × Str → V} {zs : List Str} {g k : Int} (h1 : IsMx f zs g) (h2 : IsMx f zs k) : g = k := by
  obtain ⟨⟨b, hb, e1⟩, u1⟩ := h1
  obtain ⟨⟨c, hc, e2⟩, u2⟩ := h2
  have := u1 c hc
  have := u2 b hb
  omega
theorem IsMx.bounds {f : Str × Str → V} {zs : List Str} {g : Int} (hf : Marks10 f zs) (z8 : zs.length ≤ 8) (h : IsMx f zs g) : 0 ≤ g ∧ g ≤ 80 := by
  obtain ⟨⟨b, hb, e⟩, _⟩ := h
  have := tot_bounds hf hb z8
  omega
def spWorthG : Sp := fun vs H Q _ => ∃ (pl d : Addr) (zs : List Str) (f : Str × Str → V), vs = [.ref pl, .ref d] ∧ H pl = some (.lst (zs.map V.str)) ∧ H d = some (.dT (sheetOf zs f)) ∧ 1 ≤ zs.length ∧ zs.length ≤ 8 ∧ zs.Nodup ∧ Marks10 f zs ∧
  ∀ H' p t g, Same H H' → H p = none → H' p = some (.tup [.ref t, .int g]) → H t = none → H' t = some (.tup [.int (worthOf f zs).1, .int (worthOf f zs).2]) → IsMx f zs g → Q (.ref p) H'
abbrev smN : List Str := ["people", "marks", "marker", "person"]
abbrev wgN : List Str := ["people", "marks", "sums", "halves", "person", "won"]
theorem won_bits {f : Str × Str → V} {zs : List Str} {z : Str} (z8 : zs.length ≤ 8) : wonOf f zs z ≤ 256 := by
  have h1 : (2 : Nat) ^ zs.length ≤ 2 ^ 8 := Nat.pow_le_pow_right (by decide) z8
  have := won_le (f := f) (zs := zs) (z := z)
  omega
theorem worth_pos {f : Str × Str → V} {zs : List Str} (z8 : zs.length ≤ 8) : 0 < (worthOf f zs).2 ∧ (worthOf f zs).2 ≤ 512 := by
  obtain ⟨_, h2, h3⟩ := halves_bits z8
  have := low_le (t := worthTop f zs) h2
  exact ⟨low_pos h2, Int.le_trans this h3⟩
section
variable {P : Program} {w : World} {K : PySem.W.Frag} {mg : Str → Option Value} {base : Heap} {C CP : Addr}
theorem ok_sumsOf {fA : Addr} {fd : FuncData} (F : Fun K "sums_of_marks" "sums_of_marks" sSumsOfMarks fA fd) (L : Lt mg) : FnOk P w K mg base CX0 1 fA fd ["people", "marks"] spSumsOf := by
  refine F.ok scSumsOfMarks (fun vs H Q E h => ?_) (fun cdv A outer s H vs Q E hr h => ?_)
  · obtain ⟨pl, d, zs, f, rfl, _⟩ := h
    rfl
  · obtain ⟨pl, d, zs, f, rfl, hpl, hd, z8, nd, hf, q⟩ := h
    have hu1 : (A.deeper (envOfC "sums_of_marks" (defScope sSumsOfMarks) s.heap.objs.size fA cdv)).units + 1 < cLine := by
      have := hr.units
      omega
    refine ⟨_, pss_one (ps_ret (pe_dc (own := [("person", 3)]) (g := gName 3) (by rfl) scSumsOfMarks.nd (pi_list (pv 0)) (blkOk_by (own := [("person", 3)]) (N := smN) (sc := defScope sSumsOfMarks) (by decide +kernel))
          (fun _ _ _ _ _ => pg_name (i := 3) scSumsOfMarks.nd rfl (Or.inr rfl)) (fun _ _ _ _ _ => pts_nil) (fun _ _ _ _ _ => pv 3)
          (fun _ _ _ _ _ => by exact pe_callB (r := rSum K) (cr_sum rfl) (by rfl) L.sum (by decide +kernel) (pa_cons (pe_lc (own := [("marker", 2)]) (wi := iList K (tVar 0)) (g := gName 2) (by rfl) scSumsOfMarks.nd (pi_list (pv 0)) (blkOk_by (own := [("marker", 2)]) (N := smN) (by kernel_rfl))
            (fun _ _ _ _ _ => pg_name (i := 2) scSumsOfMarks.nd rfl (Or.inl rfl)) (fun _ _ _ _ _ => pts_one (pt_cmpR op_ne (pv 2) (pv 3) (nomark _))) (fun _ _ _ _ _ => pe_dget (by exact hu1) (pv 1) (pe_tup (pa_cons (pv 2) (pa_cons (pv 3) pa_nil))) (fun _ _ => rfl))) pa_nil)))), ?_⟩
    refine ⟨_, rfl, pl, rfl, ⟨_, SqL.of hpl⟩, fun D nD => ?_⟩
    refine nest_it (walk_list (K := K) (a := pl) (xs := zs.map V.str)) (fun i G => Same H G ∧ G D = some (.dK (wordsI (zs.take i) (totOf f zs)))) ⟨same_new nD, upd_same⟩ (fun i G _ h => SqL.of (h.1 _ _ hpl)) ?_ ?_
    · rintro i x G0 G hi ⟨sG, hD⟩ ⟨rfl, hx⟩
      rw [List.getElem?_map] at hx
      obtain ⟨b, hb, rfl⟩ := Option.map_eq_some_iff.mp hx
      have hbm := List.mem_of_getElem? hb
      have hpG := sG _ _ hpl
      refine ⟨rfl, _, rfl, _, rfl, pl, rfl, ⟨_, SqL.of hpG⟩, fun D2 nD2 => ?_⟩
      refine nest_it (walk_list (K := K) (a := pl) (xs := zs.map V.str)) (fun j G2 => Same G G2 ∧ G2 D2 = some (.lst ((((zs.take j).filter fun a => decide (a ≠ b)).map fun a => match f (a, b) with | .int i => i | _ => 0).map V.int))) ⟨same_new nD2, upd_same⟩ (fun j G2 _ h => SqL.of (h.1 _ _ hpG)) ?_ ?_
      · rintro j x G20 G2 hj ⟨sG2, hD2⟩ ⟨rfl, hx2⟩
        rw [List.getElem?_map] at hx2
        obtain ⟨a, ha, rfl⟩ := Option.map_eq_some_iff.mp hx2
        have tk : (zs.take (j + 1)).filter (fun a => decide (a ≠ b)) = (zs.take j).filter (fun a => decide (a ≠ b)) ++ ([a].filter fun a => decide (a ≠ b)) := by
          rw [take_snoc ha, List.filter_append]
        refine ⟨rfl, _, rfl, _, rfl, rfl, _, rfl, ?_⟩
        by_cases e : a = b
        · subst e
          rw [decide_eq_true (rfl : V.str a = V.str a)]
          refine iteF ⟨sG2, ?_⟩
          rw [tk, List.filter_cons_of_neg (by simp), List.filter_nil, List.append_nil]
          exact hD2
        · rw [decide_eq_false (fun z => e (V.str.inj z) : ¬ V.str a = V.str b)]
          have hp := mem_pairsOf (List.mem_of_getElem? ha) hbm e
          obtain ⟨v, hv⟩ := hf _ hp
          refine iteT ⟨_, rfl, _, rfl, _, rfl, (by show 2 ≤ sizeLine; decide), fun t nt => ?_⟩
          have s3 : Same G2 (upd G2 t (.tup [.str a, .str b])) := same_new nt
          have gt := DGet.t (s3 _ _ (sG2 _ _ (sG _ _ hd))) (k := key2 (a, b)) (show upd G2 t (.tup [.str a, .str b]) t = some (.tup ((key2 (a, b)).map kV)) from upd_same)
          rw [valV_sheet hp] at gt
          refine ⟨d, _, rfl, gt, _, s3 _ _ hD2, ?_, fun c o ec => ?_, ?_⟩
          · rw [List.length_map, List.length_map]
            refine Nat.lt_of_le_of_lt (List.length_filter_le _ _) (small1000 ?_)
            rw [List.length_take]
            omega
          · rw [upd_ne (ne_of_none ec nD2)]
            exact s3 _ _ (sG2 _ _ ec)
          · rw [upd_same, tk, List.filter_cons_of_pos (by simpa using e), List.filter_nil, List.map_append, List.map_append]
            show some (HO.lst (_ ++ [f (a, b)])) = some (HO.lst (_ ++ [V.int (match f (a, b) with | .int i => i | _ => 0)]))
            rw [hv]
      · rintro G2 ⟨sG2, hD2⟩
        rw [List.length_map, List.take_length] at hD2
        refine ⟨D2, _, rfl, SqL.of hD2, wordsI (zs.take i) (totOf f zs), Sum.inr b, rfl, sG2 _ _ hD, ?_, fun c o e => ?_, ?_⟩
        · rw [wordsI_len, List.length_take]
          exact small1000 (by omega)
        · rw [upd_ne (ne_of_none e nD)]
          exact sG2 _ _ (sG _ _ e)
        · rw [upd_same, take_snoc hb]
          unfold wordsI
          rw [List.map_append, putK_new _ (nameD_new (not_take nd hb))]
          rfl
    · rintro G ⟨sG, hD⟩
      rw [List.length_map, List.take_length] at hD
      exact q G D sG nD hD
theorem ok_worthG {fA fS fHP fL fHv : Addr} {fd dS dHP dL dHv : FuncData} (F : Fun K "worth_and_greatest" "worth_and_greatest" sWorthAndGreatest fA fd)
    (GS : FnOk P w K mg base CX0 1 fS dS ["people", "marks"] spSumsOf) (kS : PySem.W.keepIn K (.ref fS) = true) (bS : Binds K dS ["people", "marks"] []) (gS : mg "sums_of_marks" = some (.ref fS))
    (GHP : FnOk P w K mg base CX0 3 fHP dHP ["people", "marks"] spHalfPrizes) (kHP : PySem.W.keepIn K (.ref fHP) = true) (bHP : Binds K dHP ["people", "marks"] []) (gHP : mg "half_prizes" = some (.ref fHP))
    (GL : FnOk P w K mg base CX0 1 fL dL ["top", "bottom"] spLowest) (kL : PySem.W.keepIn K (.ref fL) = true) (bL : Binds K dL ["top", "bottom"] []) (gL : mg "lowest_terms" = some (.ref fL))
    (GHv : FnOk P w K mg base CX0 2 fHv dHv ["people"] (spHalves K)) (kHv : PySem.W.keepIn K (.ref fHv) = true) (bHv : Binds K dHv ["people"] []) (gHv : mg "halves_in_all" = some (.ref fHv)) (L : Lt mg) :
    FnOk P w K mg base CX0 4 fA fd ["people", "marks"] spWorthG := by
  refine F.ok scWorthAndGreatest (fun vs H Q E h => ?_) (fun cdv A outer s H vs Q E hr h => ?_)
  · obtain ⟨pl, d, zs, f, rfl, _⟩ := h
    rfl
  · obtain ⟨pl, d, zs, f, rfl, hpl, hd, one, z8, nd, hf, q⟩ := h
    have hu1 : (A.deeper (envOfC "worth_and_greatest" (defScope sWorthAndGreatest) s.heap.objs.size fA cdv)).units + 1 < cLine := by
      have := hr.units
      omega
    refine ⟨_, pss_cons (ps_set (i := 2) scWorthAndGreatest.nd rfl (.inr rfl) (pe_call GS (hr.mono (by decide)) (by rfl) gS kS bS .nil pass0 (pa_cons (pv 0) (pa_cons (pv 1) pa_nil))))
      (pss_cons (ps_set (i := 3) scWorthAndGreatest.nd rfl (.inl rfl) (pe_callB (cr_sum rfl) (by rfl) L.sum (by decide +kernel) (pa_cons (pe_lc (own := [("person", 4), ("won", 5)]) (g := gTup K 2 (gCons (gName 4) (gCons (gName 5) gNil))) (by rfl) scWorthAndGreatest.nd (pi_items (pe_lockV (pe_call GHP (hr.mono (by decide)) (by rfl) gHP kHP bHP .nil pass0 (pa_cons (pv 0) (pa_cons (pv 1) pa_nil))))) (blkOk_by (own := [("person", 4), ("won", 5)]) (N := wgN) (sc := defScope sWorthAndGreatest) (by decide +kernel))
          (fun _ _ _ _ _ => pg_tup rfl (pgs_cons (pg_name (i := 4) scWorthAndGreatest.nd rfl (.inl rfl)) (pgs_cons (pg_name (i := 5) scWorthAndGreatest.nd rfl (.inl rfl)) pgs_nil))) (fun _ _ _ _ _ => pts_nil) (fun _ _ _ _ _ => pe_op op_mul (pv 5) (pe_dget (by exact hu1) (pv 2) (pv 4) (fun _ _ => rfl)))) pa_nil)))
      (pss_one (ps_ret (pe_tup (pa_cons (pe_call GL (hr.mono (by decide)) (by rfl) gL kL bL .nil pass0 (pa_cons (pv 3) (pa_cons (pe_call GHv (hr.mono (by decide)) (by rfl) gHv kHv bHv .nil pass0 (pa_cons (pv 0) pa_nil)) pa_nil)))
          (pa_cons (pe_callB (cr_max rfl) (by rfl) L.max (by decide +kernel) (pa_cons (pe_callTy (call_list_valsK rfl) (by rfl) L.list (by decide +kernel) (pa_cons (pe_bm0 PySem.F.plainAttrs_dict PySem.F.slot_dict_values PySem.F.type_dict_values mt_valuesK (pv 2)) pa_nil)) pa_nil)) pa_nil)))))), ?_⟩
    obtain ⟨hb1, hb2, hb3⟩ := halves_bits z8
    refine ⟨_, rfl, _, rfl, pl, d, zs, f, rfl, hpl, hd, z8, nd, hf.ints, fun H1 d1 s1 n1 h1 => ?_⟩
    refine ⟨_, rfl, _, rfl, pl, d, zs, f, rfl, s1 _ _ hpl, s1 _ _ hd, one, z8, nd, hf.ints, fun H4 d4 s4 n4 h4 => ⟨d4, _, rfl, h4, trivial, fun od => ?_⟩⟩
    have S4 := s1.trans s4
    have lk : ∀ {b : Addr} {o : HO}, H1 b = some o → upd H4 d4 (.frz od (.dK (cntD zs (wonOf f zs)))) b = some o := fun e => by
      rw [upd_ne (ne_of_none e n4)]
      exact s4 _ _ e
    have hdL : upd H4 d4 (.frz od (.dK (cntD zs (wonOf f zs)))) d4 = some (.frz od (.dK (cntD zs (wonOf f zs)))) := upd_same
    generalize upd H4 d4 (.frz od (.dK (cntD zs (wonOf f zs)))) = H5 at lk hdL
    have S5 : Same H1 H5 := fun b o e => lk e
    have h5 := lk h1
    refine ⟨d4, od, _, rfl, hdL, fun D nD => ?_⟩
    refine nest_it (walk_items (d := d4) (o := od) (kvs := cntD zs (wonOf f zs))) (fun i G => Same H5 G ∧ G D = some (.lst (((zs.take i).map fun z => (wonOf f zs z : Int) * totOf f zs z).map V.int))) ⟨same_new nD, upd_same⟩ (fun i G _ h => h.1 _ _ hdL) ?_ ?_
    · rintro i y G G0 hi ⟨sG, hD⟩ ⟨T, x1, x2, rfl, nT, rfl, e1, e2⟩
      dsimp only at e1 e2
      have hi2 : i < zs.length := by
        rw [cnt_len] at hi
        exact hi
      have hb := List.getElem?_eq_getElem hi2
      have hbm := List.mem_of_getElem? hb
      generalize zs[i] = b at hb hbm
      have ec : (cntD zs (wonOf f zs))[i]? = some (Sum.inr b, V.int (wonOf f zs b : Nat)) := by
        unfold cntD
        rw [List.getElem?_map, hb]
        rfl
      rw [ec] at e1 e2
      obtain rfl := Option.some.inj e1
      obtain rfl := Option.some.inj e2
      have sT : Same G (upd G T (.tup [kV (Sum.inr b), V.int (wonOf f zs b : Nat)])) := same_new nT
      have gt := DGet.k (sT _ _ (sG _ _ h5)) (k := (Sum.inr b : Key))
      rw [wordsI_get hbm] at gt
      have w256 := won_bits (f := f) (zs := zs) (z := b) z8
      refine ⟨T, _, rfl, SqT.of upd_same, rfl, _, _, rfl, _, _, rfl, rfl, rfl, _, rfl, _, rfl, _, rfl, d1, _, rfl, gt, _, _, rfl, rfl, .inl ⟨by omega, by omega⟩, _, sT _ _ hD, ?_, fun u o e => ?_, ?_⟩
      · rw [List.length_map, List.length_map, List.length_take]
        exact small1000 (by omega)
      · rw [upd_ne (ne_of_none e nD)]
        exact sT _ _ (sG _ _ e)
      · rw [upd_same, take_snoc hb, List.map_append, List.map_append]
        rfl
    · rintro G ⟨sG, hD⟩
      rw [cnt_len, List.take_length] at hD
      have SG := s1.trans (S5.trans sG)
      have hplG := SG _ _ hpl
      have h1G := sG _ _ h5
      have eL : (zs.map V.str).length = zs.length := List.length_map ..
      refine ⟨D, _, rfl, SqL.of hD, _, rfl, _, rfl, pl, zs.map V.str, rfl, SqL.of hplG, by rw [eL]; exact z8, _, _, rfl, by rw [eL]; exact hb2, by rw [eL]; exact hb1, fun G6 p6 s6 n6 h6 => ?_⟩
      rw [eL] at h6
      refine ⟨_, rfl, .inr (.inr (.inl ⟨rfl, .inl ⟨_, s6 _ _ h1G⟩⟩)), d1, _, rfl, rfl, s6 _ _ h1G, fun p np => ?_⟩
      have s7 : Same G6 (upd G6 p (valsO p d1)) := same_new np
      refine ⟨p, d1, _, rfl, upd_same, s7 _ _ (s6 _ _ h1G), fun l2 nl2 => ?_⟩
      have vals : (wordsI zs (totOf f zs)).map (·.2) = (zs.map (totOf f zs)).map V.int := by
        unfold wordsI
        rw [List.map_map, List.map_map]
        rfl
      have s8 : Same (upd G6 p (valsO p d1)) (upd (upd G6 p (valsO p d1)) l2 (.lst ((wordsI zs (totOf f zs)).map (·.2)))) := same_new nl2
      have h8 : upd (upd G6 p (valsO p d1)) l2 (.lst ((wordsI zs (totOf f zs)).map (·.2))) l2 = some (.lst ((zs.map (totOf f zs)).map V.int)) := by rw [upd_same, vals]
      refine ⟨l2, zs.map (totOf f zs), rfl, SqL.of h8, by rw [List.length_map]; exact one, fun g hg1 hg2 => ⟨(by show 2 ≤ sizeLine; decide), fun p9 n9 => ?_⟩⟩
      have S8 := s6.trans (s7.trans s8)
      have s9 := same_new (o := .tup [.ref p6, .int g]) n9
      refine q _ p9 p6 g (SG.trans (S8.trans s9)) ((SG.trans S8).free n9) upd_same (SG.free n6) (s9 _ _ (s8 _ _ (s7 _ _ h6))) ⟨?_, fun b hb => hg2 _ (List.mem_map.mpr ⟨b, hb, rfl⟩)⟩
      obtain ⟨b, hb, e⟩ := List.mem_map.mp hg1
      exact ⟨b, hb, e⟩
end
end K45

set_option Elab.async false
set_option linter.all false
set_option maxRecDepth 100000
set_option maxHeartbeats 4000000
namespace K45
open PySem PySem.Spec PyProof.Rows L2
def spLotWorth (C CP : Addr) : Sp := fun vs H Q _ => ∃ (x : Addr) (zs : List Str) (m : Int) (f : Str × Str → V), vs = [.ref x] ∧ PageOf H C CP x zs m f ∧ 1 ≤ zs.length ∧ zs.length ≤ 8 ∧ zs.Nodup ∧ Marks10 f zs ∧
  ∀ H' t, Same H H' → H t = none → H' t = some (.tup [.int (worthOf f zs).1, .int (worthOf f zs).2]) → Q (.ref t) H'
def ratioOf (f : Str × Str → V) (zs : List Str) (g : Int) : Int × Int := low2 (worthOf f zs).1 ((worthOf f zs).2 * g)
/-- what comes of a ratio -/
def RatV (H H' : Hp) (f : Str × Str → V) (zs : List Str) (v : V) : Prop := (v = .non ∧ IsMx f zs 0) ∨ ∃ p g, v = .ref p ∧ H p = none ∧ IsMx f zs g ∧ g ≠ 0 ∧ H' p = some (.tup [.int (ratioOf f zs g).1, .int (ratioOf f zs g).2])
def RatioQ (H : Hp) (f : Str × Str → V) (zs : List Str) (Q : VK) : Prop := ∀ H' v, Same H H' → RatV H H' f zs v → Q v H'
theorem RatioQ.same {H G : Hp} {f : Str × Str → V} {zs : List Str} {Q : VK} (s : Same H G) (h : RatioQ H f zs Q) : RatioQ G f zs Q := fun H' v s2 r => h H' v (s.trans s2) (by
  rcases r with r | ⟨p, g, e, n, r⟩
  · exact .inl r
  · exact .inr ⟨p, g, e, s.free n, r⟩)
def spRatioOf : Sp := fun vs H Q _ => ∃ (pl d : Addr) (zs : List Str) (f : Str × Str → V), vs = [.ref pl, .ref d] ∧ H pl = some (.lst (zs.map V.str)) ∧ H d = some (.dT (sheetOf zs f)) ∧ 1 ≤ zs.length ∧ zs.length ≤ 8 ∧ zs.Nodup ∧ Marks10 f zs ∧ RatioQ H f zs Q
def spLotRatio (C CP : Addr) : Sp := fun vs H Q _ => ∃ (x : Addr) (zs : List Str) (m : Int) (f : Str × Str → V), vs = [.ref x] ∧ PageOf H C CP x zs m f ∧ 1 ≤ zs.length ∧ zs.length ≤ 8 ∧ zs.Nodup ∧ Marks10 f zs ∧ RatioQ H f zs Q
theorem under_bits {f : Str × Str → V} {zs : List Str} {g : Int} (z8 : zs.length ≤ 8) (hf : Marks10 f zs) (h : IsMx f zs g) (n : g ≠ 0) : 0 < (worthOf f zs).2 * g ∧ ((worthOf f zs).2 * g).natAbs < 2 ^ 64 := by
  obtain ⟨h1, h2⟩ := worth_pos (f := f) z8
  obtain ⟨h3, h4⟩ := h.bounds hf z8
  have g0 : 0 < g := by omega
  have p := Int.mul_pos h1 g0
  have q : (worthOf f zs).2 * g ≤ 512 * 80 := Int.mul_le_mul h2 h4 h3 (by decide)
  exact ⟨p, by omega⟩
section
variable {P : Program} {w : World} {K : PySem.W.Frag} {mg : Str → Option Value} {base : Heap} {C CP : Addr}
theorem ok_ratioOf {fA fWG fL : Addr} {fd dWG dL : FuncData} (F : Fun K "ratio_of" "ratio_of" sRatioOf fA fd)
    (GWG : FnOk P w K mg base CX0 4 fWG dWG ["people", "marks"] spWorthG) (kWG : PySem.W.keepIn K (.ref fWG) = true) (bWG : Binds K dWG ["people", "marks"] []) (gWG : mg "worth_and_greatest" = some (.ref fWG))
    (GL : FnOk P w K mg base CX0 1 fL dL ["top", "bottom"] spLowest) (kL : PySem.W.keepIn K (.ref fL) = true) (bL : Binds K dL ["top", "bottom"] []) (gL : mg "lowest_terms" = some (.ref fL)) :
    FnOk P w K mg base CX0 5 fA fd ["people", "marks"] spRatioOf := by
  refine F.ok scRatioOf (fun vs H Q E h => ?_) (fun cdv A outer s H vs Q E hr h => ?_)
  · obtain ⟨pl, d, zs, f, rfl, _⟩ := h
    rfl
  · obtain ⟨pl, d, zs, f, rfl, hpl, hd, one, z8, nd, hf, q⟩ := h
    refine ⟨_, pss_cons (ps_asg (pe_call GWG (hr.mono (by decide)) (by rfl) gWG kWG bWG .nil pass0 (pa_cons (pv 0) (pa_cons (pv 1) pa_nil))) (pg_tup rfl (pgs_cons (pg_name (i := 2) scRatioOf.nd rfl (.inl rfl)) (pgs_cons (pg_name (i := 3) scRatioOf.nd rfl (.inl rfl)) pgs_nil))))
      (pss_one (ps_ret (pe_ifExp (pt_cmpR op_eq (pv 3) pe_int (nomark _)) pe_non (pe_call GL (hr.mono (by decide)) (by rfl) gL kL bL .nil pass0 (pa_cons (pe_ix ix_tup (pv 2) pe_int (fun _ _ => rfl)) (pa_cons (pe_op op_mul (pe_ix ix_tup (pv 2) pe_int (fun _ _ => rfl)) (pv 3)) pa_nil)))))), ?_⟩
    refine ⟨_, rfl, _, rfl, pl, d, zs, f, rfl, hpl, hd, one, z8, nd, hf, fun H4 p4 t g s4 n4 h4 nt ht mx => ?_⟩
    obtain ⟨w1, w2⟩ := worth_pos (f := f) z8
    obtain ⟨g0, g80⟩ := mx.bounds hf z8
    refine ⟨p4, _, rfl, SqT.of h4, rfl, _, _, rfl, _, _, rfl, rfl, ?_⟩
    refine ⟨_, rfl, rfl, _, rfl, ?_⟩
    by_cases e : g = 0
    · subst e
      rw [decide_eq_true (rfl : V.int 0 = V.int 0)]
      exact iteT (q _ _ s4 (.inl ⟨rfl, mx⟩))
    · rw [decide_eq_false (fun z => e (V.int.inj z) : ¬ V.int g = V.int 0)]
      obtain ⟨u1, u2⟩ := under_bits z8 hf mx e
      refine iteF ⟨_, rfl, t, _, 0, _, rfl, rfl, SqT.of ht, rfl, _, rfl, t, _, 1, _, rfl, rfl, SqT.of ht, rfl, _, rfl, _, _, rfl, rfl, .inl ⟨by omega, by omega⟩, _, _, rfl, u1, u2, fun H5 p5 s5 n5 h5 => ?_⟩
      exact q _ _ (s4.trans s5) (.inr ⟨p5, g, rfl, s4.free n5, mx, e, h5⟩)
end
end K45

set_option Elab.async false
set_option linter.all false
set_option maxRecDepth 100000
set_option maxHeartbeats 4000000
namespace K45
open PySem PySem.Spec PyProof.Rows L2
theorem one_sub {zs ys : List Str} (nd : zs.Nodup) (h : ys.Sublist zs) : oneOf zs ys = ys := sub_filter h nd
def spShares : Sp := fun vs H Q _ => ∃ (gm l d : Addr) (zs : List Str) (m : Int) (f : Str × Str → V), vs = [.ref gm, .ref d] ∧ H gm = some (.dK (planK l m)) ∧ H l = some (.lst (zs.map V.str)) ∧ H d = some (.dT (sheetOf zs f)) ∧ Rot zs ∧ (∀ p ∈ pairsOf zs, ∃ i : Int, f p = .int i) ∧
  ∀ H' p, Same H H' → H p = none → FracD H' p zs (shareOf f zs) → Q (.ref p) H'
abbrev shN : List Str := ["_law_game", "_law_marks", "_law_counts", "_law_person", "_law_first", "_law_one"]
theorem cnt_nodup {zs : List Str} (nd : zs.Nodup) (g : Str → Nat) : ((cntD zs g).map (·.1)).Nodup := by
  unfold cntD
  rw [List.map_map]
  exact List.Pairwise.map _ (fun a b n z => n (Sum.inr.inj z)) nd
theorem frac_nodup {zs : List Str} {ts : List Addr} (nd : zs.Nodup) (h : zs.length = ts.length) : ((fracE zs ts).map (·.1)).Nodup := by
  rw [fracE_keys h]
  exact List.Pairwise.map _ (fun a b n z => n (Sum.inr.inj z)) nd
theorem merge_nil {kvs : List (Key × V)} (h : (kvs.map (·.1)).Nodup) : mergeK [] kvs = kvs := by
  rw [merge_new (κ := []) (by rw [List.nil_append]; exact h), List.nil_append]
def rLen (K : PySem.W.Frag) : List V → Hp → VK → Prop := fun xs H Q => ∃ p ys, xs = [V.ref p] ∧ (SqL K H p ys ∨ SqT K H p ys) ∧ Q (V.int ys.length) H
/-- new pairs of a word and a value -/
def NamedAt (G : Hp) (us : List Addr) (kvs : List (Key × V)) : Prop := Paired (fun u kv => G u = some (.tup [kV kv.1, kv.2])) us kvs
theorem NamedAt.sq {K : PySem.W.Frag} {G : Hp} {us : List Addr} {kvs : List (Key × V)} (h : NamedAt G us kvs) : Paired (fun p kv => SqT K G p [kV kv.1, kv.2]) us kvs := Paired.mono (fun _ _ e => SqT.of e) h
section
variable {P : Program} {w : World} {K : PySem.W.Frag} {mg : Str → Option Value} {base : Heap} {C CP : Addr}
theorem ok_shares {fA fF fW fL fD : Addr} {fd dF dW dL dD : FuncData} (F : Fun K "_law_shares" "_law_shares" sShares fA fd)
    (GF : FnOk P w K mg base CX0 1 fF dF ["_law_people"] spFirsts) (kF : PySem.W.keepIn K (.ref fF) = true) (bF : Binds K dF ["_law_people"] []) (gF : mg "_law_firsts" = some (.ref fF))
    (GW : FnOk P w K mg base CX0 1 fW dW ["_law_game", "_law_marks", "_law_first"] spLawLot) (kW : PySem.W.keepIn K (.ref fW) = true) (bW : Binds K dW ["_law_game", "_law_marks", "_law_first"] []) (gW : mg "_law_lot_winners" = some (.ref fW))
    (GL : FnOk P w K mg base CX0 1 fL dL ["_law_top", "_law_bottom"] spLowest) (kL : PySem.W.keepIn K (.ref fL) = true) (bL : Binds K dL ["_law_top", "_law_bottom"] []) (gL : mg "_law_low" = some (.ref fL))
    (GD : FnOk P w K mg base CX0 1 fD dD ["_law_many_here"] spDouble) (kD : PySem.W.keepIn K (.ref fD) = true) (bD : Binds K dD ["_law_many_here"] []) (gD : mg "_law_double" = some (.ref fD)) (zd : mg "dict" = none) (zl : mg "len" = none) :
    FnOk P w K mg base CX0 2 fA fd ["_law_game", "_law_marks"] spShares := by
  refine F.ok scShares (fun vs H Q E h => ?_) (fun cdv A outer s H vs Q E hr h => ?_)
  · obtain ⟨gm, l, d, zs, m, f, rfl, _⟩ := h
    rfl
  · obtain ⟨gm, l, d, zs, m, f, rfl, hgm, hl, hd, rot, hf, q⟩ := h
    have hu1 : (A.deeper (envOfC "_law_shares" (defScope sShares) s.heap.objs.size fA cdv)).units + 1 < cLine := by
      have := hr.units
      omega
    have z6 := rot.most
    have z8 : zs.length ≤ 8 := by omega
    have nd := rot.nd
    refine ⟨_, pss_cons (ps_set (i := 2) scShares.nd rfl (.inr rfl) (pe_callTy (call_dictP rfl) (by rfl) zd (by decide +kernel) (pa_cons (pe_lc (own := [("_law_person", 3)]) (g := gName 3) (by rfl) scShares.nd (pi_list (pe_dget (by exact hu1) (pv 0) pe_str (fun _ _ => rfl))) (blkOk_by (own := [("_law_person", 3)]) (N := shN) (sc := defScope sShares) (by decide +kernel))
          (fun _ _ _ _ _ => pg_name (i := 3) scShares.nd rfl (Or.inl rfl)) (fun _ _ _ _ _ => pts_nil) (fun _ _ _ _ _ => by exact pe_tup (pa_cons (pv 3) (pa_cons pe_int pa_nil)))) pa_nil)))
      (pss_cons (ps_for PassesOwn.never rfl (pi_list (pe_call GF (hr.mono (by decide)) (by rfl) gF kF bF .nil pass0 (pa_cons (pe_dget (by exact hu1) (pv 0) pe_str (fun _ _ => rfl)) pa_nil))) (pg_name (i := 4) scShares.nd rfl (.inl rfl))
        (pss_one (ps_for PassesOwn.never rfl (pi_list (pe_call GW (hr.mono (by decide)) (by rfl) gW kW bW .nil pass0 (pa_cons (pv 0) (pa_cons (pv 1) (pa_cons (pv 4) pa_nil))))) (pg_name (i := 3) scShares.nd rfl (.inl rfl))
          (pss_one (ps_dput (by exact hu1) (pv 2) (pv 3) (pe_op op_add (pe_dget (by exact hu1) (pv 2) (pv 3) (fun _ _ => rfl)) pe_int) rfl)))))
      (pss_one (ps_ret (pe_callTy (call_dictP rfl) (by rfl) zd (by decide +kernel) (pa_cons (pe_lock (pe_lc (own := [("_law_one", 5)]) (g := gName 5) (by rfl) scShares.nd (pi_keys (pv 2)) (blkOk_by (own := [("_law_one", 5)]) (N := shN) (sc := defScope sShares) (by decide +kernel))
          (fun _ _ _ _ _ => pg_name (i := 5) scShares.nd rfl (Or.inl rfl)) (fun _ _ _ _ _ => pts_nil) (fun _ _ _ _ _ => by exact pe_tup (pa_cons (pv 5) (pa_cons (pe_call GL (Room.mono (by exact hr) (by decide)) (by rfl) gL kL bL .nil pass0 (pa_cons (pe_dget (by exact hu1) (pv 2) (pv 5) (fun _ _ => rfl))
            (pa_cons (pe_call GD (Room.mono (by exact hr) (by decide)) (by rfl) gD kD bD .nil pass0 (pa_cons (pe_op op_add (pe_callB (r := rLen K) call_len_seq (by rfl) zl PySem.boot_len (pa_cons (pe_dget (by exact hu1) (pv 0) pe_str (fun _ _ => rfl)) pa_nil)) pe_int) pa_nil)) pa_nil))) pa_nil))))) pa_nil))))), ?_⟩
    refine ⟨_, rfl, gm, _, rfl, get_people hgm, l, rfl, ⟨_, SqL.of hl⟩, fun D0 nD0 => ?_⟩
    refine nest_it (walk_list (K := K) (a := l) (xs := zs.map V.str)) (fun i G => Same H G ∧ ∃ us : List Addr, G D0 = some (.lst (us.map V.ref)) ∧ D0 ∉ us ∧ NamedAt G us (cntD (zs.take i) fun _ => 0)) ⟨same_new nD0, [], upd_same, by simp, .nil⟩ (fun i G _ h => SqL.of (h.1 _ _ hl)) ?_ ?_
    · rintro i x G0 G hi ⟨sG, us, hD, nDu, hus⟩ ⟨rfl, hx⟩
      rw [List.getElem?_map] at hx
      obtain ⟨b, hb, rfl⟩ := Option.map_eq_some_iff.mp hx
      refine ⟨rfl, _, rfl, (by show 2 ≤ sizeLine; decide), fun t nt => ⟨_, same_new nt _ _ hD, ?_, fun c o e => ?_, us ++ [t], ?_, ?_, ?_⟩⟩
      · rw [List.length_map, hus.length, cnt_len, List.length_take]
        exact small1000 (by omega)
      · rw [upd_ne (ne_of_none e nD0)]
        exact same_new nt _ _ (sG _ _ e)
      · rw [upd_same, List.map_append]
        rfl
      · rw [List.mem_append]
        rintro (z | z)
        · exact nDu z
        · rw [List.mem_singleton] at z
          rw [← z, hD] at nt
          cases nt
      · have tD : t ≠ D0 := (ne_of_none hD nt).symm
        rw [take_snoc hb]
        unfold cntD
        rw [List.map_append]
        refine Paired.snoc (Paired.mono (fun u kv e => ?_) hus) ?_
        · rw [upd_ne (ne_of e hD (fun z => nomatch z)), upd_ne (ne_of_none e nt)]
          exact e
        · rw [upd_ne tD, upd_same]
          rfl
    rintro G1 ⟨s1, us, hD0, _, hus⟩
    rw [List.length_map, List.take_length] at hus
    refine ⟨D0, us, _, rfl, SqL.of hD0, hus.sq, fun D nD => ?_⟩
    rw [merge_nil (cnt_nodup nd _)]
    have s2 : Same G1 (upd G1 D (.dK (cntD zs fun _ => 0))) := same_new nD
    have hD2 : upd G1 D (.dK (cntD zs fun _ => 0)) D = some (.dK (cntD zs fun _ => 0)) := upd_same
    generalize upd G1 D (.dK (cntD zs fun _ => 0)) = G2 at s2 hD2
    have S2 := s1.trans s2
    have nDH : H D = none := s1.free nD
    refine ⟨_, rfl, gm, _, rfl, get_people (S2 _ _ hgm), l, zs, rfl, S2 _ _ hl, z6, fun G3 p as s3 hp has => ⟨p, rfl, ⟨_, SqL.of hp⟩, ?_⟩⟩
    have S3 := S2.trans s3
    have hD3 := s3 _ _ hD2
    have pD : p ≠ D := fun e => by
      rw [e, hD3] at hp
      cases hp
    have keep : ∀ {b : Addr} {o : HO}, H b = some o → b ≠ D := fun e => ne_of_none e nDH
    refine for_list (K := K) (a := p) (xs := as.map V.ref) (fun i σ G => ∃ v3 v4 v5, σ = [some (.ref gm), some (.ref d), some (.ref D), v3, v4, v5] ∧ But D G3 G ∧ G D = some (.dK (cntD zs fun z => sumS ((subsOf zs).take i) (ind f zs z)))) ⟨_, _, _, rfl, But.of_same (Same.refl _), hD3⟩ (fun i σ G _ h => ?_) ?_ ?_
    · obtain ⟨_, _, _, _, b, _⟩ := h
      exact SqL.of (b _ _ pD hp)
    · rintro i y σ G hy ⟨v3, v4, v5, rfl, bG, hDG⟩
      rw [List.getElem?_map] at hy
      obtain ⟨a, ha, rfl⟩ := Option.map_eq_some_iff.mp hy
      obtain ⟨r, hr2, har2⟩ := paired_at has ha
      have rsub := subs_sub r (List.mem_of_getElem? hr2)
      have har := bG _ _ (ne_of har2 hD3 (fun z => nomatch z)) har2
      have kG : ∀ {b : Addr} {o : HO}, H b = some o → G b = some o := fun e => bG _ _ (keep e) (S3 _ _ e)
      refine ⟨_, rfl, _, rfl, _, rfl, gm, l, d, a, zs, r, m, f, rfl, kG hgm, kG hl, kG hd, har, one_sub nd rsub, z8, nd, rot.strOk, hf, fun G4 p4 s4 n4 h4 => ⟨p4, rfl, ⟨_, SqL.of h4⟩, ?_⟩⟩
      have hD4 := s4 _ _ hDG
      have nd4 := win_nodup (f := f) (ys := r) nd
      have p4D : p4 ≠ D := fun e => by
        rw [e, hD4] at h4
        cases h4
      refine for_list (K := K) (a := p4) (xs := (winB f zs r).map V.str) (fun j σ G' => ∃ u3 u5, σ = [some (.ref gm), some (.ref d), some (.ref D), u3, some (.ref a), u5] ∧ But D G4 G' ∧ G' D = some (.dK (cntD zs fun z => sumS ((subsOf zs).take i) (ind f zs z) + (if z ∈ (winB f zs r).take j then 1 else 0)))) ⟨_, _, rfl, But.of_same (Same.refl _), ?_⟩ (fun j σ G' _ h => ?_) ?_ ?_
      · rw [hD4]
        exact congrArg (fun x => some (HO.dK x)) (cnt_congr fun z _ => by simp)
      · obtain ⟨_, _, _, b, _⟩ := h
        exact SqL.of (b _ _ p4D h4)
      · rintro j y σ G' hy2 ⟨u3, u5, rfl, bG', hDG'⟩
        rw [List.getElem?_map] at hy2
        obtain ⟨b, hb, rfl⟩ := Option.map_eq_some_iff.mp hy2
        have bz := win_mem (List.mem_of_getElem? hb)
        have gt := DGet.k hDG' (k := (Sum.inr b : Key))
        rw [cnt_get bz] at gt
        refine ⟨_, rfl, _, rfl, D, _, rfl, gt, _, _, rfl, rfl, _, rfl, _, rfl, D, _, rfl, DPut.k hDG' (k := (Sum.inr b : Key)) (by rw [cnt_len]; exact small1000 (by omega)), ?_⟩
        refine ⟨_, _, rfl, fun c o nc e => ?_, ?_⟩
        · rw [upd_ne nc]
          exact bG' _ _ nc e
        · rw [upd_same]
          have nb : b ∉ (winB f zs r).take j := not_take nd4 hb
          rw [if_neg nb, Nat.add_zero]
          have e2 : ((sumS ((subsOf zs).take i) (ind f zs b) : Nat) : Int) + 1 = ((sumS ((subsOf zs).take i) (ind f zs b) + 1 : Nat) : Int) := by omega
          dsimp only
          rw [e2, cnt_put bz]
          congr 2
          refine cnt_congr fun z _ => ?_
          rw [mem_snoc nd4 hb]
          by_cases c : z = b
          · subst c
            rw [if_pos rfl, if_pos rfl]
          · rw [if_neg c, if_neg c]
      · rintro σ G' ⟨u3, u5, rfl, bG', hDG'⟩
        refine ⟨_, _, _, rfl, fun c o nc e => bG' _ _ nc (s4 _ _ (bG _ _ nc e)), ?_⟩
        rw [hDG']
        congr 2
        refine cnt_congr fun z _ => ?_
        rw [List.length_map, List.take_length, List.take_add_one, hr2]
        show _ = sumS (_ ++ [r]) _
        rw [sum_snoc]
        rfl
    · rintro σ G ⟨v3, v4, v5, rfl, bG, hDG⟩
      rw [List.length_map, ← has.length, List.take_length] at hDG
      have hDG : G D = some (.dK (cntD zs (wonOf f zs))) := hDG
      have SG : Same H G := fun c o e => bG _ _ (keep e) (S3 _ _ e)
      refine ⟨D, _, hDG, trivial, fun od => ?_⟩
      have dL : upd G D (.frz od (.dK (cntD zs (wonOf f zs)))) D = some (.frz od (.dK (cntD zs (wonOf f zs)))) := upd_same
      have bL : ∀ {b : Addr} {o : HO}, b ≠ D → G b = some o → upd G D (.frz od (.dK (cntD zs (wonOf f zs)))) b = some o := fun n e => by
        rw [upd_ne n]
        exact e
      have un : ∀ {G' : Hp}, Same (upd G D (.frz od (.dK (cntD zs (wonOf f zs))))) G' → Same G (upd G' D (.dK (cntD zs (wonOf f zs)))) := fun s => unlock_same hDG s
      generalize upd G D (.frz od (.dK (cntD zs (wonOf f zs)))) = GL0 at dL bL un
      have gmL := bL (keep hgm) (SG _ _ hgm)
      have lL := bL (keep hl) (SG _ _ hl)
      refine ⟨_, rfl, D, od, rfl, .inl ⟨_, dL, fun D5 nD5 => ?_⟩⟩
      have eL : (zs.map V.str).length = zs.length := List.length_map ..
      obtain ⟨hb1, hb2, hb3⟩ := halves_bits z8
      have ep : (2 : Int) ^ (zs.length + 1) = 2 * 2 ^ zs.length := by rw [Int.pow_succ, Int.mul_comm]
      refine nest_it (walk_keys (d := D) (o := od) (kvs := cntD zs (wonOf f zs))) (fun i G5 => Same GL0 G5 ∧ ∃ (us ts : List Addr), G5 D5 = some (.lst (us.map V.ref)) ∧ NamedAt G5 us (fracE (zs.take i) ts) ∧ Paired (fun z t => G5 t = some (.tup [.int (shareOf f zs z).1, .int (shareOf f zs z).2])) (zs.take i) ts) ⟨same_new nD5, [], [], upd_same, .nil, .nil⟩ (fun i G5 _ h => h.1 _ _ dL) ?_ ?_
      · rintro i y G50 G5 hi ⟨sG5, us, ts, hD5, hus5, hts⟩ ⟨rfl, k, v, hk, rfl⟩
        have hi2 : i < zs.length := by
          rw [cnt_len] at hi
          exact hi
        have hb := List.getElem?_eq_getElem hi2
        have hbm := List.mem_of_getElem? hb
        generalize zs[i] = b at hb hbm
        have ec : (cntD zs (wonOf f zs))[i]? = some (Sum.inr b, V.int (wonOf f zs b : Nat)) := by
          unfold cntD
          rw [List.getElem?_map, hb]
          rfl
        rw [ec] at hk
        cases hk
        have tl : (zs.take i).length = ts.length := hts.length
        refine ⟨rfl, _, rfl, _, rfl, _, rfl, D, _, rfl, .inl ⟨_, Sum.inr b, .inr ⟨_, sG5 _ _ dL⟩, rfl, (cnt_get hbm).symm⟩, _, rfl, gm, _, rfl, get_people (sG5 _ _ gmL), l, _, rfl, .inl (SqL.of (sG5 _ _ lL)), _, _, rfl, rfl, zs.length + 1, ?_, by omega, ?_⟩
        · rw [eL]
          rfl
        rw [ep]
        refine ⟨_, _, rfl, hb2, hb1, fun G6 p6 s6 n6 h6 => ⟨(by show 2 ≤ sizeLine; decide), fun t nt => ?_⟩⟩
        have s7 : Same G6 (upd G6 t (.tup [kV (Sum.inr b), .ref p6])) := same_new nt
        have S7 := s6.trans s7
        refine ⟨_, S7 _ _ hD5, ?_, fun u o e => ?_, us ++ [t], ts ++ [p6], ?_, ?_, ?_⟩
        · rw [List.length_map, hus5.length, fracE_len tl, List.length_take]
          exact small1000 (by omega)
        · rw [upd_ne (ne_of_none e nD5)]
          exact S7 _ _ (sG5 _ _ e)
        · rw [upd_same, List.map_append]
          rfl
        · rw [take_snoc hb, fracE_snoc tl]
          refine Paired.snoc (Paired.mono (fun u kv e => ?_) hus5) ?_
          · rw [upd_ne (ne_of e hD5 (fun z => nomatch z))]
            exact S7 _ _ e
          · rw [upd_ne (ne_of_none (s6 _ _ hD5) nt).symm, upd_same]
        · rw [take_snoc hb]
          refine Paired.snoc (Paired.mono (fun z t e => ?_) hts) ?_
          · rw [upd_ne (ne_of e hD5 (fun z => nomatch z))]
            exact S7 _ _ e
          · rw [upd_ne (ne_of_none hD5 n6).symm]
            exact s7 _ _ h6
      · rintro G5 ⟨sG5, us, ts, hD5, hus5, hts⟩
        rw [cnt_len, List.take_length] at hus5 hts
        refine ⟨sG5 _ _ dL, ?_⟩
        have U := un sG5
        have nDD : D5 ≠ D := (ne_of_none dL nD5).symm
        have up : ∀ {b : Addr} {xs : List V}, G5 b = some (.tup xs) → upd G5 D (.dK (cntD zs (wonOf f zs))) b = some (.tup xs) := fun e => by
          rw [upd_ne (ne_of e (sG5 _ _ dL) (fun z => nomatch z))]
          exact e
        refine ⟨D5, us, fracE zs ts, rfl, SqL.of (by rw [upd_ne nDD]; exact hD5), NamedAt.sq (Paired.mono (fun _ _ e => up e) hus5), fun p9 n9 => ?_⟩
        rw [merge_nil (frac_nodup nd hts.length)]
        have s9 := same_new (o := .dK (fracE zs ts)) n9
        exact q _ p9 (SG.trans (U.trans s9)) ((SG.trans U).free n9) ⟨ts, upd_same, Paired.mono (fun _ _ e => s9 _ _ (up e)) hts⟩
end
end K45

set_option Elab.async false
set_option linter.all false
set_option maxRecDepth 100000
set_option maxHeartbeats 4000000
namespace K45
open PySem PySem.Spec PyProof.Rows L2
def spSums : Sp := fun vs H Q _ => ∃ (gm l d : Addr) (zs : List Str) (m : Int) (f : Str × Str → V), vs = [.ref gm, .ref d] ∧ H gm = some (.dK (planK l m)) ∧ H l = some (.lst (zs.map V.str)) ∧ H d = some (.dT (sheetOf zs f)) ∧ Rot zs ∧ (∀ p ∈ pairsOf zs, ∃ i : Int, f p = .int i) ∧
  ∀ H' p, Same H H' → H p = none → H' p = some (.dK (wordsI zs (totOf f zs))) → Q (.ref p) H'
def valOf (f : Str × Str → V) (p : Str × Str) : Int := match f p with | .int i => i | _ => 0
theorem filter_row {zs : List Str} (nd : zs.Nodup) {b : Str} (hb : b ∈ zs) (a : Str) : (rowOf zs a).filter (fun p => decide (p.2 = b)) = if a ≠ b then [(a, b)] else [] := by
  unfold rowOf
  have key : ∀ l : List Str, l.Nodup → (((l.filter fun c => decide (a ≠ c)).map fun c => (a, c)).filter fun p => decide (p.2 = b)) = if b ∈ l ∧ a ≠ b then [(a, b)] else [] := fun l => by
    induction l with
    | nil => intro _; simp
    | cons c l ih =>
      intro h
      obtain ⟨nc, hl⟩ := List.nodup_cons.mp h
      have ih := ih hl
      by_cases e : a = c
      · rw [List.filter_cons_of_neg (by simpa using e), ih]
        by_cases eb : c = b
        · have h1 : a = b := e.trans eb
          simp [h1]
        · have : (b ∈ c :: l) ↔ b ∈ l := ⟨fun z => (List.mem_cons.mp z).resolve_left fun y => eb y.symm, fun z => List.mem_cons_of_mem _ z⟩
          simp only [this]
      · rw [List.filter_cons_of_pos (by simpa using e), List.map_cons]
        by_cases eb : c = b
        · subst eb
          rw [List.filter_cons_of_pos (by simp), ih]
          simp [nc, e]
        · rw [List.filter_cons_of_neg (by simpa using eb), ih]
          have : (b ∈ c :: l) ↔ b ∈ l := ⟨fun z => (List.mem_cons.mp z).resolve_left fun y => eb y.symm, fun z => List.mem_cons_of_mem _ z⟩
          simp only [this]
  rw [key zs nd]
  simp only [hb, true_and]
theorem filter_pairs {zs : List Str} (nd : zs.Nodup) {b : Str} (hb : b ∈ zs) : (pairsOf zs).filter (fun p => decide (p.2 = b)) = (zs.filter fun a => decide (a ≠ b)).map fun a => (a, b) := by
  unfold L2.pairsOf
  have key : ∀ l : List Str, (l.flatMap (rowOf zs)).filter (fun p => decide (p.2 = b)) = (l.filter fun a => decide (a ≠ b)).map fun a => (a, b) := fun l => by
    induction l with
    | nil => rfl
    | cons a l ih =>
      rw [List.flatMap_cons, List.filter_append, filter_row nd hb, ih]
      by_cases e : a = b
      · rw [if_neg (by simpa using e), List.filter_cons_of_neg (by simpa using e)]
        rfl
      · rw [if_pos e, List.filter_cons_of_pos (by simpa using e)]
        rfl
  exact key zs
theorem tot_pairs {f : Str × Str → V} {zs : List Str} (nd : zs.Nodup) {b : Str} (hb : b ∈ zs) : (((pairsOf zs).filter fun p => decide (p.2 = b)).map (valOf f)).sum = totOf f zs b := by
  rw [filter_pairs nd hb, List.map_map]
  rfl
abbrev suN : List Str := ["_law_game", "_law_marks", "_law_found", "_law_person", "_law_pair"]
section
variable {P : Program} {w : World} {K : PySem.W.Frag} {mg : Str → Option Value} {base : Heap} {C CP : Addr}
theorem ok_sums {fA : Addr} {fd : FuncData} (F : Fun K "_law_sums" "_law_sums" sSums fA fd) (L : Lt mg) : FnOk P w K mg base CX0 1 fA fd ["_law_game", "_law_marks"] spSums := by
  refine F.ok scSums (fun vs H Q E h => ?_) (fun cdv A outer s H vs Q E hr h => ?_)
  · obtain ⟨gm, l, d, zs, m, f, rfl, _⟩ := h
    rfl
  · obtain ⟨gm, l, d, zs, m, f, rfl, hgm, hl, hd, rot, hf, q⟩ := h
    have hu1 : (A.deeper (envOfC "_law_sums" (defScope sSums) s.heap.objs.size fA cdv)).units + 1 < cLine := by
      have := hr.units
      omega
    have z6 := rot.most
    have nd := rot.nd
    have l64 : (pairsOf zs).length ≤ 64 := pairs_len (by omega) (by omega)
    refine ⟨_, pss_cons (ps_set (i := 2) scSums.nd rfl (.inl rfl) pe_dnewK)
      (pss_cons (ps_for PassesOwn.never rfl (pi_list (pe_dget (by exact hu1) (pv 0) pe_str (fun _ _ => rfl))) (pg_name (i := 3) scSums.nd rfl (.inr rfl))
        (pss_one (ps_dput (by exact hu1) (pv 2) (pv 3) (pe_callB (cr_sum rfl) (by rfl) L.sum (by decide +kernel) (pa_cons (pe_lock (pe_lc (own := [("_law_pair", 4)]) (g := gName 4) (by rfl) scSums.nd (pi_keys (pv 1)) (blkOk_by (own := [("_law_pair", 4)]) (N := suN) (sc := defScope sSums) (by decide +kernel))
          (fun _ _ _ _ _ => pg_name (i := 4) scSums.nd rfl (Or.inl rfl)) (fun _ _ _ _ _ => pts_one (pt_cmpR op_eq (pe_ix (r := rIxT K) ix_tup (pv 4) pe_int (fun _ _ => rfl)) (pv 3) (nomark _))) (fun _ _ _ _ _ => pe_dget (by exact hu1) (pv 1) (pv 4) (fun _ _ => rfl)))) pa_nil)) rfl)))
      (pss_one (ps_ret (pv 2)))), ?_⟩
    refine fun D nD => ?_
    have s1 : Same H (upd H D (.dK [])) := same_new nD
    have hD1 : upd H D (.dK []) D = some (.dK []) := upd_same
    generalize upd H D (.dK []) = H1 at s1 hD1
    have keep : ∀ {b : Addr} {o : HO}, H b = some o → b ≠ D := fun e => ne_of_none e nD
    refine ⟨_, rfl, gm, _, rfl, get_people (s1 _ _ hgm), l, rfl, ⟨_, SqL.of (s1 _ _ hl)⟩, ?_⟩
    refine for_list (K := K) (a := l) (xs := zs.map V.str) (fun i σ G => ∃ v3 v4, σ = [some (.ref gm), some (.ref d), some (.ref D), v3, v4] ∧ But D H1 G ∧ G D = some (.dK (wordsI (zs.take i) (totOf f zs)))) ⟨_, _, rfl, But.of_same (Same.refl _), hD1⟩ (fun i σ G _ h => ?_) ?_ ?_
    · obtain ⟨_, _, _, b, _⟩ := h
      exact SqL.of (b _ _ (keep hl) (s1 _ _ hl))
    · rintro i y σ G hy ⟨v3, v4, rfl, bG, hDG⟩
      rw [List.getElem?_map] at hy
      obtain ⟨b, hb, rfl⟩ := Option.map_eq_some_iff.mp hy
      have hbm := List.mem_of_getElem? hb
      have hdG := bG _ _ (keep hd) (s1 _ _ hd)
      refine ⟨d, _, hdG, trivial, fun od => ?_⟩
      have dL : upd G d (.frz od (.dT (sheetOf zs f))) d = some (.frz od (.dT (sheetOf zs f))) := upd_same
      have un : ∀ {G' : Hp}, Same (upd G d (.frz od (.dT (sheetOf zs f)))) G' → Same G (upd G' d (.dT (sheetOf zs f))) := fun s => unlock_same hdG s
      generalize upd G d (.frz od (.dT (sheetOf zs f))) = GL0 at dL un
      refine ⟨_, rfl, d, od, rfl, .inr ⟨_, dL, fun D5 nD5 => ?_⟩⟩
      refine nest_it (walk_keysT (d := d) (o := od) (kvs := sheetOf zs f)) (fun j G5 => Same GL0 G5 ∧ G5 D5 = some (.lst (((((pairsOf zs).take j).filter fun p => decide (p.2 = b)).map (valOf f)).map V.int))) ⟨same_new nD5, upd_same⟩ (fun j G5 _ h => h.1 _ _ dL) ?_ ?_
      · rintro j y G50 G5 hj ⟨sG5, hD5⟩ ⟨rfl, k, v, t, hkv, rfl, ht⟩
        rw [sheet_len] at hj
        have hp := List.getElem?_eq_getElem hj
        have hmem := List.getElem_mem hj
        generalize (pairsOf zs)[j] = p at hp hmem
        rw [sheet_at hp] at hkv
        cases hkv
        have gt : DGet G5 d (.ref t) (some (f p)) := .inr ⟨_, key2 p, t, .inr ⟨od, sG5 _ _ dL⟩, rfl, ht, (valV_sheet hmem).symm⟩
        obtain ⟨v0, hv⟩ := hf _ hmem
        have tk : ((pairsOf zs).take (j + 1)).filter (fun p => decide (p.2 = b)) = ((pairsOf zs).take j).filter (fun p => decide (p.2 = b)) ++ ([p].filter fun p => decide (p.2 = b)) := by
          rw [List.take_add_one, hp, List.filter_append]
          rfl
        refine ⟨rfl, _, rfl, t, _, 1, .str p.2, rfl, rfl, SqT.of ht, rfl, _, rfl, rfl, _, rfl, ?_⟩
        by_cases e : p.2 = b
        · rw [show decide (V.str p.2 = V.str b) = true from decide_eq_true (by rw [e])]
          refine iteT ⟨_, rfl, _, rfl, d, _, rfl, gt, _, hD5, ?_, fun c o ec => ?_, ?_⟩
          · rw [List.length_map, List.length_map]
            refine Nat.lt_of_le_of_lt (List.length_filter_le _ _) (small1000 ?_)
            rw [List.length_take]
            omega
          · rw [upd_ne (ne_of_none ec nD5)]
            exact sG5 _ _ ec
          · rw [upd_same, tk, List.filter_cons_of_pos (by simpa using e), List.filter_nil, List.map_append, List.map_append]
            show some (HO.lst (_ ++ [f p])) = some (HO.lst (_ ++ [V.int (valOf f p)]))
            unfold valOf
            rw [hv]
        · rw [show decide (V.str p.2 = V.str b) = false from decide_eq_false (fun z => e (V.str.inj z))]
          refine iteF ⟨sG5, ?_⟩
          rw [tk, List.filter_cons_of_neg (by simpa using e), List.filter_nil, List.append_nil]
          exact hD5
      · rintro G5 ⟨sG5, hD5⟩
        rw [sheet_len, List.take_length] at hD5
        refine ⟨sG5 _ _ dL, ?_⟩
        have U := un sG5
        have nDd : D5 ≠ d := ne_of hD5 (sG5 _ _ dL) (fun z => nomatch z)
        have hD5b : upd G5 d (.dT (sheetOf zs f)) D5 = some (.lst ((((pairsOf zs).filter fun p => decide (p.2 = b)).map (valOf f)).map V.int)) := by rw [upd_ne nDd]; exact hD5
        generalize upd G5 d (.dT (sheetOf zs f)) = G6 at U hD5b
        have hDG6 := U _ _ hDG
        refine ⟨D5, _, rfl, SqL.of hD5b, ?_⟩
        rw [tot_pairs nd hbm]
        refine ⟨_, rfl, _, rfl, D, _, rfl, DPut.k hDG6 (k := (Sum.inr b : Key)) (by rw [wordsI_len, List.length_take]; exact small1000 (by omega)), ?_⟩
        refine ⟨_, _, rfl, fun c o nc e => ?_, ?_⟩
        · rw [upd_ne nc]
          exact U _ _ (bG _ _ nc e)
        · rw [upd_same, take_snoc hb]
          unfold wordsI
          rw [List.map_append, putK_new _ (nameD_new (not_take nd hb))]
          rfl
    · rintro σ G ⟨v3, v4, rfl, bG, hDG⟩
      rw [List.length_map, List.take_length] at hDG
      exact ⟨_, rfl, q G D (fun c o e => bG _ _ (keep e) (s1 _ _ e)) nD hDG⟩
end
end K45

set_option Elab.async false
set_option linter.all false
set_option maxRecDepth 100000
set_option maxHeartbeats 4000000
namespace K45
open PySem PySem.Spec PyProof.Rows L2
def spLawWorth : Sp := fun vs H Q _ => ∃ (gm l d : Addr) (zs : List Str) (m : Int) (f : Str × Str → V), vs = [.ref gm, .ref d] ∧ H gm = some (.dK (planK l m)) ∧ H l = some (.lst (zs.map V.str)) ∧ H d = some (.dT (sheetOf zs f)) ∧ Rot zs ∧ Marks10 f zs ∧
  ∀ H' p, Same H H' → H p = none → H' p = some (.tup [.int (worthOf f zs).1, .int (worthOf f zs).2]) → Q (.ref p) H'
def spLawRatio : Sp := fun vs H Q _ => ∃ (gm l d : Addr) (zs : List Str) (m : Int) (f : Str × Str → V), vs = [.ref gm, .ref d] ∧ H gm = some (.dK (planK l m)) ∧ H l = some (.lst (zs.map V.str)) ∧ H d = some (.dT (sheetOf zs f)) ∧ Rot zs ∧ Marks10 f zs ∧ RatioQ H f zs Q
def spTotal : Sp := fun vs H Q _ => ∃ (g : Addr) (zs : List Str) (f : Str × Str → V) (ts : List Addr), vs = [.ref g, .int (2 * 2 ^ zs.length)] ∧ H g = some (.dK (fracE zs ts)) ∧ Paired (fun z t => H t = some (.tup [.int (shareOf f zs z).1, .int (shareOf f zs z).2])) zs ts ∧ zs.length ≤ 8 ∧
  ∀ H', Same H H' → Q (.int (zs.map fun z => (wonOf f zs z : Int)).sum) H'
theorem share_back {f : Str × Str → V} {zs : List Str} {z : Str} (z8 : zs.length ≤ 8) : (shareOf f zs z).1 * (2 * 2 ^ zs.length / (shareOf f zs z).2) = (wonOf f zs z : Int) := low_back (halves_bits z8).2.1
theorem share_bounds {f : Str × Str → V} {zs : List Str} {z : Str} (z8 : zs.length ≤ 8) : 0 < (shareOf f zs z).2 ∧ (shareOf f zs z).2 ≤ 512 ∧ 0 ≤ (shareOf f zs z).1 ∧ (shareOf f zs z).1 ≤ 256 := by
  obtain ⟨_, h2, h3⟩ := halves_bits z8
  have w256 := won_bits (f := f) (zs := zs) (z := z) z8
  refine ⟨low_pos h2, Int.le_trans (low_le h2) h3, ?_, ?_⟩
  · exact Int.ediv_nonneg (by omega) (Int.le_of_lt (gcd_pos h2))
  · exact Int.le_trans (Int.ediv_le_self _ (by omega)) (by omega)
theorem frac_at {H : Hp} {q : Str → Int × Int} : ∀ {zs : List Str} {ts : List Addr}, Paired (fun z t => H t = some (.tup [.int (q z).1, .int (q z).2])) zs ts → ∀ {i : Nat} {b : Str}, zs[i]? = some b → ∃ t : Addr, (fracE zs ts)[i]? = some (Sum.inr b, V.ref t)
  | _, _, .nil, i, b, h => by simp at h
  | c :: zs, t :: ts, .cons _ r, 0, b, h => by
    cases h
    exact ⟨t, rfl⟩
  | c :: zs, t :: ts, .cons _ r, i + 1, b, h => frac_at r (i := i) h
abbrev woN : List Str := ["_law_game", "_law_marks", "_law_got", "_law_sums_here", "_law_under", "_law_one"]
abbrev toN : List Str := ["_law_got", "_law_under", "_law_one"]
section
variable {P : Program} {w : World} {K : PySem.W.Frag} {mg : Str → Option Value} {base : Heap} {C CP : Addr}
theorem ok_lawWorth {fA fS fSu fL fD : Addr} {fd dS dSu dL dD : FuncData} (F : Fun K "_law_worth" "_law_worth" sWorth fA fd)
    (GS : FnOk P w K mg base CX0 2 fS dS ["_law_game", "_law_marks"] spShares) (kS : PySem.W.keepIn K (.ref fS) = true) (bS : Binds K dS ["_law_game", "_law_marks"] []) (gS : mg "_law_shares" = some (.ref fS))
    (GSu : FnOk P w K mg base CX0 1 fSu dSu ["_law_game", "_law_marks"] spSums) (kSu : PySem.W.keepIn K (.ref fSu) = true) (bSu : Binds K dSu ["_law_game", "_law_marks"] []) (gSu : mg "_law_sums" = some (.ref fSu))
    (GL : FnOk P w K mg base CX0 1 fL dL ["_law_top", "_law_bottom"] spLowest) (kL : PySem.W.keepIn K (.ref fL) = true) (bL : Binds K dL ["_law_top", "_law_bottom"] []) (gL : mg "_law_low" = some (.ref fL))
    (GD : FnOk P w K mg base CX0 1 fD dD ["_law_many_here"] spDouble) (kD : PySem.W.keepIn K (.ref fD) = true) (bD : Binds K dD ["_law_many_here"] []) (gD : mg "_law_double" = some (.ref fD)) (L : Lt mg) (zl : mg "len" = none) :
    FnOk P w K mg base CX0 3 fA fd ["_law_game", "_law_marks"] spLawWorth := by
  refine F.ok scWorth (fun vs H Q E h => ?_) (fun cdv A outer s H vs Q E hr h => ?_)
  · obtain ⟨gm, l, d, zs, m, f, rfl, _⟩ := h
    rfl
  · obtain ⟨gm, l, d, zs, m, f, rfl, hgm, hl, hd, rot, hf, q⟩ := h
    have hu1 : (A.deeper (envOfC "_law_worth" (defScope sWorth) s.heap.objs.size fA cdv)).units + 1 < cLine := by
      have := hr.units
      omega
    have z6 := rot.most
    have z8 : zs.length ≤ 8 := by omega
    refine ⟨_, pss_cons (ps_asg (pe_tup (pa_cons (pe_call GS (hr.mono (by decide)) (by rfl) gS kS bS .nil pass0 (pa_cons (pv 0) (pa_cons (pv 1) pa_nil))) (pa_cons (pe_call GSu (hr.mono (by decide)) (by rfl) gSu kSu bSu .nil pass0 (pa_cons (pv 0) (pa_cons (pv 1) pa_nil))) pa_nil))) (pg_tup rfl (pgs_cons (pg_name (i := 2) scWorth.nd rfl (.inr rfl)) (pgs_cons (pg_name (i := 3) scWorth.nd rfl (.inr rfl)) pgs_nil))))
      (pss_cons (ps_set (i := 4) scWorth.nd rfl (.inr rfl) (pe_call GD (hr.mono (by decide)) (by rfl) gD kD bD .nil pass0 (pa_cons (pe_op op_add (pe_callB call_len_seq (by rfl) zl PySem.boot_len (pa_cons (pe_dget (by exact hu1) (pv 0) pe_str (fun _ _ => rfl)) pa_nil)) pe_int) pa_nil)))
      (pss_one (ps_ret (pe_call GL (hr.mono (by decide)) (by rfl) gL kL bL .nil pass0 (pa_cons (pe_callB (cr_sum rfl) (by rfl) L.sum (by decide +kernel) (pa_cons (pe_lock (pe_lc (own := [("_law_one", 5)]) (g := gName 5) (by rfl) scWorth.nd (pi_keys (pv 2)) (blkOk_by (own := [("_law_one", 5)]) (N := woN) (sc := defScope sWorth) (by decide +kernel))
          (fun _ _ _ _ _ => pg_name (i := 5) scWorth.nd rfl (Or.inl rfl)) (fun _ _ _ _ _ => pts_nil) (fun _ _ _ _ _ => pe_op op_mul (pe_op op_mul (pe_ix (r := rIxT K) ix_tup (pe_dget (by exact hu1) (pv 2) (pv 5) (fun _ _ => rfl)) pe_int (fun _ _ => rfl)) (pe_op op_fdivW (pv 4) (pe_ix (r := rIxT K) ix_tup (pe_dget (by exact hu1) (pv 2) (pv 5) (fun _ _ => rfl)) pe_int (fun _ _ => rfl)))) (pe_dget (by exact hu1) (pv 3) (pv 5) (fun _ _ => rfl))))) pa_nil)) (pa_cons (pv 4) pa_nil)))))), ?_⟩
    refine ⟨_, rfl, _, rfl, gm, l, d, zs, m, f, rfl, hgm, hl, hd, rot, hf.ints, fun H1 g s1 n1 ⟨ts, hg, hts⟩ => ?_⟩
    refine ⟨_, rfl, _, rfl, gm, l, d, zs, m, f, rfl, s1 _ _ hgm, s1 _ _ hl, s1 _ _ hd, rot, hf.ints, fun H2 su s2 n2 hsu => ⟨(by show 2 ≤ sizeLine; decide), fun t nt => ?_⟩⟩
    have s3 : Same H2 (upd H2 t (.tup [.ref g, .ref su])) := same_new nt
    refine ⟨t, _, rfl, SqT.of upd_same, rfl, _, _, rfl, _, _, rfl, rfl, ?_⟩
    have S3 := s1.trans (s2.trans s3)
    have S13 := s2.trans s3
    have hg3 := S13 _ _ hg
    have hsu3 := s3 _ _ hsu
    have hts3 : Paired (fun z u => upd H2 t (.tup [.ref g, .ref su]) u = some (.tup [.int (shareOf f zs z).1, .int (shareOf f zs z).2])) zs ts := Paired.mono (fun _ _ e => S13 _ _ e) hts
    generalize upd H2 t (.tup [.ref g, .ref su]) = H3 at S3 hg3 hsu3 hts3
    have eL : (zs.map V.str).length = zs.length := List.length_map ..
    have ep : (2 : Int) ^ (zs.length + 1) = 2 * 2 ^ zs.length := by rw [Int.pow_succ, Int.mul_comm]
    obtain ⟨hb1, hb2, hb3⟩ := halves_bits z8
    refine ⟨_, rfl, gm, _, rfl, get_people (S3 _ _ hgm), l, _, rfl, .inl (SqL.of (S3 _ _ hl)), _, _, rfl, rfl, zs.length + 1, by rw [eL]; rfl, by omega, ?_⟩
    rw [ep]
    refine ⟨g, _, hg3, trivial, fun od => ?_⟩
    have dL : upd H3 g (.frz od (.dK (fracE zs ts))) g = some (.frz od (.dK (fracE zs ts))) := upd_same
    have tL : ∀ {t : Addr} {xs : List V}, H3 t = some (.tup xs) → upd H3 g (.frz od (.dK (fracE zs ts))) t = some (.tup xs) := fun e => by
      rw [upd_ne (ne_of e hg3 (fun z => nomatch z))]
      exact e
    have nsg : su ≠ g := (ne_of_none hg n2).symm
    have suL : upd H3 g (.frz od (.dK (fracE zs ts))) su = some (.dK (wordsI zs (totOf f zs))) := by
      rw [upd_ne nsg]
      exact hsu3
    have un : ∀ {G' : Hp}, Same (upd H3 g (.frz od (.dK (fracE zs ts)))) G' → Same H3 (upd G' g (.dK (fracE zs ts))) := fun s => unlock_same hg3 s
    generalize upd H3 g (.frz od (.dK (fracE zs ts))) = GL0 at dL tL suL un
    have htL : Paired (fun z t => GL0 t = some (.tup [.int (shareOf f zs z).1, .int (shareOf f zs z).2])) zs ts := Paired.mono (fun _ _ e => tL e) hts3
    refine ⟨_, rfl, g, od, rfl, .inl ⟨_, dL, fun D5 nD5 => ?_⟩⟩
    refine nest_it (walk_keys (d := g) (o := od) (kvs := fracE zs ts)) (fun i G5 => Same GL0 G5 ∧ G5 D5 = some (.lst (((zs.take i).map fun z => (wonOf f zs z : Int) * totOf f zs z).map V.int))) ⟨same_new nD5, upd_same⟩ (fun i G5 _ h => h.1 _ _ dL) ?_ ?_
    · rintro i y G50 G5 hi ⟨sG5, hD5⟩ ⟨rfl, k, v, hk, rfl⟩
      have hi2 : i < zs.length := by
        rw [fracE_len hts.length] at hi
        exact hi
      have hb := List.getElem?_eq_getElem hi2
      have hbm := List.mem_of_getElem? hb
      generalize zs[i] = b at hb hbm
      obtain ⟨t0, ht0⟩ := frac_at hts hb
      rw [ht0] at hk
      cases hk
      obtain ⟨t, hv, ht⟩ := fracE_get htL hbm
      have gt : DGet G5 g (.str b) (some (.ref t)) := .inl ⟨_, Sum.inr b, .inr ⟨_, sG5 _ _ dL⟩, rfl, hv.symm⟩
      have gs := DGet.k (sG5 _ _ suL) (k := (Sum.inr b : Key))
      rw [wordsI_get hbm] at gs
      have htq := SqT.of (K := K) (sG5 _ _ ht)
      obtain ⟨b1, b2, b3, b4⟩ := share_bounds (f := f) (zs := zs) (z := b) z8
      have w256 := won_bits (f := f) (zs := zs) (z := b) z8
      have back := share_back (f := f) (zs := zs) (z := b) z8
      refine ⟨rfl, _, rfl, _, rfl, g, _, rfl, gt, t, _, 0, _, rfl, rfl, htq, rfl, _, rfl, _, rfl, _, rfl, g, _, rfl, gt, t, _, 1, _, rfl, rfl, htq, rfl, _, _, rfl, rfl, wide_div (b := 64) b1 (by omega) (by decide) (by decide), _, _, rfl, rfl, .inl ⟨by omega, by omega⟩, _, rfl, _, rfl, su, _, rfl, gs, _, _, rfl, rfl, ?_, _, hD5, ?_, fun u o e => ?_, ?_⟩
      · rw [back]
        exact .inl ⟨by omega, by omega⟩
      · rw [List.length_map, List.length_map, List.length_take]
        exact small1000 (by omega)
      · rw [upd_ne (ne_of_none e nD5)]
        exact sG5 _ _ e
      · dsimp only
        rw [back, upd_same, take_snoc hb, List.map_append, List.map_append]
        rfl
    · rintro G5 ⟨sG5, hD5⟩
      rw [fracE_len hts.length, List.take_length] at hD5
      have U := un sG5
      have nDd : D5 ≠ g := ne_of hD5 (sG5 _ _ dL) (fun z => nomatch z)
      refine ⟨sG5 _ _ dL, D5, _, rfl, SqL.of (by rw [upd_ne nDd]; exact hD5), _, rfl, _, _, rfl, hb2, hb1, fun H9 p9 s9 n9 h9 => ?_⟩
      exact q _ p9 (S3.trans (U.trans s9)) ((S3.trans U).free n9) h9
theorem ok_lawRatio {fA fW fSu fL : Addr} {fd dW dSu dL : FuncData} (F : Fun K "_law_ratio" "_law_ratio" sRatio fA fd)
    (GW : FnOk P w K mg base CX0 3 fW dW ["_law_game", "_law_marks"] spLawWorth) (kW : PySem.W.keepIn K (.ref fW) = true) (bW : Binds K dW ["_law_game", "_law_marks"] []) (gW : mg "_law_worth" = some (.ref fW))
    (GSu : FnOk P w K mg base CX0 1 fSu dSu ["_law_game", "_law_marks"] spSums) (kSu : PySem.W.keepIn K (.ref fSu) = true) (bSu : Binds K dSu ["_law_game", "_law_marks"] []) (gSu : mg "_law_sums" = some (.ref fSu))
    (GL : FnOk P w K mg base CX0 1 fL dL ["_law_top", "_law_bottom"] spLowest) (kL : PySem.W.keepIn K (.ref fL) = true) (bL : Binds K dL ["_law_top", "_law_bottom"] []) (gL : mg "_law_low" = some (.ref fL)) (L : Lt mg) :
    FnOk P w K mg base CX0 4 fA fd ["_law_game", "_law_marks"] spLawRatio := by
  refine F.ok scRatio (fun vs H Q E h => ?_) (fun cdv A outer s H vs Q E hr h => ?_)
  · obtain ⟨gm, l, d, zs, m, f, rfl, _⟩ := h
    rfl
  · obtain ⟨gm, l, d, zs, m, f, rfl, hgm, hl, hd, rot, hf, q⟩ := h
    have z6 := rot.most
    have z8 : zs.length ≤ 8 := by omega
    refine ⟨_, pss_cons (ps_set (i := 2) scRatio.nd rfl (.inl rfl) (pe_callB (cr_max rfl) (by rfl) L.max (by decide +kernel) (pa_cons (pe_callTy (call_list_valsK rfl) (by rfl) L.list (by decide +kernel) (pa_cons (pe_bm0 PySem.F.plainAttrs_dict PySem.F.slot_dict_values PySem.F.type_dict_values mt_valuesK (pe_call GSu (hr.mono (by decide)) (by rfl) gSu kSu bSu .nil pass0 (pa_cons (pv 0) (pa_cons (pv 1) pa_nil)))) pa_nil)) pa_nil)))
      (pss_cons (ps_asg (pe_call GW (hr.mono (by decide)) (by rfl) gW kW bW .nil pass0 (pa_cons (pv 0) (pa_cons (pv 1) pa_nil))) (pg_tup rfl (pgs_cons (pg_name (i := 3) scRatio.nd rfl (.inl rfl)) (pgs_cons (pg_name (i := 4) scRatio.nd rfl (.inl rfl)) pgs_nil))))
      (pss_one (ps_ret (pe_ifExp (pt_cmpR op_eq (pv 2) pe_int (nomark _)) pe_non (pe_call GL (hr.mono (by decide)) (by rfl) gL kL bL .nil pass0 (pa_cons (pv 3) (pa_cons (pe_op op_mul (pv 4) (pv 2)) pa_nil))))))), ?_⟩
    refine ⟨_, rfl, _, rfl, gm, l, d, zs, m, f, rfl, hgm, hl, hd, rot, hf.ints, fun H1 su s1 n1 hsu => ?_⟩
    refine ⟨.inr (.inr (.inl ⟨rfl, .inl ⟨_, hsu⟩⟩)), su, _, rfl, rfl, hsu, fun p np => ?_⟩
    have s7 : Same H1 (upd H1 p (valsO p su)) := same_new np
    refine ⟨p, su, _, rfl, upd_same, s7 _ _ hsu, fun l2 nl2 => ?_⟩
    have vals : (wordsI zs (totOf f zs)).map (·.2) = (zs.map (totOf f zs)).map V.int := by
      unfold wordsI
      rw [List.map_map, List.map_map]
      rfl
    have s8 : Same (upd H1 p (valsO p su)) (upd (upd H1 p (valsO p su)) l2 (.lst ((wordsI zs (totOf f zs)).map (·.2)))) := same_new nl2
    have h8 : upd (upd H1 p (valsO p su)) l2 (.lst ((wordsI zs (totOf f zs)).map (·.2))) l2 = some (.lst ((zs.map (totOf f zs)).map V.int)) := by rw [upd_same, vals]
    generalize upd (upd H1 p (valsO p su)) l2 (.lst ((wordsI zs (totOf f zs)).map (·.2))) = H8 at s8 h8
    have S8 := s1.trans (s7.trans s8)
    refine ⟨l2, zs.map (totOf f zs), rfl, SqL.of h8, by rw [List.length_map]; exact rot.one, fun g hg1 hg2 => ?_⟩
    have mx : IsMx f zs g := ⟨by
      obtain ⟨b, hb, e⟩ := List.mem_map.mp hg1
      exact ⟨b, hb, e⟩, fun b hb => hg2 _ (List.mem_map.mpr ⟨b, hb, rfl⟩)⟩
    refine ⟨_, rfl, _, rfl, gm, l, d, zs, m, f, rfl, S8 _ _ hgm, S8 _ _ hl, S8 _ _ hd, rot, hf, fun H9 p9 s9 n9 h9 => ?_⟩
    have S9 := S8.trans s9
    obtain ⟨w1, w2⟩ := worth_pos (f := f) z8
    obtain ⟨g0, g80⟩ := mx.bounds hf z8
    refine ⟨p9, _, rfl, SqT.of h9, rfl, _, _, rfl, _, _, rfl, rfl, ?_⟩
    refine ⟨_, rfl, rfl, _, rfl, ?_⟩
    by_cases e : g = 0
    · subst e
      rw [decide_eq_true (rfl : V.int 0 = V.int 0)]
      exact iteT (q _ _ S9 (.inl ⟨rfl, mx⟩))
    · rw [decide_eq_false (fun z => e (V.int.inj z) : ¬ V.int g = V.int 0)]
      obtain ⟨u1, u2⟩ := under_bits z8 hf mx e
      refine iteF ⟨_, rfl, _, rfl, _, rfl, _, _, rfl, rfl, .inl ⟨by omega, by omega⟩, _, _, rfl, u1, u2, fun H5 p5 s5 n5 h5 => ?_⟩
      exact q _ _ (S9.trans s5) (.inr ⟨p5, g, rfl, S9.free n5, mx, e, h5⟩)
end
end K45

set_option Elab.async false
set_option linter.all false
set_option maxRecDepth 100000
set_option maxHeartbeats 4000000
namespace K45
open PySem PySem.Spec PyProof.Rows L2
def rowAt : List (Str × Str) → List Int → Str × Str → Int
  | p :: ps, r :: rs, q => if q = p then r else rowAt ps rs q
  | _, _, _ => 0
theorem rowAt_at : ∀ {ps : List (Str × Str)} {row : List Int} {i : Nat} {p : Str × Str} {r : Int}, ps.Nodup → ps[i]? = some p → row[i]? = some r → rowAt ps row p = r
  | [], _, i, p, r, _, h, _ => by simp at h
  | a :: ps, [], i, p, r, _, _, h => by simp at h
  | a :: ps, b :: row, 0, p, r, _, h, k => by
    cases h
    cases k
    exact if_pos rfl
  | a :: ps, b :: row, i + 1, p, r, nd, h, k => by
    obtain ⟨na, nd2⟩ := List.nodup_cons.mp nd
    have h2 : ps[i]? = some p := h
    have k2 : row[i]? = some r := k
    show (if p = a then b else rowAt ps row p) = r
    rw [if_neg (fun e => na (by rw [← e]; exact List.mem_of_getElem? h2))]
    exact rowAt_at nd2 h2 k2
theorem rowAt_mem : ∀ {ps : List (Str × Str)} {row : List Int} {p : Str × Str}, row.length = ps.length → p ∈ ps → rowAt ps row p ∈ row
  | [], _, p, _, h => by simp at h
  | a :: ps, [], p, l, _ => by simp at l
  | a :: ps, b :: row, p, l, h => by
    show (if p = a then b else rowAt ps row p) ∈ b :: row
    by_cases e : p = a
    · rw [if_pos e]
      exact List.mem_cons_self ..
    · rw [if_neg e]
      exact List.mem_cons_of_mem _ (rowAt_mem (by simpa using l) ((List.mem_cons.mp h).resolve_left e))
/-- the marks of a row, by pair -/
def fOf (zs : List Str) (row : List Int) (p : Str × Str) : V := .int (rowAt (pairsOf zs) row p)
theorem tups_mem {m : Nat} : ∀ {k : Nat}, ∀ r ∈ tupsOf m k, ∀ x ∈ r, 0 ≤ x ∧ x ≤ (m : Int)
  | 0, r, h, x, hx => by
    rw [List.mem_singleton.mp h] at hx
    cases hx
  | k + 1, r, h, x, hx => by
    obtain ⟨r2, h2, h3⟩ := List.mem_flatMap.mp h
    obtain ⟨n, hn, rfl⟩ := List.mem_map.mp h3
    rcases List.mem_append.mp hx with h | h
    · exact tups_mem r2 h2 x h
    · rw [List.mem_singleton.mp h]
      have := List.mem_range.mp hn
      omega
theorem mem_tups {m : Nat} : ∀ {k : Nat} {r : List Int}, r.length = k → (∀ x ∈ r, 0 ≤ x ∧ x ≤ (m : Int)) → r ∈ tupsOf m k := by
  intro k
  induction k with
  | zero =>
    intro r l _
    rw [List.length_eq_zero_iff.mp l]
    exact List.mem_singleton.mpr rfl
  | succ k ih =>
    intro r l h
    have ne : r ≠ [] := fun e => by
      rw [e] at l
      cases l
    obtain ⟨h0, h1⟩ := h _ (List.getLast_mem ne)
    refine List.mem_flatMap.mpr ⟨r.dropLast, ih (by rw [List.length_dropLast]; omega) fun x hx => h x ((List.dropLast_sublist r).subset hx), List.mem_map.mpr ⟨(r.getLast ne).toNat, List.mem_range.mpr (by omega), ?_⟩⟩
    rw [Int.toNat_of_nonneg h0]
    exact List.dropLast_concat_getLast ne
theorem fOf_at {zs : List Str} {m : Nat} {row : List Int} (h : row ∈ tupsOf m (pairsOf zs).length) : ∀ p ∈ pairsOf zs, ∃ i : Int, fOf zs row p = .int i ∧ 0 ≤ i ∧ i ≤ (m : Int) := fun p hp =>
  ⟨_, rfl, tups_mem row h _ (rowAt_mem (tups_len row h) hp)⟩
theorem fOf_ten {zs : List Str} {m : Nat} {row : List Int} (m10 : m ≤ 10) (h : row ∈ tupsOf m (pairsOf zs).length) : Marks10 (fOf zs row) zs := fun p hp => by
  obtain ⟨i, e, h1, h2⟩ := fOf_at h p hp
  exact ⟨i, e, h1, by omega⟩
theorem fOf_ok {zs : List Str} {m : Nat} {row : List Int} (h : row ∈ tupsOf m (pairsOf zs).length) : ∀ p ∈ pairsOf zs, mkOk (m : Int) (fOf zs row p) = true := fun p hp => by
  obtain ⟨i, e, h1, h2⟩ := fOf_at h p hp
  rw [e]
  show (decide (V.int i = V.non) || (decide (0 ≤ i) && decide (i ≤ (m : Int)))) = true
  rw [decide_eq_true h1, decide_eq_true h2]
  simp
open Classical in
noncomputable def ratF (f : Str × Str → V) (zs : List Str) : Option (Int × Int) := if h : ∃ g, g ≠ 0 ∧ IsMx f zs g then some (ratioOf f zs (Classical.choose h)) else none
theorem ratF_none {f : Str × Str → V} {zs : List Str} (h : IsMx f zs 0) : ratF f zs = none := by
  unfold ratF
  rw [dif_neg]
  rintro ⟨g, n, k⟩
  exact n (k.uniq h)
theorem ratF_some {f : Str × Str → V} {zs : List Str} {g : Int} (h : IsMx f zs g) (n : g ≠ 0) : ratF f zs = some (ratioOf f zs g) := by
  have ex : ∃ g, g ≠ 0 ∧ IsMx f zs g := ⟨g, n, h⟩
  unfold ratF
  rw [dif_pos ex, (Classical.choose_spec ex).2.uniq h]
theorem ratF_inv {f : Str × Str → V} {zs : List Str} {r : Int × Int} (h : ratF f zs = some r) : ∃ g, g ≠ 0 ∧ IsMx f zs g ∧ r = ratioOf f zs g := by
  unfold ratF at h
  split at h
  · rename_i ex
    exact ⟨_, (Classical.choose_spec ex).1, (Classical.choose_spec ex).2, (Option.some.inj h).symm⟩
  · cases h
theorem rat_val {H H' : Hp} {f : Str × Str → V} {zs : List Str} {v : V} (h : RatV H H' f zs v) : (v = .non ∧ ratF f zs = none) ∨ ∃ p r, v = .ref p ∧ H p = none ∧ ratF f zs = some r ∧ H' p = some (.tup [.int r.1, .int r.2]) := by
  rcases h with ⟨e, h⟩ | ⟨p, g, e, n, h, g0, t⟩
  · exact .inl ⟨e, ratF_none h⟩
  · exact .inr ⟨p, _, e, n, ratF_some h g0, t⟩
theorem sum_upto {B : Int} : ∀ {l : List Int}, (∀ x ∈ l, 0 ≤ x ∧ x ≤ B) → 0 ≤ l.sum ∧ l.sum ≤ B * (l.length : Int)
  | [], _ => ⟨by simp, by simp⟩
  | a :: l, h => by
    obtain ⟨h1, h2⟩ := sum_upto (l := l) fun x hx => h x (List.mem_cons_of_mem _ hx)
    obtain ⟨h3, h4⟩ := h a (List.mem_cons_self ..)
    rw [List.sum_cons, List.length_cons, Int.natCast_add, Int.mul_add]
    constructor <;> omega
theorem top_upto {f : Str × Str → V} {zs : List Str} (hf : Marks10 f zs) (z8 : zs.length ≤ 8) : 0 ≤ worthTop f zs ∧ worthTop f zs ≤ 163840 := by
  unfold worthTop
  obtain ⟨h1, h2⟩ := sum_upto (B := 20480) (l := zs.map fun z => (wonOf f zs z : Int) * totOf f zs z) fun x hx => by
    obtain ⟨z, hz, rfl⟩ := List.mem_map.mp hx
    obtain ⟨t0, t80⟩ := tot_bounds hf hz z8
    have w := won_bits (f := f) (zs := zs) (z := z) z8
    refine ⟨Int.mul_nonneg (by omega) t0, ?_⟩
    have : (wonOf f zs z : Int) * totOf f zs z ≤ 256 * 80 := Int.mul_le_mul (by omega) t80 t0 (by decide)
    omega
  rw [List.length_map] at h2
  exact ⟨h1, by omega⟩
theorem low_top {t b : Int} (h : 0 ≤ t) : 0 ≤ (low2 t b).1 ∧ (low2 t b).1 ≤ t :=
  ⟨Int.ediv_nonneg h (by unfold gcdI; omega), Int.ediv_le_self _ h⟩
theorem ratio_bits {f : Str × Str → V} {zs : List Str} {r : Int × Int} (hf : Marks10 f zs) (z8 : zs.length ≤ 8) (h : ratF f zs = some r) : r.1.natAbs < 2 ^ 64 ∧ r.2.natAbs < 2 ^ 64 := by
  obtain ⟨g, g0, mx, rfl⟩ := ratF_inv h
  obtain ⟨u1, u2⟩ := under_bits z8 hf mx g0
  obtain ⟨t0, t1⟩ := top_upto hf z8
  obtain ⟨a0, a1⟩ := low_top (b := 2 * 2 ^ zs.length) t0
  obtain ⟨b0, b1⟩ := low_top (t := (worthOf f zs).1) (b := (worthOf f zs).2 * g) a0
  have c0 := low_pos (t := (worthOf f zs).1) u1
  have c1 := low_le (t := (worthOf f zs).1) u1
  have a1' : (worthOf f zs).1 ≤ worthTop f zs := a1
  show (low2 (worthOf f zs).1 ((worthOf f zs).2 * g)).1.natAbs < _ ∧ (low2 (worthOf f zs).1 ((worthOf f zs).2 * g)).2.natAbs < _
  constructor
  · omega
  · omega
def lessB (a b : Int × Int) : Bool := decide (a.1 * b.2 < b.1 * a.2)
noncomputable def stepF (zs : List Str) (t : Option (List Int × (Int × Int))) (row : List Int) : Option (List Int × (Int × Int)) :=
  match ratF (fOf zs row) zs, t with
  | none, t => t
  | some r, none => some (row, r)
  | some r, some b => if lessB r b.2 = true then some (row, r) else some b
noncomputable def bestF (zs : List Str) (rows : List (List Int)) : Option (List Int × (Int × Int)) := rows.foldl (stepF zs) none
theorem best_snoc {zs : List Str} {rows : List (List Int)} {i : Nat} {row : List Int} (h : rows[i]? = some row) : bestF zs (rows.take (i + 1)) = stepF zs (bestF zs (rows.take i)) row := by
  unfold bestF
  rw [List.take_add_one, h, List.foldl_append]
  rfl
theorem step_non {zs : List Str} {t : Option (List Int × (Int × Int))} {row : List Int} (h : ratF (fOf zs row) zs = none) : stepF zs t row = t := by
  unfold stepF
  rw [h]
theorem step_new {zs : List Str} {row : List Int} {r : Int × Int} (h : ratF (fOf zs row) zs = some r) : stepF zs none row = some (row, r) := by
  unfold stepF
  rw [h]
theorem step_old {zs : List Str} {row : List Int} {r : Int × Int} {b : List Int × (Int × Int)} (h : ratF (fOf zs row) zs = some r) : stepF zs (some b) row = if lessB r b.2 = true then some (row, r) else some b := by
  unfold stepF
  rw [h]
theorem best_ok {zs : List Str} {rows : List (List Int)} : ∀ {t : Option (List Int × (Int × Int))}, (∀ b, t = some b → ratF (fOf zs b.1) zs = some b.2) → ∀ b, rows.foldl (stepF zs) t = some b → (b.1 ∈ rows ∨ t = some b) ∧ ratF (fOf zs b.1) zs = some b.2 := by
  induction rows with
  | nil => exact fun k b h => ⟨.inr h, k b h⟩
  | cons row rows ih =>
    intro t k b h
    have key : ∀ c, stepF zs t row = some c → (c.1 = row ∨ t = some c) ∧ ratF (fOf zs c.1) zs = some c.2 := fun c hc => by
      cases e : ratF (fOf zs row) zs with
      | none =>
        rw [step_non e] at hc
        exact ⟨.inr hc, k c hc⟩
      | some r =>
        cases t with
        | none =>
          rw [step_new e] at hc
          cases hc
          exact ⟨.inl rfl, e⟩
        | some d =>
          rw [step_old e] at hc
          split at hc
          · cases hc
            exact ⟨.inl rfl, e⟩
          · exact ⟨.inr hc, k c hc⟩
    obtain ⟨h1, h2⟩ := ih (t := stepF zs t row) (fun c hc => (key c hc).2) b h
    refine ⟨?_, h2⟩
    rcases h1 with h1 | h1
    · exact .inl (List.mem_cons_of_mem _ h1)
    · rcases (key b h1).1 with e | e
      · exact .inl (by rw [e]; exact List.mem_cons_self ..)
      · exact .inr e
theorem bestF_ok {zs : List Str} {rows : List (List Int)} {b : List Int × (Int × Int)} (h : bestF zs rows = some b) : b.1 ∈ rows ∧ ratF (fOf zs b.1) zs = some b.2 := by
  obtain ⟨h1, h2⟩ := best_ok (t := none) (fun _ z => by cases z) b h
  exact ⟨h1.resolve_right (fun z => by cases z), h2⟩
theorem best_any {zs : List Str} {row : List Int} {r : Int × Int} {rows : List (List Int)} : ∀ {t : Option (List Int × (Int × Int))}, (row ∈ rows ∧ ratF (fOf zs row) zs = some r) ∨ t ≠ none → rows.foldl (stepF zs) t ≠ none := by
  induction rows with
  | nil =>
    rintro t (⟨h, _⟩ | h)
    · cases h
    · exact h
  | cons a rows ih =>
    intro t h
    refine ih ?_
    have keep : t ≠ none → stepF zs t a ≠ none := fun n => by
      cases e : ratF (fOf zs a) zs with
      | none => rw [step_non e]; exact n
      | some r =>
        cases t with
        | none => exact absurd rfl n
        | some d =>
          rw [step_old e]
          split <;> simp
    rcases h with ⟨h, k⟩ | h
    · rcases List.mem_cons.mp h with e | e
      · subst e
        refine .inr ?_
        cases t with
        | none => rw [step_new k]; simp
        | some d => exact keep (by simp)
      · exact .inl ⟨e, k⟩
    · exact .inr (keep h)
def spLess : Sp := fun vs H Q _ => ∃ (a b : Addr) (r s : Int × Int), vs = [.ref a, .ref b] ∧ H a = some (.tup [.int r.1, .int r.2]) ∧ H b = some (.tup [.int s.1, .int s.2]) ∧ (r.1.natAbs < 2 ^ 64 ∧ r.2.natAbs < 2 ^ 64) ∧ (s.1.natAbs < 2 ^ 64 ∧ s.2.natAbs < 2 ^ 64) ∧ Q (.bl (lessB r s)) H
/-- what worst_lot tells -/
def WorstV (H : Hp) (C CP : Addr) (zs : List Str) (m : Nat) (v : V) : Prop := (bestF zs (tupsOf m (pairsOf zs).length) = none ∧ v = .non) ∨
  ∃ (row : List Int) (r : Int × Int) (t x y : Addr), bestF zs (tupsOf m (pairsOf zs).length) = some (row, r) ∧ v = .ref t ∧ H t = some (.tup [.ref x, .ref y]) ∧ H x = some (.tup [.int r.1, .int r.2]) ∧ PageOf H C CP y zs (m : Int) (fOf zs row)
def spWorst (C CP CT : Addr) : Sp := fun vs H Q E => ∃ (c : Addr) (zs : List Str) (m : Nat), vs = [.ref c] ∧ CrowdOf H C c zs (m : Int) ∧ 1 ≤ zs.length ∧ zs.length ≤ 8 ∧ zs.Nodup ∧ 1 ≤ m ∧ m ≤ 10 ∧
  (4096 < (m + 1) ^ (pairsOf zs).length → ∀ H' d, Raised H H' d "most" (.int 4096) → E (.ref CT) (some d) H') ∧
  ((m + 1) ^ (pairsOf zs).length ≤ 4096 → ∀ H' v, Same H H' → WorstV H' C CP zs m v → Q v H')
abbrev wlN : List Str := ["crowd", "people", "pairs", "told", "row", "marks", "pair", "mark", "ratio"]
section
variable {P : Program} {w : World} {K : PySem.W.Frag} {mg : Str → Option Value} {base : Heap} {C CP CT : Addr}
theorem ok_TooManyInit {f D : Addr} {fd : FuncData} (F : Fun K "__init__" "TooMany.__init__" sTooManyInit f fd) : FnOk P w K mg base CX0 1 f fd ["self", "most"] (spEcInit K D "most") := by
  refine F.ok scTooManyInit (fun vs H Q E h => ?_) (fun cdv A outer s H vs Q E hr h => ?_)
  · obtain ⟨a, v, rfl, _⟩ := h
    rfl
  · obtain ⟨a, v, rfl, T, nf, ha, q⟩ := h
    refine ⟨_, pss_one (ps_ec (f := "most") (pv 0) (pv 1)), ?_⟩
    exact ⟨_, rfl, _, rfl, a, D, rfl, T, nf, ha, fun d nd ne => q d nd ne⟩
theorem ok_isLess {f : Addr} {fd : FuncData} (F : Fun K "is_less" "is_less" sIsLess f fd) : FnOk P w K mg base CX0 1 f fd ["one", "other"] spLess := by
  refine F.ok scIsLess (fun vs H Q E h => ?_) (fun cdv A outer s H vs Q E hr h => ?_)
  · obtain ⟨a, b, r, t, rfl, _⟩ := h
    rfl
  · obtain ⟨a, b, r, t, rfl, ha, hb, ⟨r1, r2⟩, ⟨t1, t2⟩, q⟩ := h
    refine ⟨_, pss_one (ps_ret (pe_cmpR op_lt (pe_op op_mulW (pe_ix ix_tup (pv 0) pe_int (fun _ _ => rfl)) (pe_ix ix_tup (pv 1) pe_int (fun _ _ => rfl))) (pe_op op_mulW (pe_ix ix_tup (pv 1) pe_int (fun _ _ => rfl)) (pe_ix ix_tup (pv 0) pe_int (fun _ _ => rfl))) (nomark _))), ?_⟩
    refine ⟨_, rfl, a, _, 0, _, rfl, rfl, SqT.of ha, rfl, _, rfl, b, _, 1, _, rfl, rfl, SqT.of hb, rfl, _, _, rfl, rfl, wide_mul r1 t2 (by decide) (by decide) (by decide), ?_⟩
    refine ⟨_, rfl, b, _, 0, _, rfl, rfl, SqT.of hb, rfl, _, rfl, a, _, 1, _, rfl, rfl, SqT.of ha, rfl, _, _, rfl, rfl, wide_mul t1 r2 (by decide) (by decide) (by decide), ?_⟩
    exact ⟨_, _, rfl, rfl, q⟩
end
end K45

set_option Elab.async false
set_option linter.all false
set_option maxRecDepth 100000
set_option maxHeartbeats 4000000
namespace K45
open PySem PySem.Spec PyProof.Rows L2
section
variable {P : Program} {w : World} {K : PySem.W.Frag} {mg : Str → Option Value} {base : Heap} {C CP CT : Addr}
/-- what the program holds as the worst so far -/
def ToldAt (H : Hp) (zs : List Str) (t : Option (List Int × (Int × Int))) (v : V) : Prop := (t = none ∧ v = .non) ∨
  ∃ (row : List Int) (r : Int × Int) (p x d : Addr), t = some (row, r) ∧ v = .ref p ∧ H p = some (.tup [.ref x, .ref d]) ∧ H x = some (.tup [.int r.1, .int r.2]) ∧ H d = some (.dT (sheetOf zs (fOf zs row)))
theorem ToldAt.same {H G : Hp} {zs : List Str} {t : Option (List Int × (Int × Int))} {v : V} (s : Same H G) (h : ToldAt H zs t v) : ToldAt G zs t v := by
  rcases h with h | ⟨row, r, p, x, d, e, e2, h1, h2, h3⟩
  · exact .inl h
  · exact .inr ⟨row, r, p, x, d, e, e2, s _ _ h1, s _ _ h2, s _ _ h3⟩
def spFew (C CT : Addr) : Sp := fun vs H Q E => ∃ (c : Addr) (zs : List Str) (m : Nat), vs = [.ref c] ∧ CrowdOf H C c zs (m : Int) ∧ zs.length ≤ 8 ∧ 1 ≤ m ∧ m ≤ 10 ∧
  (4096 < (m + 1) ^ (pairsOf zs).length → ∀ H' d, Raised H H' d "most" (.int 4096) → E (.ref CT) (some d) H') ∧ ((m + 1) ^ (pairsOf zs).length ≤ 4096 → ∀ H', Same H H' → Q .non H')
theorem ok_needFew {fA fPa fPo fI : Addr} {fd dPa dPo dI : FuncData} {t0 : Tok} (F : Fun K "need_few_pages" "need_few_pages" sNeedFewPages fA fd)
    (cl : Cls K C) (nM : NoAttr K C "most") (mPa : Meth K C "pairs" fPa) (GPa : FnOk P w K mg base CX0 1 fPa dPa ["self"] (spCrowdPairs C)) (bPa : Binds K dPa ["self"] [])
    (GPo : FnOk P w K mg base CX0 1 fPo dPo ["base", "many"] spPower) (kPo : PySem.W.keepIn K (.ref fPo) = true) (bPo : Binds K dPo ["base", "many"] []) (gPo : mg "power" = some (.ref fPo))
    (TT : EcC K CT) (gT : mg "TooMany" = some (.ref CT)) (no : PySem.W.findIn K (.ref CT) "most" = some none) (iT : PySem.W.findIn K (.ref CT) "__init__" = some (some (.ref fI)))
    (tT : PySem.W.typeIn K (.ref fI) = some (.type "function")) (GI : FnOk P w K mg base CX0 1 fI dI ["self", "most"] (spEcInit K CT "most")) (bI : Binds K dI ["self", "most"] [])
    (gM : mg "MOST_PAGES" = some (.int 4096 t0)) (zl : mg "len" = none) : FnOk P w K mg base (L2.CX P w) 3 fA fd ["crowd"] (spFew C CT) := by
  refine F.okX scNeedFewPages (fun vs H Q E h => ?_) (fun cdv A outer s H vs Q E hr h => ?_)
  · obtain ⟨c, zs, m, rfl, _⟩ := h
    rfl
  · obtain ⟨c, zs, m, rfl, hC, z8, m1, m10, qx, q⟩ := h
    refine ⟨_, pss_one (ps_if (pt_cmpR op_gt (pe_call GPo (hr.mono (by decide)) (by rfl) gPo kPo bPo .nil pass0 (pa_cons (pe_op op_add (pe_fld (pv 0) rfl) pe_int) (pa_cons (pe_callB call_len_seq (by rfl) zl PySem.boot_len (pa_cons (pe_meth0 (pv 0) cl mPa GPa (hr.mono (by decide)) bPa .nil pass0) pa_nil)) pa_nil))) (pe_glob (v := .int 4096) (by rfl) gM ⟨_, rfl⟩) (nomark _))
          (pss_one (ps_raise rfl (takes_of rfl rfl rfl rfl) (pmk_ec TT iT tT GI (hr.mono (by decide)) bI pass0 (by rfl) gT (pa_cons (pe_glob (v := .int 4096) (by rfl) gM ⟨_, rfl⟩) pa_nil)))) pss_nil), ?_⟩
    obtain ⟨dc, lc, hcx, hcl⟩ := id hC
    have n64 : (pairsOf zs).length ≤ 64 := pairs_len z8 z8
    refine ⟨_, rfl, c, C, dc, _, _, rfl, hcx, cl, nM, rfl, _, _, rfl, rfl, _, rfl, c, dc, _, rfl, hcx, rfl, c, zs, _, rfl, hC, z8, fun H2 p2 ys s2 n2 h2 t2 => ?_⟩
    have eN : ((ys.length : Nat) : Int) = (((pairsOf zs).length : Nat) : Int) := by rw [t2.1]
    refine ⟨p2, _, rfl, .inl (SqL.of h2), ((m + 1 : Nat) : Int), (pairsOf zs).length, ?_, by omega, by omega, ?_⟩
    · rw [eN]
      rfl
    rw [← Int.natCast_pow]
    refine ⟨_, _, rfl, rfl, _, rfl, ?_⟩
    by_cases big : 4096 < (m + 1) ^ (pairsOf zs).length
    · rw [decide_eq_true (show (4096 : Int) < (((m + 1) ^ (pairsOf zs).length : Nat) : Int) by omega)]
      refine iteT ⟨(by show 1 ≤ 1000; decide), fun a na => ⟨a, _, rfl, TT, no, upd_same, fun d nd' nda => ?_⟩⟩
      have nd1 : H2 d = none := by
        rw [upd_ne nda] at nd'
        exact nd'
      refine ⟨rfl, d, _, upd_same, by rw [upd_ne nda, upd_same], nd1, ?_⟩
      obtain ⟨r1, r2, r3⟩ := raised_mk (C := CT) (f := "most") (v := V.int 4096) na nd1 nda
      exact qx big _ d ⟨s2.trans r1, s2.free r2, r3⟩
    · rw [decide_eq_false (show ¬ (4096 : Int) < (((m + 1) ^ (pairsOf zs).length : Nat) : Int) by omega)]
      exact iteF (q (by omega) _ s2)
theorem ok_worst {fA fNC fPe pP fPa fFw fAT fRO fLs fPI : Addr} {fd dNC dPe dPa dFw dAT dRO dLs dPI : FuncData} (F : Fun K "worst_lot" "worst_lot" sWorstLot fA fd)
    (GNC : FnOk P w K mg base CX0 1 fNC dNC ["crowd"] (spNeedCrowd C)) (kNC : PySem.W.keepIn K (.ref fNC) = true) (bNC : Binds K dNC ["crowd"] []) (gNC : mg "need_crowd" = some (.ref fNC))
    (cl : Cls K C) (nM : NoAttr K C "most") (pp : PropOf K C "people" pP fPe) (GPe : FnOk P w K mg base CX0 1 fPe dPe ["self"] (spCrowdPeople C)) (bPe : Binds K dPe ["self"] [])
    (mPa : Meth K C "pairs" fPa) (GPa : FnOk P w K mg base CX0 1 fPa dPa ["self"] (spCrowdPairs C)) (bPa : Binds K dPa ["self"] [])
    (GFw : FnOk P w K mg base (L2.CX P w) 3 fFw dFw ["crowd"] (spFew C CT)) (kFw : PySem.W.keepIn K (.ref fFw) = true) (bFw : Binds K dFw ["crowd"] []) (gFw : mg "need_few_pages" = some (.ref fFw))
    (GAT : FnOk P w K mg base CX0 1 fAT dAT ["most", "many"] spTuples) (kAT : PySem.W.keepIn K (.ref fAT) = true) (bAT : Binds K dAT ["most", "many"] []) (gAT : mg "all_tuples" = some (.ref fAT))
    (GRO : FnOk P w K mg base CX0 5 fRO dRO ["people", "marks"] spRatioOf) (kRO : PySem.W.keepIn K (.ref fRO) = true) (bRO : Binds K dRO ["people", "marks"] []) (gRO : mg "ratio_of" = some (.ref fRO))
    (GLs : FnOk P w K mg base CX0 1 fLs dLs ["one", "other"] spLess) (kLs : PySem.W.keepIn K (.ref fLs) = true) (bLs : Binds K dLs ["one", "other"] []) (gLs : mg "is_less" = some (.ref fLs))
    (MP : Mk K CP fPI) (GPI : FnOk P w K mg base CX0 6 fPI dPI ["self", "crowd", "marks"] (spPageInit C CP)) (gPg : mg "Page" = some (.ref CP)) (bPI : Binds K dPI ["self", "crowd", "marks"] [])
    (zl : mg "len" = none) (zz : mg "zip" = none) : FnOk P w K mg base (L2.CX P w) 8 fA fd ["crowd"] (spWorst C CP CT) := by
  refine F.okX scWorstLot (fun vs H Q E h => ?_) (fun cdv A outer s H vs Q E hr h => ?_)
  · obtain ⟨c, zs, m, rfl, _⟩ := h
    rfl
  · obtain ⟨c, zs, m, rfl, hC, one, z8, nd, m1, m10, qx, q⟩ := h
    have hu1 : (A.deeper (envOfC "worst_lot" (defScope sWorstLot) s.heap.objs.size fA cdv)).units + 1 < cLine := by
      have := hr.units
      omega
    refine ⟨_, pss_cons (ps_expr (pe_call GNC (hr.mono (by decide)) (by rfl) gNC kNC bNC .nil pass0 (pa_cons (pv 0) pa_nil)))
      (pss_cons (ps_expr (pe_call GFw (hr.mono (by decide)) (by rfl) gFw kFw bFw .nil (passes_call (takes_of rfl rfl rfl rfl) fun _ _ _ _ h => h) (pa_cons (pv 0) pa_nil)))
      (pss_cons (ps_par (i := 1) (j := 2) (by rfl) scWorstLot.nd rfl rfl (by decide) rfl rfl (pa_cons (pe_prop (pv 0) cl pp GPe (hr.mono (by decide)) bPe .nil pass0 rfl) (pa_cons (pe_meth0 (pv 0) cl mPa GPa (hr.mono (by decide)) bPa .nil pass0) pa_nil)) (by rfl))
      (pss_cons (ps_set (i := 3) scWorstLot.nd rfl (.inl rfl) pe_non)
      (pss_cons (ps_for PassesOwn.leaving rfl (pi_list (pe_call GAT (hr.mono (by decide)) (by rfl) gAT kAT bAT .nil pass0 (pa_cons (pe_fld (pv 0) rfl) (pa_cons (pe_callB call_len_seq (by rfl) zl PySem.boot_len (pa_cons (pv 2) pa_nil)) pa_nil)))) (pg_name (i := 4) scWorstLot.nd rfl (.inl rfl))
        (pss_cons (ps_setDcT (i := 5) (own := [("pair", 6), ("mark", 7)]) (g := gTup K 2 (gCons (gName 6) (gCons (gName 7) gNil))) (by exact hu1) (by rfl) scWorstLot.nd rfl rfl (swD_true rfl rfl rfl (by decide +kernel)) (pi_zipM (by rfl) zz (pa_cons (pv 2) (pa_cons (pv 4) pa_nil))) (blkOk_by (own := [("pair", 6), ("mark", 7)]) (N := wlN) (sc := defScope sWorstLot) (by decide +kernel))
            (fun _ _ _ _ _ => by exact pg_tup rfl (pgs_cons (pg_name (i := 6) scWorstLot.nd rfl (Or.inl rfl)) (pgs_cons (pg_name (i := 7) scWorstLot.nd rfl (Or.inl rfl)) pgs_nil))) (fun _ _ _ _ _ => pts_nil) (fun _ _ _ _ _ => pv 6) (fun _ _ _ _ _ => pv 7))
        (pss_cons (ps_set (i := 8) scWorstLot.nd rfl (.inl rfl) (pe_call GRO (hr.mono (by decide)) (by rfl) gRO kRO bRO .nil pass0 (pa_cons (pv 1) (pa_cons (pv 5) pa_nil))))
        (pss_one (ps_if (PW.pt (pw_and (pt_cmpR op_notN (pv 8) pe_non (nomark _)) (pw_and1 (PW.pt (pw_or (pt_cmpR op_isN (pv 3) pe_non (nomark _)) (pw_or1 (pt_val (pe_call GLs (hr.mono (by decide)) (by rfl) gLs kLs bLs .nil pass0 (pa_cons (pv 8) (pa_cons (pe_ix ix_tup (pv 3) pe_int (fun _ _ => rfl)) pa_nil))))))))))
          (pss_one (ps_set (i := 3) scWorstLot.nd rfl (.inl rfl) (pe_tup (pa_cons (pv 8) (pa_cons (pv 5) pa_nil))))) pss_nil)))))
      (pss_one (ps_ret (pe_ifExp (pt_cmpR op_isN (pv 3) pe_non (nomark _)) pe_non (pe_tup (pa_cons (pe_ix ix_tup (pv 3) pe_int (fun _ _ => rfl)) (pa_cons (pe_make MP GPI (hr.mono (by decide)) (by rfl) gPg bPI .nil pass0 (pa_cons (pv 0) (pa_cons (pe_ix ix_tup (pv 3) pe_int (fun _ _ => rfl)) pa_nil))) pa_nil)))))))))), ?_⟩
    obtain ⟨dc, lc, hcx, hcl⟩ := id hC
    refine ⟨_, rfl, c, zs, _, rfl, hC, ?_⟩
    refine ⟨_, rfl, c, zs, m, rfl, hC, z8, m1, m10, qx, fun few H0 s0 => ?_⟩
    have hcx := s0 _ _ hcx
    have hC := hC.same s0
    have hcl := s0 _ _ hcl
    dsimp only
    refine st_seq ?_
    refine st_par ?_
    refine st_cons ?_
    refine ⟨_, rfl, c, dc, _, rfl, hcx, c, zs, _, rfl, hC, by omega, fun H1 p1 s1 n1 h1 => ?_⟩
    refine st_cons ?_
    refine ⟨_, rfl, c, dc, _, rfl, s1 _ _ hcx, rfl, c, zs, _, rfl, hC.same s1, z8, fun H2 p2 ys s2 n2 h2 t2 => ?_⟩
    refine ⟨_, _, rfl, ?_⟩
    dsimp only [List.set]
    have S2 := s1.trans s2
    have n64 : (pairsOf zs).length ≤ 64 := pairs_len z8 z8
    have eN : ((ys.length : Nat) : Int) = (((pairsOf zs).length : Nat) : Int) := by rw [t2.1]
    refine ⟨_, rfl, c, C, dc, _, _, rfl, S2 _ _ hcx, cl, nM, rfl, _, rfl, p2, _, rfl, .inl (SqL.of h2), m, (pairsOf zs).length, ?_, m1, m10, n64, few, fun H3 p3 as s3 h3 t3 => ⟨p3, rfl, ⟨_, SqL.of h3⟩, ?_⟩⟩
    · rw [eN]
      rfl
    have S3 := S2.trans s3
    refine for_list (K := K) (a := p3) (xs := as.map V.ref) (fun i σ G => ∃ tv v4 v5 v6 v7 v8, σ = [some (.ref c), some (.ref p1), some (.ref p2), some tv, v4, v5, v6, v7, v8] ∧ Same H3 G ∧ ToldAt G zs (bestF zs ((tupsOf m (pairsOf zs).length).take i)) tv) ⟨_, _, _, _, _, _, rfl, Same.refl _, .inl ⟨rfl, rfl⟩⟩ (fun i σ G _ h => ?_) ?_ ?_
    · obtain ⟨_, _, _, _, _, _, _, s, _⟩ := h
      exact SqL.of (s _ _ h3)
    · rintro i y σ G hy ⟨tv, v4, v5, v6, v7, v8, rfl, sG, tG⟩
      rw [List.getElem?_map] at hy
      obtain ⟨a, ha, rfl⟩ := Option.map_eq_some_iff.mp hy
      obtain ⟨r, hr, har2⟩ := paired_at t3 ha
      have rin := List.mem_of_getElem? hr
      have har := sG _ _ har2
      have SG := S3.trans sG
      have h2G := sG _ _ (s3 _ _ h2)
      have t2G := fun j y q h1 h2 => t2.2 j y q h1 h2
      have rl := tups_len r rin
      refine ⟨_, rfl, _, rfl, p2, a, _, _, rfl, SqL.of h2G, SqT.of har, fun D nD => ?_⟩
      refine nest_it (walk_zipM (K := K) (a := p2) (b := a) (xs := ys) (ys := r.map V.int) rfl) (fun j G' => Same G G' ∧ G' D = some (.dT ((sheetOf zs (fOf zs r)).take j))) ⟨same_new nD, upd_same⟩ (fun j G' _ h => ⟨SqL.of (h.1 _ _ h2G), SqT.of (h.1 _ _ har)⟩) ?_ ?_
      · rintro j x G' G0 hj ⟨sG', hD⟩ ⟨T, x1, x2, rfl, nT, rfl, e1, e2⟩
        refine ⟨T, _, rfl, SqT.of upd_same, rfl, _, _, rfl, _, _, rfl, rfl, ?_⟩
        dsimp only at e1 e2
        rw [List.getElem?_map] at e2
        obtain ⟨i2, hi2, rfl⟩ := Option.map_eq_some_iff.mp e2
        have jl : j < (pairsOf zs).length := by
          have := (List.getElem?_eq_some_iff.mp e1).1
          rw [t2.1] at this
          exact this
        have hp := List.getElem?_eq_getElem jl
        generalize (pairsOf zs)[j] = p at hp
        obtain ⟨t, rfl, _, ht⟩ := t2.2 j x1 p e1 hp
        have s4 : Same G' (upd G' T (.tup [.ref t, .int i2])) := same_new nT
        have htG := s4 _ _ (sG' _ _ (sG _ _ (s3 _ _ ht)))
        have nTD : D ≠ T := ne_of_none hD nT
        have fv : fOf zs r p = .int i2 := congrArg V.int (rowAt_at (pairs_nodup nd) hp hi2)
        refine ⟨rfl, _, rfl, _, rfl, _, key2 p, t, rfl, htG, by rw [upd_ne nTD]; exact hD, ?_, fun b o e => ?_, ?_⟩
        · rw [List.length_take, sheet_len]
          exact Nat.lt_of_le_of_lt (Nat.min_le_right _ _) (small1000 (by omega))
        · rw [upd_ne (ne_of_none e nD)]
          exact s4 _ _ (sG' _ _ e)
        · rw [upd_same, ← fv, put_take (sheet_nodup nd _) (sheet_at hp)]
      rintro G4 ⟨sG4, hD⟩
      have mn : min ys.length (r.map V.int).length = (sheetOf zs (fOf zs r)).length := by rw [List.length_map, rl, t2.1, sheet_len, Nat.min_self]
      rw [mn, List.take_length] at hD
      have S4 := SG.trans sG4
      have f10 := fOf_ten m10 rin
      refine ⟨_, rfl, _, rfl, p1, D, zs, fOf zs r, rfl, (s2.trans (s3.trans (sG.trans sG4))) _ _ h1, hD, one, z8, nd, f10, fun G5 v s5 rv => ?_⟩
      have S5 := sG4.trans s5
      have SH := (sG.trans S5)
      have hD5 := s5 _ _ hD
      have tG5 := tG.same S5
      rcases rat_val rv with ⟨rfl, e⟩ | ⟨p, rr, rfl, np, e, hp⟩
      · refine ⟨_, rfl, rfl, _, rfl, ?_⟩
        rw [show (!decide (V.non = V.non)) = false by simp]
        refine iteF (iteF ⟨tv, _, _, _, _, _, rfl, SH, ?_⟩)
        rw [best_snoc hr, step_non e]
        exact tG5
      · refine ⟨_, rfl, rfl, _, rfl, ?_⟩
        rw [show (!decide (V.ref p = V.non)) = true by simp]
        refine iteT ⟨_, rfl, rfl, _, rfl, ?_⟩
        have fresh : ∀ {t : Addr} {G6 : Hp}, G6 = upd G5 t (.tup [.ref p, .ref D]) → G5 t = none → bestF zs ((tupsOf m (pairsOf zs).length).take (i + 1)) = some (r, rr) → Same H3 G6 ∧ ToldAt G6 zs (bestF zs ((tupsOf m (pairsOf zs).length).take (i + 1))) (.ref t) := fun {t G6} e6 nt eb => by
          have s6 : Same G5 G6 := e6 ▸ same_new nt
          exact ⟨SH.trans s6, .inr ⟨r, rr, t, p, D, eb, rfl, by rw [e6, upd_same], s6 _ _ hp, s6 _ _ hD5⟩⟩
        have made : tAsg (tTup (tCons (tVar 8) (tCons (tVar 5) tNil))) (gName 3) = tAsg (tTup (tCons (tVar 8) (tCons (tVar 5) tNil))) (gName 3) := rfl
        rcases id tG5 with ⟨e0, rfl⟩ | ⟨row, r0, pt, x, d, e0, rfl, ht, hx, hd⟩
        · rw [show decide (V.non = V.non) = true by simp]
          refine iteT (iteT ⟨_, rfl, _, rfl, (by show 2 ≤ sizeLine; decide), fun t nt => ?_⟩)
          obtain ⟨f1, f2⟩ := fresh rfl nt (by rw [best_snoc hr, e0, step_new e])
          exact ⟨_, _, _, _, _, _, rfl, f1, f2⟩
        · rw [show decide (V.ref pt = V.non) = false by simp]
          obtain ⟨b1, b2⟩ := bestF_ok e0
          have b1' := List.mem_of_mem_take b1
          refine iteF ⟨_, rfl, _, rfl, pt, _, 0, _, rfl, rfl, SqT.of ht, rfl, p, x, rr, r0, rfl, hp, hx, ratio_bits f10 z8 e, ratio_bits (fOf_ten m10 b1') z8 b2, _, rfl, ?_⟩
          have eb := best_snoc (zs := zs) hr
          rw [e0, step_old e] at eb
          cases el : lessB rr r0 with
          | true =>
            rw [if_pos el] at eb
            refine iteT ⟨_, rfl, _, rfl, (by show 2 ≤ sizeLine; decide), fun t nt => ?_⟩
            obtain ⟨f1, f2⟩ := fresh rfl nt eb
            exact ⟨_, _, _, _, _, _, rfl, f1, f2⟩
          | false =>
            rw [if_neg (by rw [el]; exact Bool.false_ne_true), ← e0] at eb
            refine iteF ⟨_, _, _, _, _, _, rfl, SH, ?_⟩
            rw [eb]
            exact tG5
    · rintro σ G ⟨tv, v4, v5, v6, v7, v8, rfl, sG, tG⟩
      rw [List.length_map, ← t3.length, List.take_length] at tG
      have SG := S3.trans sG
      refine ⟨_, rfl, rfl, _, rfl, ?_⟩
      rcases id tG with ⟨e0, rfl⟩ | ⟨row, r0, pt, x, d, e0, rfl, ht, hx, hd⟩
      · rw [show decide (V.non = V.non) = true by simp]
        exact iteT (q few _ _ (s0.trans SG) (.inl ⟨e0, rfl⟩))
      · rw [show decide (V.ref pt = V.non) = false by simp]
        obtain ⟨b1, b2⟩ := bestF_ok e0
        refine iteF ⟨_, rfl, pt, _, 0, _, rfl, rfl, SqT.of ht, rfl, ?_⟩
        refine st_cons ?_
        refine rd_page z8 nd (g := fOf zs row) (kvs := sheetOf zs (fOf zs row)) sheet_len (sheet_marks (fOf_ok b1)) (fun p hp => valV_sheet hp) (fun Q1 k => ⟨_, rfl, _, rfl, pt, _, 1, _, rfl, rfl, SqT.of ht, rfl, k _ _ _ (Same.refl _) (hC.same SG) hd⟩) fun H9 y s9 hy9 => ?_
        refine ⟨(by show 2 ≤ sizeLine; decide), fun t nt => ?_⟩
        have s10 : Same H9 (upd H9 t (.tup [.ref x, .ref y])) := same_new nt
        exact q few _ _ (s0.trans (SG.trans (s9.trans s10))) (.inr ⟨row, r0, t, x, y, e0, rfl, upd_same, s10 _ _ (s9 _ _ hx), hy9.of.same s10⟩)
end
end K45

set_option Elab.async false
set_option linter.all false
set_option maxRecDepth 100000
set_option maxHeartbeats 4000000
namespace K45
open PySem PySem.Spec PyProof.Rows L2
abbrev arN : List Str := ["_law_most", "_law_many_here", "_law_found", "_law_step", "_law_longer", "_law_row", "_law_mark"]
/-- the pages of a game, by all rows -/
def SheetsAt (H : Hp) (zs : List Str) (rows : List (List Int)) (as : List Addr) : Prop := Paired (fun r a => H a = some (.dT (sheetOf zs (fOf zs r)))) rows as
theorem SheetsAt.keep {H G : Hp} {zs : List Str} : ∀ {rows : List (List Int)} {as : List Addr}, SheetsAt H zs rows as → (∀ a ∈ as, ∀ o, H a = some o → G a = some o) → SheetsAt G zs rows as
  | _, _, .nil, _ => .nil
  | _, _, .cons h t, k => .cons (k _ (List.mem_cons_self ..) _ h) (SheetsAt.keep t fun a ha => k a (List.mem_cons_of_mem _ ha))
def spAllPages : Sp := fun vs H Q _ => ∃ (gm l : Addr) (zs : List Str) (m : Nat), vs = [.ref gm] ∧ H gm = some (.dK (planK l (m : Int))) ∧ H l = some (.lst (zs.map V.str)) ∧ zs.length ≤ 8 ∧ zs.Nodup ∧ 1 ≤ m ∧ m ≤ 10 ∧ (m + 1) ^ (pairsOf zs).length ≤ 4096 ∧
  ∀ H' p as, Same H H' → H' p = some (.lst (as.map V.ref)) → SheetsAt H' zs (tupsOf m (pairsOf zs).length) as → Q (.ref p) H'
def spMany (C : Addr) : Sp := fun vs H Q _ => ∃ (c : Addr) (zs : List Str) (m : Nat), vs = [.ref c] ∧ CrowdOf H C c zs (m : Int) ∧ 1 ≤ zs.length ∧ zs.length ≤ 8 ∧ zs.Nodup ∧ 1 ≤ m ∧ m ≤ 10 ∧ 4096 < (m + 1) ^ (pairsOf zs).length ∧ ∀ H', Same H H' → Q (.int 4096) H'
section
variable {P : Program} {w : World} {K : PySem.W.Frag} {mg : Str → Option Value} {base : Heap} {C CP CT : Addr}
theorem ok_allRows {fA : Addr} {fd : FuncData} (F : Fun K "_law_all_rows" "_law_all_rows" sAllRows fA fd) (zr : mg "range" = none) : FnOk P w K mg base CX0 1 fA fd ["_law_most", "_law_many_here"] spTuples := by
  refine F.ok scAllRows (fun vs H Q E h => ?_) (fun cdv A outer s H vs Q E hr h => ?_)
  · obtain ⟨m, n, rfl, _⟩ := h
    rfl
  · obtain ⟨m, n, rfl, m1, m10, n64, hmn, q⟩ := h
    refine ⟨_, pss_cons (ps_set (i := 2) scAllRows.nd rfl (.inl rfl) (pe_lst (pa_cons (pe_tup pa_nil) pa_nil)))
      (pss_cons (ps_for PassesOwn.never rfl (pi_range1 (by rfl) zr (pa_cons (pv 1) pa_nil)) (pg_name (i := 3) scAllRows.nd rfl (.inl rfl))
        (pss_cons (ps_set (i := 4) scAllRows.nd rfl (.inl rfl) (pe_lst pa_nil))
        (pss_cons (ps_for PassesOwn.never rfl (pi_list (pv 2)) (pg_name (i := 5) scAllRows.nd rfl (.inr rfl))
          (pss_one (ps_set (i := 4) scAllRows.nd rfl (.inl rfl) (pe_op op_cat (pv 4) (pe_lc (own := [("_law_mark", 6)]) (g := gName 6) (by rfl) scAllRows.nd (pi_range1 (by rfl) zr (pa_cons (pe_op op_add (pv 0) pe_int) pa_nil)) (blkOk_by (own := [("_law_mark", 6)]) (N := arN) (sc := defScope sAllRows) (by decide +kernel))
            (fun _ _ _ _ _ => pg_name (i := 6) scAllRows.nd rfl (Or.inl rfl)) (fun _ _ _ _ _ => pts_nil) (fun _ _ _ _ _ => by exact pe_op (r := rCatA K) op_catA (pv 5) (pe_tup (pa_cons (pv 6) pa_nil))))))))
        (pss_one (ps_set (i := 2) scAllRows.nd rfl (.inl rfl) (pv 4))))))
      (pss_one (ps_ret (pv 2)))), ?_⟩
    have big : ∀ {k : Nat}, k ≤ n → (m + 1) ^ k ≤ 4096 := fun {k} h => Nat.le_trans (Nat.pow_le_pow_right (by omega) h) hmn
    have line : (4096 : Nat) < sizeLine := by decide
    refine ⟨(by exact Nat.zero_le _), fun e0 ne0 => ⟨(by show 1 ≤ sizeLine; decide), fun p0 np0 => ?_⟩⟩
    have s1 : Same H (upd H e0 (.tup [])) := same_new ne0
    have s2 : Same (upd H e0 (.tup [])) (upd (upd H e0 (.tup [])) p0 (.lst [.ref e0])) := same_new np0
    have h1 := s2 _ _ (show upd H e0 (.tup []) e0 = some (.tup []) from upd_same)
    have h2 : upd (upd H e0 (.tup [])) p0 (.lst [.ref e0]) p0 = some (.lst [.ref e0]) := upd_same
    have s12 := s1.trans s2
    generalize upd (upd H e0 (.tup [])) p0 (.lst [.ref e0]) = H2 at h1 h2 s12
    refine ⟨_, rfl, _, rfl, by omega, by omega, ?_⟩
    refine for_range (lo := 0) (fun i σ G => ∃ p as v3 v4 v5 v6, σ = [some (.int (m : Int)), some (.int (n : Int)), some (.ref p), v3, v4, v5, v6] ∧ Same H G ∧ G p = some (.lst (as.map V.ref)) ∧ TupsAt G (tupsOf m i) as) ⟨p0, [e0], _, _, _, _, rfl, s12, h2, .cons h1 .nil⟩ ?_ ?_
    · rintro i σ G hi ⟨p, as, v3, v4, v5, v6, rfl, sG, hp, hrs⟩
      have hi2 : i < n := by omega
      have las : as.length = (tupsOf m i).length := hrs.length.symm
      have rl := tups_len (m := m) (k := i)
      have many := tups_many m i
      have b2 := big (k := i + 1) (by omega)
      refine ⟨Nat.zero_le _, fun p1 np1 => ?_⟩
      generalize e1 : upd G p1 _ = G1
      have t1 : Same G G1 := e1 ▸ same_new np1
      have g1 : G1 p1 = some (.lst []) := e1 ▸ upd_same
      refine ⟨_, rfl, p, rfl, ⟨_, SqL.of (t1 _ _ hp)⟩, ?_⟩
      refine for_list (K := K) (a := p) (xs := as.map V.ref) (fun j σ G' => ∃ pl bs v3 v5 v6, σ = [some (.int (m : Int)), some (.int (n : Int)), some (.ref p), v3, some (.ref pl), v5, v6] ∧ Same G1 G' ∧ G' pl = some (.lst (bs.map V.ref)) ∧ TupsAt G' (((tupsOf m i).take j).flatMap (extT m)) bs) ⟨p1, [], _, _, _, rfl, Same.refl _, g1, .nil⟩ (fun j σ G' _ h => ?_) ?_ ?_
      · obtain ⟨_, _, _, _, _, _, s, _⟩ := h
        exact SqL.of (s _ _ (t1 _ _ hp))
      · rintro j y σ G' hy ⟨pl, bs, v3', v5', v6', rfl, sG', hpl, hbs⟩
        rw [List.getElem?_map] at hy
        obtain ⟨a, ha, rfl⟩ := Option.map_eq_some_iff.mp hy
        obtain ⟨r, hr2, har0⟩ := paired_at hrs ha
        have har := sG' _ _ (t1 _ _ har0)
        have lr := rl r (List.mem_of_getElem? hr2)
        have jl : j < (tupsOf m i).length := (List.getElem?_eq_some_iff.mp hr2).1
        have lenb : bs.length + (m + 1) ≤ 4096 := by
          have e1 := hbs.length
          rw [flat_len, List.length_take] at e1
          have e2 : (m + 1) * (j + 1) ≤ (m + 1) * (tupsOf m i).length := Nat.mul_le_mul_left _ jl
          rw [many, Nat.mul_comm (m + 1) ((m + 1) ^ i), ← Nat.pow_succ, Nat.mul_add] at e2
          have b2' : (m + 1) ^ i.succ ≤ 4096 := b2
          have e3 : min j (tupsOf m i).length = j := Nat.min_eq_left (Nat.le_of_lt jl)
          rw [e3] at e1
          omega
        refine ⟨_, rfl, _, rfl, _, _, rfl, rfl, _, rfl, by omega, by omega, fun D nD => ?_⟩
        have em : (((m : Int) + 1)).toNat = m + 1 := by omega
        refine nest_it (walk_range (lo := 0) (n := (((m : Int) + 1)).toNat)) (fun k G3 => Same G' G3 ∧ ∃ cs : List Addr, G3 D = some (.lst (cs.map V.ref)) ∧ D ∉ cs ∧ TupsAt G3 ((List.range k).map fun (n : Nat) => r ++ [(n : Int)]) cs) ⟨same_new nD, [], upd_same, by simp, .nil⟩ (fun k G3 _ _ => trivial) ?_ ?_
        · rintro k y GX G3 hk ⟨s3, cs, hD3, nDc, hcs⟩ ⟨rfl, rfl⟩
          refine ⟨rfl, ?_⟩
          unfold tYes
          dsimp only
          rw [if_pos rfl]
          refine ⟨_, rfl, _, rfl, (by show 1 ≤ sizeLine; decide), fun e ne => ?_⟩
          have lenc : cs.length < 4096 := by
            have e1 := hcs.length
            rw [List.length_map, List.length_range] at e1
            omega
          have fin : ∀ (b : Addr) (G5 : Hp), Same G3 G5 → b ≠ D → G5 b = some (.tup ((r ++ [(k : Int)]).map V.int)) → ∃ acc, G5 D = some (.lst acc) ∧ acc.length < sizeLine ∧ (Same G' (upd G5 D (.lst (acc ++ [.ref b]))) ∧ ∃ cs : List Addr, upd G5 D (.lst (acc ++ [.ref b])) D = some (.lst (cs.map V.ref)) ∧ D ∉ cs ∧ TupsAt (upd G5 D (.lst (acc ++ [.ref b]))) ((List.range (k + 1)).map fun (n : Nat) => r ++ [(n : Int)]) cs) := fun b G5 s5 nb hb => by
            refine ⟨_, s5 _ _ hD3, by rw [List.length_map]; omega, fun c o ec => ?_, cs ++ [b], ?_, ?_, ?_⟩
            · rw [upd_ne (ne_of_none ec nD)]
              exact s5 _ _ (s3 _ _ ec)
            · rw [upd_same, List.map_append]
              rfl
            · rw [List.mem_append]
              rintro (z | z)
              · exact nDc z
              · exact nb (List.mem_singleton.mp z).symm
            · rw [ext_take]
              refine paired_app (keep_tups hcs fun b' hb' o e' => ?_) (.cons ?_ .nil)
              · rw [upd_ne (fun (z : b' = D) => nDc (z ▸ hb'))]
                exact s5 _ _ e'
              · rw [upd_ne nb]
                exact hb
          have s4 : Same G3 (upd G3 e (.tup [.int (0 + (k : Int))])) := same_new ne
          have neD : e ≠ D := (ne_of_none hD3 ne).symm
          have har3 := s4 _ _ (s3 _ _ har)
          have ek : (0 : Int) + (k : Int) = (k : Int) := Int.zero_add _
          refine ⟨a, e, r.map V.int, [.int (0 + (k : Int))], rfl, rfl, SqT.of har3, SqT.of upd_same, ?_, fun z => ?_, fun _ z => (by cases z), fun nz _ b nb => ?_⟩
          · rw [List.length_map, lr]
            show i + 1 ≤ sizeLine
            omega
          · refine fin e _ s4 neD ?_
            rw [upd_same, List.map_append, z, ek]
            rfl
          · refine fin b _ (s4.trans (same_new nb)) (ne_of_none (s4 _ _ hD3) nb).symm ?_
            rw [upd_same, List.map_append, ek]
            rfl
        · rintro G3 ⟨s3, cs, hD3, nDc, hcs⟩
          rw [em] at hcs
          have lc := hcs.length
          rw [List.length_map, List.length_range] at lc
          refine ⟨pl, D, bs.map V.ref, cs.map V.ref, rfl, rfl, s3 _ _ hpl, hD3, ?_, fun p2 np2 => ?_⟩
          · rw [List.length_map, List.length_map]
            omega
          · have s4 : Same G3 (upd G3 p2 (.lst (bs.map V.ref ++ cs.map V.ref))) := same_new np2
            refine ⟨p2, bs ++ cs, _, _, _, rfl, sG'.trans (s3.trans s4), ?_, ?_⟩
            · rw [upd_same, List.map_append]
            · rw [flat_take hr2]
              exact paired_app (keep_tups hbs fun b _ o e => s4 _ _ (s3 _ _ e)) (keep_tups hcs fun b _ o e => s4 _ _ e)
      · rintro σ G' ⟨pl, bs, v3', v5', v6', rfl, sG', hpl, hbs⟩
        rw [List.length_map, las, List.take_length] at hbs
        exact ⟨_, rfl, pl, bs, _, _, _, _, rfl, sG.trans (t1.trans sG'), hpl, hbs⟩
    · rintro σ G ⟨p, as, v3, v4, v5, v6, rfl, sG, hp, hrs⟩
      rw [Int.toNat_natCast] at hrs
      exact ⟨_, rfl, q G p as sG hp hrs⟩
theorem paired_by {α β : Type} {R : α → β → Prop} : ∀ {xs : List α} {ys : List β}, xs.length = ys.length → (∀ (i : Nat) (x : α) (y : β), xs[i]? = some x → ys[i]? = some y → R x y) → Paired R xs ys
  | [], [], _, _ => .nil
  | x :: xs, y :: ys, l, h => .cons (h 0 x y rfl rfl) (paired_by (Nat.succ.inj l) fun i a b h1 h2 => h (i + 1) a b h1 h2)
  | [], _ :: _, l, _ => by cases l
  | _ :: _, [], l, _ => by cases l
theorem pairs_sheet {H G : Hp} {zs : List Str} {r : List Int} {ys : List V} {ts : List Addr} (nd : zs.Nodup) (tp : Tps H ys (pairsOf zs)) (rl : r.length = (pairsOf zs).length) (S : Same H G) (h : PairsL G ts (ys.zip (r.map V.int))) : Paired (IsPairT G) ts (sheetOf zs (fOf zs r)) := by
  have ln := Paired.length h
  rw [List.length_zip, List.length_map, rl, tp.1, Nat.min_self] at ln
  refine paired_by (by rw [ln, sheet_len]) fun i t kv h1 h2 => ?_
  have il : i < (pairsOf zs).length := by
    have := (List.getElem?_eq_some_iff.mp h1).1
    omega
  have hp := List.getElem?_eq_getElem il
  generalize (pairsOf zs)[i] = p at hp
  have hr := List.getElem?_eq_getElem (l := r) (i := i) (by omega)
  generalize r[i]'(by omega) = k at hr
  have hy := List.getElem?_eq_getElem (l := ys) (i := i) (by rw [tp.1]; exact il)
  generalize ys[i]'(by rw [tp.1]; exact il) = y at hy
  obtain ⟨u, rfl, hu⟩ := tp.2 i y p hy hp
  rw [sheet_at hp] at h2
  cases h2
  have zp : (ys.zip (r.map V.int))[i]? = some (V.ref u, V.int k) := List.getElem?_zip_eq_some.mpr ⟨hy, by rw [List.getElem?_map, hr]; rfl⟩
  obtain ⟨t2, e2, ht⟩ := paired_at h zp
  rw [h1] at e2
  cases e2
  have fv : fOf zs r p = .int k := congrArg V.int (rowAt_at (pairs_nodup nd) hp hr)
  refine ⟨u, ?_, S _ _ hu⟩
  show G t = some (.tup [.ref u, fOf zs r p])
  rw [fv]
  exact ht
theorem ok_allPages {fA fLp fR : Addr} {fd dLp dR : FuncData} (F : Fun K "_law_all_pages" "_law_all_pages" sAllPages fA fd)
    (GLp : FnOk P w K mg base CX0 1 fLp dLp ["_law_people"] (spLawPairs K)) (gLp : mg "_law_pairs" = some (.ref fLp)) (kLp : PySem.W.keepIn K (.ref fLp) = true) (bLp : Binds K dLp ["_law_people"] [])
    (GR : FnOk P w K mg base CX0 1 fR dR ["_law_most", "_law_many_here"] spTuples) (kR : PySem.W.keepIn K (.ref fR) = true) (bR : Binds K dR ["_law_most", "_law_many_here"] []) (gR : mg "_law_all_rows" = some (.ref fR))
    (zd : mg "dict" = none) (zt : mg "list" = none) (zz : mg "zip" = none) (zl : mg "len" = none) : FnOk P w K mg base CX0 2 fA fd ["_law_game"] spAllPages := by
  refine F.ok scAllPages (fun vs H Q E h => ?_) (fun cdv A outer s H vs Q E hr h => ?_)
  · obtain ⟨gm, l, zs, m, rfl, _⟩ := h
    rfl
  · obtain ⟨gm, l, zs, m, rfl, hgm, hl, z8, nd, m1, m10, few, q⟩ := h
    have hu2 : (A.deeper (envOfC "_law_all_pages" (defScope sAllPages) s.heap.objs.size fA cdv)).units + 2 < cLine := by
      have := hr.units
      omega
    have hu1 : (A.deeper (envOfC "_law_all_pages" (defScope sAllPages) s.heap.objs.size fA cdv)).units + 1 < cLine := by omega
    have n64 : (pairsOf zs).length ≤ 64 := pairs_len z8 z8
    refine ⟨_, pss_cons (ps_set (i := 1) scAllPages.nd rfl (.inr rfl) (pe_call GLp hr (by rfl) gLp kLp bLp .nil pass0 (pa_cons (pe_dget (by exact hu1) (pv 0) pe_str (fun _ _ => rfl)) pa_nil)))
      (pss_one (ps_ret (pe_lc (own := [("_law_row", 2)]) (g := gName 2) (by rfl) scAllPages.nd (pi_list (pe_call GR hr (by rfl) gR kR bR .nil pass0 (pa_cons (pe_dget (by exact hu1) (pv 0) pe_str (fun _ _ => rfl)) (pa_cons (pe_callB call_len_seq (by rfl) zl PySem.boot_len (pa_cons (pv 1) pa_nil)) pa_nil)))) (blkOk_by (own := [("_law_row", 2)]) (N := ["_law_game", "_law_pairs_here", "_law_row"]) (sc := defScope sAllPages) (by decide +kernel))
        (fun _ _ _ _ _ => pg_name (i := 2) scAllPages.nd rfl (Or.inl rfl)) (fun _ _ _ _ _ => pts_nil) (fun _ _ _ _ _ => by exact pe_callTy (call_dictT rfl (by exact hu2)) (by rfl) zd (by decide +kernel) (pa_cons (pe_listZip (by rfl) (by rfl) zt (by rfl) zz (pa_cons (pv 1) (pa_cons (pv 2) pa_nil))) pa_nil))))), ?_⟩
    refine ⟨_, rfl, gm, _, rfl, get_people hgm, l, zs, rfl, hl, z8, fun H1 p1 ys s1 n1 h1 t1 => ?_⟩
    have eN : ((ys.length : Nat) : Int) = (((pairsOf zs).length : Nat) : Int) := by rw [t1.1]
    have y64 : ys.length < sizeLine := small1000 (by rw [t1.1]; omega)
    refine ⟨_, rfl, gm, _, rfl, get_most (s1 _ _ hgm), _, rfl, p1, _, rfl, .inl (SqL.of h1), m, (pairsOf zs).length, ?_, m1, m10, n64, few, fun H2 p2 as s2 h2 t2 => ⟨p2, rfl, ⟨_, SqL.of h2⟩, fun D nD => ?_⟩⟩
    · rw [eN]
      rfl
    have las : as.length = (tupsOf m (pairsOf zs).length).length := t2.length.symm
    have lal : as.length ≤ 4096 := by rw [las, tups_many]; exact few
    have h1' := s2 _ _ h1
    refine nest_it (walk_list (K := K) (a := p2) (xs := as.map V.ref)) (fun j G => Same H2 G ∧ ∃ ds : List Addr, G D = some (.lst (ds.map V.ref)) ∧ D ∉ ds ∧ SheetsAt G zs ((tupsOf m (pairsOf zs).length).take j) ds) ⟨same_new nD, [], upd_same, by simp, .nil⟩ (fun j G _ h => SqL.of (h.1 _ _ h2)) ?_ ?_
    · rintro j y G0 G hj ⟨sG, ds, hD, nDd, hds⟩ ⟨rfl, hy⟩
      rw [List.getElem?_map] at hy
      obtain ⟨a, ha, rfl⟩ := Option.map_eq_some_iff.mp hy
      obtain ⟨r, hr2, har⟩ := paired_at t2 ha
      have rl := tups_len r (List.mem_of_getElem? hr2)
      refine ⟨rfl, ?_⟩
      unfold tYes
      dsimp only
      rw [if_pos rfl]
      refine ⟨_, rfl, _, rfl, p1, a, ys, r.map V.int, rfl, sG _ _ h1', sG _ _ har, y64, fun G5 q5 ts s5 n5 h5 ht => ?_⟩
      refine ⟨q5, ts, sheetOf zs (fOf zs r), rfl, h5, pairs_sheet nd t1 rl (s2.trans (sG.trans s5)) ht, sheet_nodup nd _, fun p6 n6 => ?_⟩
      have hD5 := s5 _ _ hD
      have s6 : Same G5 (upd G5 p6 (.dT (sheetOf zs (fOf zs r)))) := same_new n6
      have n6D : p6 ≠ D := (ne_of_none hD5 n6).symm
      refine ⟨_, s6 _ _ hD5, ?_, fun c o e => ?_, ds ++ [p6], ?_, ?_, ?_⟩
      · have e1 := hds.length
        rw [List.length_take] at e1
        rw [List.length_map]
        have : (4096 : Nat) < sizeLine := by decide
        rw [List.length_map] at hj
        omega
      · rw [upd_ne (ne_of_none e nD)]
        exact s6 _ _ (s5 _ _ (sG _ _ e))
      · rw [upd_same, List.map_append]
        rfl
      · rw [List.mem_append]
        rintro (z | z)
        · exact nDd z
        · exact n6D (List.mem_singleton.mp z).symm
      · rw [List.take_add_one, hr2]
        refine paired_app (SheetsAt.keep hds fun b hb o e => ?_) (.cons ?_ .nil)
        · rw [upd_ne (fun (z : b = D) => nDd (z ▸ hb))]
          exact s6 _ _ (s5 _ _ e)
        · rw [upd_ne n6D]
          exact upd_same
    · rintro G ⟨sG, ds, hD, nDd, hds⟩
      rw [List.length_map, las, List.take_length] at hds
      exact q G D ds (s1.trans (s2.trans sG)) hD hds
theorem ok_many {fA fW : Addr} {fd dW : FuncData} (F : Fun K "_law_many" "_law_many" sMany fA fd)
    (GW : FnOk P w K mg base (L2.CX P w) 8 fW dW ["crowd"] (spWorst C CP CT)) (kW : PySem.W.keepIn K (.ref fW) = true) (bW : Binds K dW ["crowd"] []) (gW : mg "worst_lot" = some (.ref fW))
    (gT : mg "TooMany" = some (.ref CT)) (xf : XfC K CT) (no : PySem.W.findIn K (.ref CT) "most" = some none) (exm : PySem.W.exmOne K (.ref CT) (.ref CT) = some true) : FnOk P w K mg base CX0 9 fA fd ["_law_crowd"] (spMany C) := by
  refine F.ok scMany (fun vs H Q E h => ?_) (fun cdv A outer s H vs Q E hr h => ?_)
  · obtain ⟨c, zs, m, rfl, _⟩ := h
    rfl
  · obtain ⟨c, zs, m, rfl, hC, one, z8, nd, m1, m10, big, q⟩ := h
    refine ⟨_, pss_cons (ps_try_as (i := 1) (c := .ref CT) (tb := fun W => tDrop (tCallS (spWorst C CP CT) (WE W) (tCons (tVar 0) tNil)))
        (ts := fun a cls d => tRet (tXf a cls d CT "most" (tVar 1))) (Wout := fun _ _ _ _ => False) rfl rfl scMany.nd rfl rfl ⟨rfl, by decide, Or.inl gT⟩ takes0
        (fun W pn xe tk _ => pss_one (ps_expr (by exact pe_callS GW hr rfl gW kW bW (fun σ => passAt tk σ) (by exact (pa_cons (pv 0) pa_nil)))))
        (fun a oe cls d pn hz hf => pss_one (ps_ret (by exact pe_xf xf no hz hf (pv 1)))))
      (pss_one (ps_ret pe_non)), ?_⟩
    refine ⟨_, rfl, c, zs, m, rfl, hC, one, z8, nd, m1, m10, fun _ H' d hR => ?_, fun few => absurd few (by omega)⟩
    obtain ⟨r1, r2, r3⟩ := hR
    refine ⟨true, exm, fun _ a na => ?_, fun e => Bool.noConfusion e⟩
    exact ⟨_, rfl, rfl, rfl, d, _, _, rfl, r3, rfl, q _ r1⟩
end
end K45

set_option Elab.async false
set_option linter.all false
set_option maxRecDepth 100000
set_option maxHeartbeats 4000000
namespace K45
open PySem PySem.Spec PyProof.Rows L2
/-! what the greatest of three is left: a quarter at the least -/
def other (f : Str × Str → V) (zs S : List Str) (b : Str) : Int := if b ∈ S then sumOf f (restOf zs S) b else sumOf f (oneOf zs S) b
def mI (f : Str × Str → V) (a b : Str) : Int := match f (a, b) with | .int i => i | _ => 0
theorem sumOf_eq {f : Str × Str → V} {ks : List Str} {b : Str} : sumOf f ks b = (ks.map fun a => mI f a b).sum := rfl
theorem mI_pos {f : Str × Str → V} {zs : List Str} (hf : Marks10 f zs) {a b : Str} (ha : a ∈ zs) (hb : b ∈ zs) (n : a ≠ b) : 0 ≤ mI f a b := by
  obtain ⟨i, e, h0, _⟩ := hf _ (mem_pairsOf ha hb n)
  unfold mI
  rw [e]
  exact h0
theorem filter_sum {g : Str → Int} {p q : Str → Bool} : ∀ {l : List Str}, (∀ a ∈ l, p a = true → q a = true) → (∀ a ∈ l, q a = true → 0 ≤ g a) → ((l.filter p).map g).sum ≤ ((l.filter q).map g).sum
  | [], _, _ => Int.le_refl _
  | a :: l, h, k => by
    have ih := filter_sum (g := g) (p := p) (q := q) (l := l) (fun b hb => h b (List.mem_cons_of_mem _ hb)) fun b hb => k b (List.mem_cons_of_mem _ hb)
    have h1 := h a (List.mem_cons_self ..)
    have k1 := k a (List.mem_cons_self ..)
    cases ep : p a with
    | true =>
      rw [List.filter_cons_of_pos ep, List.filter_cons_of_pos (h1 ep), List.map_cons, List.map_cons, List.sum_cons, List.sum_cons]
      omega
    | false =>
      rw [List.filter_cons_of_neg (by rw [ep]; decide)]
      cases eq : q a with
      | true =>
        rw [List.filter_cons_of_pos eq, List.map_cons, List.sum_cons]
        have := k1 eq
        omega
      | false =>
        rw [List.filter_cons_of_neg (by rw [eq]; decide)]
        exact ih
theorem has_max {g : Str → Int} : ∀ {l : List Str}, l ≠ [] → ∃ w ∈ l, ∀ c ∈ l, g c ≤ g w
  | [], h => absurd rfl h
  | [a], _ => ⟨a, List.mem_cons_self .., fun c hc => by rw [List.mem_singleton.mp hc]; exact Int.le_refl _⟩
  | a :: b :: l, _ => by
    obtain ⟨w, hw, h⟩ := has_max (g := g) (l := b :: l) (by simp)
    by_cases c : g a ≤ g w
    · refine ⟨w, List.mem_cons_of_mem _ hw, fun d hd => ?_⟩
      rcases List.mem_cons.mp hd with e | e
      · rw [e]; exact c
      · exact h d e
    · refine ⟨a, List.mem_cons_self .., fun d hd => ?_⟩
      rcases List.mem_cons.mp hd with e | e
      · rw [e]; exact Int.le_refl _
      · have := h d e
        omega
theorem best_there {f : Str × Str → V} {ms ks : List Str} (h : ms ≠ []) : ∃ w ∈ bestOf f ms ks, w ∈ ms ∧ ∀ c ∈ ms, sumOf f ks c ≤ sumOf f ks w := by
  obtain ⟨w, hw, k⟩ := has_max (g := sumOf f ks) h
  have m : w ∈ ms.filter (goodB f ms ks) := List.mem_filter.mpr ⟨hw, decide_eq_true k⟩
  cases e : ms.filter (goodB f ms ks) with
  | nil =>
    rw [e] at m
    cases m
  | cons a l =>
    have ha : a ∈ ms.filter (goodB f ms ks) := by rw [e]; exact List.mem_cons_self ..
    obtain ⟨h1, h2⟩ := List.mem_filter.mp ha
    refine ⟨a, ?_, h1, of_decide_eq_true h2⟩
    unfold bestOf
    rw [e]
    exact List.mem_cons_self ..
theorem sum_one {g : Str → Int} {w : Str} : ∀ {l : List Str}, w ∈ l → (∀ a ∈ l, 0 ≤ g a) → g w ≤ (l.map g).sum
  | [], h, _ => by cases h
  | a :: l, h, k => by
    have nn : 0 ≤ (l.map g).sum := by
      have hk : ∀ a ∈ l, 0 ≤ g a := fun a ha => k a (List.mem_cons_of_mem _ ha)
      clear k h
      induction l with
      | nil => exact Int.le_refl _
      | cons b l ih =>
        rw [List.map_cons, List.sum_cons]
        have := ih fun a ha => hk a (List.mem_cons_of_mem _ ha)
        have := hk b (List.mem_cons_self ..)
        omega
    have k0 := k a (List.mem_cons_self ..)
    rw [List.map_cons, List.sum_cons]
    rcases List.mem_cons.mp h with e | e
    · rw [e]
      omega
    · have := sum_one (g := g) e fun a ha => k a (List.mem_cons_of_mem _ ha)
      omega
theorem part_le {f : Str × Str → V} {zs S : List Str} {b : Str} (hf : Marks10 f zs) (z8 : zs.length ≤ 8) (hb : b ∈ zs) : other f zs S b ≤ (zs.map fun z => (ind f zs z S : Int) * totOf f zs z).sum := by
  have key : ∀ ms ks : List Str, b ∈ ms → (∀ a ∈ ms, a ∈ zs) → (∃ p : Str → Bool, ks = zs.filter p ∧ ∀ a ∈ ms, p a = false) → (∀ w ∈ bestOf f ms ks, w ∈ winB f zs S) → sumOf f ks b ≤ (zs.map fun z => (ind f zs z S : Int) * totOf f zs z).sum := by
    rintro ms ks hm sub ⟨p, rfl, hp⟩ win
    obtain ⟨w, h1, h2, h3⟩ := best_there (f := f) (ks := zs.filter p) (show ms ≠ [] from fun e => by rw [e] at hm; cases hm)
    have hw := sub w h2
    have a1 := h3 b hm
    have a2 : sumOf f (zs.filter p) w ≤ totOf f zs w := by
      unfold totOf
      rw [sumOf_eq, sumOf_eq]
      refine filter_sum (fun a ha pa => decide_eq_true fun e => ?_) fun a ha qa => mI_pos hf ha hw (of_decide_eq_true qa)
      rw [e, hp w h2] at pa
      cases pa
    have a3 := sum_one (g := fun z => (ind f zs z S : Int) * totOf f zs z) hw fun a ha => Int.mul_nonneg (by omega) (tot_bounds hf ha z8).1
    have a4 : (ind f zs w S : Int) * totOf f zs w = totOf f zs w := by
      unfold ind
      rw [if_pos (win w h1)]
      exact Int.one_mul _
    rw [a4] at a3
    omega
  have inWin : ∀ w, w ∈ bestOf f (oneOf zs S) (restOf zs S) ++ bestOf f (restOf zs S) (oneOf zs S) → w ∈ zs → w ∈ winB f zs S := fun w h hz => List.mem_filter.mpr ⟨hz, decide_eq_true h⟩
  have inBest : ∀ {ms ks : List Str} {w : Str}, w ∈ bestOf f ms ks → w ∈ ms := fun h => (List.mem_filter.mp (List.mem_of_mem_take h)).1
  unfold other
  by_cases c : b ∈ S
  · rw [if_pos c]
    refine key (oneOf zs S) (restOf zs S) (mem_one.mpr ⟨hb, c⟩) (fun a ha => (mem_one.mp ha).1) ⟨_, rfl, fun a ha => ?_⟩ fun w hw => inWin w (List.mem_append_left _ hw) (mem_one.mp (inBest hw)).1
    rw [decide_eq_true (mem_one.mp ha).2]
    rfl
  · rw [if_neg c]
    refine key (restOf zs S) (oneOf zs S) (mem_rest.mpr ⟨hb, c⟩) (fun a ha => (mem_rest.mp ha).1) ⟨_, rfl, fun a ha => ?_⟩ fun w hw => inWin w (List.mem_append_right _ hw) (mem_rest.mp (inBest hw)).1
    exact decide_eq_false (mem_rest.mp ha).2
theorem sum_plus {α : Type} {g k : α → Int} : ∀ l : List α, (l.map fun z => g z + k z).sum = (l.map g).sum + (l.map k).sum
  | [] => rfl
  | a :: l => by
    rw [List.map_cons, List.map_cons, List.map_cons, List.sum_cons, List.sum_cons, List.sum_cons, sum_plus l]
    omega
theorem sum_zero {α : Type} : ∀ l : List α, (l.map fun _ => (0 : Int)).sum = 0
  | [] => rfl
  | a :: l => by rw [List.map_cons, List.sum_cons, sum_zero l]; rfl
theorem swap_sums {zs : List Str} {g : Str → List Str → Nat} {t : Str → Int} : ∀ L : List (List Str), (zs.map fun z => ((sumS L (g z) : Nat) : Int) * t z).sum = (L.map fun S => (zs.map fun z => (g z S : Int) * t z).sum).sum
  | [] => by
    rw [List.map_nil, List.sum_nil]
    refine Eq.trans ?_ (sum_zero zs)
    congr 1
    refine List.map_congr_left fun z _ => ?_
    rw [sumS_nil]
    exact Int.zero_mul _
  | S :: L => by
    rw [List.map_cons, List.sum_cons, ← swap_sums L, ← sum_plus]
    congr 1
    refine List.map_congr_left fun z _ => ?_
    rw [sumS_cons, Int.natCast_add, Int.add_mul]
theorem le_sums {α : Type} {g k : α → Int} : ∀ {l : List α}, (∀ a ∈ l, g a ≤ k a) → (l.map g).sum ≤ (l.map k).sum
  | [], _ => Int.le_refl _
  | a :: l, h => by
    have := le_sums fun b hb => h b (List.mem_cons_of_mem _ hb)
    have := h a (List.mem_cons_self ..)
    rw [List.map_cons, List.map_cons, List.sum_cons, List.sum_cons]
    omega
theorem top_least {f : Str × Str → V} {zs : List Str} {b : Str} (hf : Marks10 f zs) (z8 : zs.length ≤ 8) (hb : b ∈ zs) : ((subsOf zs).map fun S => other f zs S b).sum ≤ worthTop f zs := by
  have e : worthTop f zs = ((subsOf zs).map fun S => (zs.map fun z => (ind f zs z S : Int) * totOf f zs z).sum).sum := swap_sums _
  rw [e]
  exact le_sums fun S _ => part_le hf z8 hb
theorem other3 {f : Str × Str → V} {x y z b : Str} (xy : x ≠ y) (xz : x ≠ z) (yz : y ≠ z) (hb : b ∈ [x, y, z]) : ((subsOf [x, y, z]).map fun S => other f [x, y, z] S b).sum = 4 * totOf f [x, y, z] b := by
  have es : subsOf [x, y, z] = [[], [x], [y], [x, y], [z], [x, z], [y, z], [x, y, z]] := rfl
  have yx := xy.symm
  have zx := xz.symm
  have zy := yz.symm
  rw [es]
  simp only [List.mem_cons, List.not_mem_nil, or_false] at hb
  rcases hb with rfl | rfl | rfl <;>
    simp [other, restOf, oneOf, sumOf_eq, totOf, xy, xz, yz, yx, zx, zy] <;> omega
theorem low_cross {t b : Int} (hb : 0 < b) : (low2 t b).1 * b = t * (low2 t b).2 := by
  have g0 := gcd_pos (t := t) hb
  obtain ⟨c, hc⟩ := gcd_dvd_l t b
  obtain ⟨d, hd⟩ := gcd_dvd_r t b
  have e1 : (low2 t b).1 = c := Int.ediv_eq_of_eq_mul_right (by omega) hc
  have e2 : (low2 t b).2 = d := Int.ediv_eq_of_eq_mul_right (by omega) hd
  rw [e1, e2]
  generalize gcdI t b = G at hc hd g0
  rw [hc, hd]
  simp only [Int.mul_comm, Int.mul_left_comm]
theorem quarter {f : Str × Str → V} {x y z : Str} {r : Int × Int} (xy : x ≠ y) (xz : x ≠ z) (yz : y ≠ z) (hf : Marks10 f [x, y, z]) (h : ratF f [x, y, z] = some r) : ¬ r.1 * 4 < r.2 := by
  obtain ⟨g, g0, mx, rfl⟩ := ratF_inv h
  have z8 : [x, y, z].length ≤ 8 := by
    show 3 ≤ 8
    decide
  obtain ⟨⟨b, hb, eg⟩, _⟩ := id mx
  obtain ⟨gp, _⟩ := mx.bounds hf z8
  have t4 := top_least hf z8 hb
  rw [other3 xy xz yz hb, eg] at t4
  obtain ⟨u1, _⟩ := under_bits z8 hf mx g0
  have w0 := (worth_pos (f := f) z8).1
  have c1 := low_cross (t := (worthOf f [x, y, z]).1) u1
  have c2 := low_cross (t := worthTop f [x, y, z]) (b := 2 * 2 ^ [x, y, z].length) (by show (0 : Int) < 2 * 2 ^ 3; decide)
  have c2' : (worthOf f [x, y, z]).1 * 16 = worthTop f [x, y, z] * (worthOf f [x, y, z]).2 := c2
  have c1' : (ratioOf f [x, y, z] g).1 * ((worthOf f [x, y, z]).2 * g) = (worthOf f [x, y, z]).1 * (ratioOf f [x, y, z] g).2 := c1
  have r0 : 0 < (ratioOf f [x, y, z] g).2 := low_pos u1
  generalize (ratioOf f [x, y, z] g).1 = p at c1'
  generalize (ratioOf f [x, y, z] g).2 = q at c1' r0
  generalize (worthOf f [x, y, z]).1 = a at c1' c2'
  generalize (worthOf f [x, y, z]).2 = w at c1' c2' w0 u1
  generalize worthTop f [x, y, z] = T at c2' t4
  intro lt
  have g1 : 0 < g := by omega
  -- 16 p w g = T w q, and T is 4 g or more
  have e1 : (p * 4) * (4 * (w * g)) = T * w * q := by
    have : p * (w * g) * 16 = a * 16 * q := by rw [c1', Int.mul_assoc, Int.mul_assoc, Int.mul_comm q 16]
    rw [c2'] at this
    rw [← this]
    have : p * 4 * (4 * (w * g)) = p * (w * g) * 16 := by
      rw [show (16 : Int) = 4 * 4 from rfl]
      simp only [Int.mul_comm, Int.mul_left_comm, Int.mul_assoc]
    exact this
  have p0 : 0 < 4 * (w * g) := by omega
  have e2 : (p * 4) * (4 * (w * g)) < q * (4 * (w * g)) := Int.mul_lt_mul_of_pos_right lt p0
  have e3 : q * (4 * (w * g)) ≤ T * w * q := by
    have k : 4 * g * (w * q) ≤ T * (w * q) := Int.mul_le_mul_of_nonneg_right t4 (Int.le_of_lt (Int.mul_pos w0 r0))
    have k1 : q * (4 * (w * g)) = 4 * g * (w * q) := by simp only [Int.mul_comm, Int.mul_left_comm, Int.mul_assoc]
    have k2 : T * w * q = T * (w * q) := Int.mul_assoc ..
    rw [k1, k2]
    exact k
  omega
theorem some_best : bestF ["bo", "ann", "cy"] (tupsOf 3 (pairsOf ["bo", "ann", "cy"]).length) ≠ none := by
  have mx : IsMx (fOf ["bo", "ann", "cy"] [1, 1, 1, 1, 1, 1]) ["bo", "ann", "cy"] 2 := ⟨by decide +kernel, by decide +kernel⟩
  exact best_any (row := [1, 1, 1, 1, 1, 1]) (.inl ⟨mem_tups (by decide +kernel) (by decide), ratF_some mx (by decide)⟩)
end K45

set_option Elab.async false
set_option linter.all false
set_option maxRecDepth 100000
set_option maxHeartbeats 4000000
namespace K45
open PySem PySem.Spec PyProof.Rows L2
def spLaw (K : PySem.W.Frag) : Sp := fun vs H Q _ => ∃ (a : Addr) (ns : List Int), vs = [.ref a] ∧ SqL K H a (ns.map V.int) ∧ ns.length ≤ 63 ∧ ∀ H', Q (.bl true) H'
abbrev lawN : List Str := ["_law_script", "_law_k", "_law_pool", "_law_game", "_law_told", "_law_least", "_law_marks", "_law_one", "_law_page", "_law_some", "_law_crowd"]
theorem plan_put {l : Addr} {m m' : Int} : putK (planK l m) (Sum.inr "most" : Key) (.int m') = planK l m' := by
  unfold putK planK
  rw [if_pos (by simp)]
  simp [show ¬ (("people" : Str) = "most") from by decide +kernel]
theorem pairs_count {zs : List Str} (nd : zs.Nodup) : (pairsOf zs).length = zs.length * (zs.length - 1) := by
  have key : ∀ l : List Str, (∀ a ∈ l, a ∈ zs) → (l.flatMap (rowOf zs)).length = l.length * (zs.length - 1) := fun l => by
    induction l with
    | nil => exact fun _ => (Nat.zero_mul _).symm
    | cons a l ih =>
      intro h
      have e := len_filter_ne nd (h a (List.mem_cons_self ..))
      rw [List.flatMap_cons, List.length_append, ih fun b hb => h b (List.mem_cons_of_mem _ hb), List.length_cons, Nat.succ_mul]
      have e2 : (rowOf zs a).length = zs.length - 1 := by
        unfold rowOf
        rw [List.length_map]
        have e3 : (zs.filter fun b => decide (a ≠ b)) = zs.filter fun b => decide (b ≠ a) := List.filter_congr fun b _ => decide_eq_decide.mpr ne_comm
        rw [e3]
        omega
      rw [e2]
      omega
  exact key zs fun _ h => h
def LeastAt (G : Hp) (t : Option (List Int × (Int × Int))) (v : V) : Prop := (t = none ∧ v = .non) ∨ ∃ (row : List Int) (r : Int × Int) (y : Addr), t = some (row, r) ∧ v = .ref y ∧ G y = some (.tup [.int r.1, .int r.2])
theorem LeastAt.same {H G : Hp} {t : Option (List Int × (Int × Int))} {v : V} (s : Same H G) (h : LeastAt H t v) : LeastAt G t v := by
  rcases h with h | ⟨row, r, y, e, e2, h⟩
  · exact .inl h
  · exact .inr ⟨row, r, y, e, e2, s _ _ h⟩
theorem WorstV.same {H G : Hp} {C CP : Addr} {zs : List Str} {m : Nat} {v : V} (s : Same H G) (h : WorstV H C CP zs m v) : WorstV G C CP zs m v := by
  rcases h with h | ⟨row, r, t, x, y, e, e2, h1, h2, h3⟩
  · exact .inl h
  · exact .inr ⟨row, r, t, x, y, e, e2, s _ _ h1, s _ _ h2, h3.same s⟩
theorem abc_ok : ∀ z ∈ (["a", "b", "c", "d", "e"] : List Str), isW (.str z) = true ∧ PyData.strOk z = true ∧ z.length ≤ 1000 := by decide +kernel
theorem abc_items {K : PySem.W.Frag} {H : Hp} {zs : List Str} (h : ∀ z ∈ zs, z ∈ (["a", "b", "c", "d", "e"] : List Str)) : ∀ x ∈ zs.map V.str, ItemOk K H x := fun x hx => by
  obtain ⟨z, hz, rfl⟩ := List.mem_map.mp hx
  exact ⟨⟨"str", .base (.str _), by decide⟩, fun z' e => by cases e; exact (abc_ok z (h z hz)).2.2⟩
theorem two_ways {b : Bool} {T T1 T2 : Prop} (h : T) (k1 : b = true → T → T1) (k2 : b = false → T → T2) : if b = true then T1 else T2 := by
  cases b with
  | true => exact k1 rfl h
  | false => exact k2 rfl h
theorem st_call {sp : Sp} {dvs : List V} {E : XK} {t : TA} {σ : L2.St} {H : Hp} {Q : VK} (h : t σ H fun vs H1 => sp (vs ++ dvs) H1 Q E) : tCall sp dvs E t σ H Q := h
theorem st_lst {t : TA} {σ : L2.St} {H : Hp} {Q : VK} (h : t σ H fun vs H1 => vs.length ≤ sizeLine ∧ ∀ p, H1 p = none → Q (.ref p) (upd H1 p (.lst vs))) : tLst t σ H Q := h
theorem st_next {D : Ends} {σ : L2.St} {H : Hp} (h : D.nx σ H) : tNext D σ H := h
theorem shaped_ints (ns : List Int) : SeqAt.shaped (.list (ns.map .int)) = true := by
  have a : ∀ ns : List Int, PyData.canLayAll0 (ns.map .int) = true ∧ PyData.depthAll (ns.map .int) ≤ 1 := fun ns => by
    induction ns with
    | nil => exact ⟨rfl, by decide⟩
    | cons n ns ih =>
      refine ⟨?_, ?_⟩
      · show PyData.canLayAll0 (PyData.int n :: _) = true
        rw [PyData.canLayAll0, PyData.canLay0, ih.1]
        rfl
      · show PyData.depthAll (PyData.int n :: _) ≤ 1
        rw [PyData.depthAll, PyData.depth]
        have := ih.2
        omega
  have h := a ns
  unfold SeqAt.shaped
  rw [PyData.canLay0, h.1, Bool.true_and]
  refine decide_eq_true ?_
  rw [PyData.depth]
  have := h.2
  omega
theorem rot3 : Rot ["bo", "ann", "cy"] := ⟨by decide +kernel, by decide +kernel, by decide, by decide⟩
section
variable {P : Program} {w : World} {K : PySem.W.Frag} {mg : Str → Option Value} {base : Heap} {C CP CT CB : Addr}
theorem ok_law {fA fO fCo fW fAP fLr fMy fC fM pM : Addr} {fd dO dCo dW dAP dLr dMy dC dM : FuncData} (F : Fun K "law" "law" sLaw fA fd)
    (FO : Fun K "_law_opened" "_law_opened" sOpened fO dO) (bO : Binds K dO ["_law_script", "_law_k"] []) (gO : mg "_law_opened" = some (.ref fO))
    (GCo : FnOk P w K mg base CX0 2 fCo dCo ["_law_pool", "_law_many_here", "_law_most"] spCrowdOf) (kCo : PySem.W.keepIn K (.ref fCo) = true) (bCo : Binds K dCo ["_law_pool", "_law_many_here", "_law_most"] []) (gCo : mg "_law_crowd_of" = some (.ref fCo))
    (GW : FnOk P w K mg base (L2.CX P w) 8 fW dW ["crowd"] (spWorst C CP CT)) (kW : PySem.W.keepIn K (.ref fW) = true) (bW : Binds K dW ["crowd"] []) (gW : mg "worst_lot" = some (.ref fW))
    (GAP : FnOk P w K mg base CX0 2 fAP dAP ["_law_game"] spAllPages) (kAP : PySem.W.keepIn K (.ref fAP) = true) (bAP : Binds K dAP ["_law_game"] []) (gAP : mg "_law_all_pages" = some (.ref fAP))
    (GLr : FnOk P w K mg base CX0 4 fLr dLr ["_law_game", "_law_marks"] spLawRatio) (kLr : PySem.W.keepIn K (.ref fLr) = true) (bLr : Binds K dLr ["_law_game", "_law_marks"] []) (gLr : mg "_law_ratio" = some (.ref fLr))
    (GMy : FnOk P w K mg base CX0 9 fMy dMy ["_law_crowd"] (spMany C)) (kMy : PySem.W.keepIn K (.ref fMy) = true) (bMy : Binds K dMy ["_law_crowd"] []) (gMy : mg "_law_many" = some (.ref fMy))
    (GC : FnOk P w K mg base (L2.CX P w) 3 fC dC ["self", "people", "most"] (spCrowdNew K C CB)) (M : Mk K C fC) (gC : mg "Crowd" = some (.ref C)) (bC : Binds K dC ["self", "people", "most"] [])
    (clP : Cls K CP) (nCr : NoAttr K CP "crowd") (ppM : PropOf K CP "marks" pM fM) (GM : FnOk P w K mg base CX0 1 fM dM ["self"] (spPageMarks C CP)) (bM : Binds K dM ["self"] [])
    (B : Bt mg) : FnOk P w K mg base CX0 11 fA fd ["_law_script"] (spLaw K) := by
  have GO : FnOk P w K mg base CX0 1 fO dO ["_law_script", "_law_k"] (spOpened K) := ok_opened FO B
  refine F.ok scLaw (fun vs H Q E h => ?_) (fun cdv A outer s H vs Q E hr h => ?_)
  · obtain ⟨a, ns, rfl, _⟩ := h
    rfl
  · obtain ⟨a, ns, rfl, hS, hlen, q⟩ := h
    have hu66 : (A.deeper (envOfC "law" (defScope sLaw) s.heap.objs.size fA cdv)).units + 66 < cLine := by
      have := hr.un
      omega
    have hu64 : (A.deeper (envOfC "law" (defScope sLaw) s.heap.objs.size fA cdv)).units + 64 < cLine := by omega
    have hu1 : (A.deeper (envOfC "law" (defScope sLaw) s.heap.objs.size fA cdv)).units + 1 < cLine := by omega
    refine ⟨_, (pss_cons (ps_for PassesOwn.never rfl (pi_range1 (by rfl) B.range (pa_cons (pe_callB (call_max2 rfl) (by rfl) B.max (by decide +kernel) (pa_cons pe_int (pa_cons (pe_callB (call_min2 rfl) (by rfl) B.min (by decide +kernel) (pa_cons pe_int (pa_cons (pe_callB (r := rLen K) call_len_seq (by rfl) B.len PySem.boot_len (pa_cons (pv 0) pa_nil)) pa_nil))) pa_nil))) pa_nil)) (pg_name (i := 1) scLaw.nd rfl (.inl rfl))
        (pss_cons (ps_set (i := 2) scLaw.nd rfl (.inl rfl) (pe_call GO (hr.mono (by decide)) (by rfl) gO FO.kp bO .nil pass0 (pa_cons (pv 0) (pa_cons (pv 1) pa_nil))))
        (pss_cons (ps_set (i := 3) scLaw.nd rfl (.inl rfl) (pe_call GCo (hr.mono (by decide)) (by rfl) gCo kCo bCo .nil pass0 (pa_cons (pv 2) (pa_cons pe_int (pa_cons pe_int pa_nil)))))
        (pss_cons (ps_dput (by exact hu1) (pv 3) pe_str (pe_ifExp (pt_cmpR op_lt (pe_callB (r := rLen K) call_len_seq (by rfl) B.len PySem.boot_len (pa_cons (pe_dget (by exact hu1) (pv 3) pe_str (fun _ _ => rfl)) pa_nil)) pe_int (nomark _)) (pe_dget (by exact hu1) (pv 3) pe_str (fun _ _ => rfl)) pe_int) rfl)
        (pss_cons (ps_par (i := 4) (j := 5) (by rfl) scLaw.nd rfl rfl (by decide) rfl rfl (pa_cons (pe_call GW (hr.mono (by decide)) (by rfl) gW kW bW .nil (E := fun _ _ _ => False) (passes_call LamX.takes0 fun _ _ _ _ z => z) (pa_cons (pe_make M GC (hr.mono (by decide)) (by rfl) gC bC .nil (E := fun _ _ _ => False) (passes_call LamX.takes0 fun _ _ _ _ z => z) (pa_cons (pe_dget (by exact hu1) (pv 3) pe_str (fun _ _ => rfl)) (pa_cons (pe_dget (by exact hu1) (pv 3) pe_str (fun _ _ => rfl)) pa_nil))) pa_nil)) (pa_cons pe_non pa_nil)) (by rfl))
        (pss_cons (ps_for PassesOwn.never rfl (pi_list (pe_call GAP (hr.mono (by decide)) (by rfl) gAP kAP bAP .nil pass0 (pa_cons (pv 3) pa_nil))) (pg_name (i := 6) scLaw.nd rfl (.inl rfl))
          (pss_cons (ps_set (i := 7) scLaw.nd rfl (.inl rfl) (pe_call GLr (hr.mono (by decide)) (by rfl) gLr kLr bLr .nil pass0 (pa_cons (pv 3) (pa_cons (pv 6) pa_nil))))
        (pss_one (ps_if (PW.pt (pw_and (pt_cmpR op_notN (pv 7) pe_non (nomark _)) (pw_and1 (PW.pt (pw_or (pt_cmpR op_isN (pv 5) pe_non (nomark _)) (pw_or1 (pt_cmpR op_lt (pe_op op_mulW (pe_ix ix_tup (pv 7) pe_int (fun _ _ => rfl)) (pe_ix ix_tup (pv 5) pe_int (fun _ _ => rfl))) (pe_op op_mulW (pe_ix ix_tup (pv 5) pe_int (fun _ _ => rfl)) (pe_ix ix_tup (pv 7) pe_int (fun _ _ => rfl))) (nomark _)))))))) (pss_one (ps_set (i := 5) scLaw.nd rfl (.inl rfl) (pv 7))) pss_nil))))
        (pss_cons (ps_if (PW.pt (pw_or (PW.pt (pw_and (pt_cmpR op_isN (pv 5) pe_non (nomark _)) (pw_and1 (pt_cmpR op_notN (pv 4) pe_non (nomark _))))) (pw_or1 (PW.pt (pw_and (pt_cmpR op_notN (pv 5) pe_non (nomark _)) (pw_and1 (PW.pt (pw_or (pt_cmpR op_isN (pv 4) pe_non (nomark _)) (pw_or1 (pt_cmpR (op_neD (by exact hu64)) (pe_ix ix_tup (pv 4) pe_int (fun _ _ => rfl)) (pv 5) (nomark _))))))))))) (pss_one (ps_ret pe_bl)) pss_nil)
        (pss_one (ps_if (PW.pt (pw_and (pt_cmpR op_notN (pv 4) pe_non (nomark _)) (pw_and1 (PW.pt (pw_or (pt_cmpR op_ne (pe_callB (r := rLen K) call_len_seq (by rfl) B.len PySem.boot_len (pa_cons (pv 4) pa_nil)) pe_int (nomark _)) (pw_or1 (pt_cmpR (op_neD (by exact hu64)) (pe_call GLr (hr.mono (by decide)) (by rfl) gLr kLr bLr .nil pass0 (pa_cons (pv 3) (pa_cons (pe_prop (pe_ix ix_tup (pv 4) pe_int (fun _ _ => rfl)) clP ppM GM (hr.mono (by decide)) bM .nil pass0 rfl) pa_nil))) (pv 5) (nomark _)))))))) (pss_one (ps_ret pe_bl)) pss_nil)))))))))
        (pss_cons (ps_if (pt_cmpR (op_eqD (by exact hu64)) (pv 0) (pe_lst pa_nil) (nomark _)) (pss_cons (ps_set (i := 3) scLaw.nd rfl (.inl rfl) (pe_disp (pps_cons pe_str (pe_lst (pa_cons pe_str (pa_cons pe_str (pa_cons pe_str pa_nil)))) (pps_cons pe_str pe_int pps_nil)) (by rfl) (by rfl) (fun z => by cases z) (by decide)))
        (pss_cons (ps_asg (pe_call GW (hr.mono (by decide)) (by rfl) gW kW bW .nil (E := fun _ _ _ => False) (passes_call LamX.takes0 fun _ _ _ _ z => z) (pa_cons (pe_make M GC (hr.mono (by decide)) (by rfl) gC bC .nil (E := fun _ _ _ => False) (passes_call LamX.takes0 fun _ _ _ _ z => z) (pa_cons (pe_dget (by exact hu1) (pv 3) pe_str (fun _ _ => rfl)) (pa_cons pe_int pa_nil))) pa_nil)) (pg_tup rfl (pgs_cons (pg_name (i := 5) scLaw.nd rfl (.inl rfl)) (pgs_cons (pg_name (i := 8) scLaw.nd rfl (.inl rfl)) pgs_nil))))
        (pss_one (ps_if (PW.pt (pw_or (pt_cmpR (op_neD (by exact hu64)) (pe_call GLr (hr.mono (by decide)) (by rfl) gLr kLr bLr .nil pass0 (pa_cons (pv 3) (pa_cons (pe_prop (pv 8) clP ppM GM (hr.mono (by decide)) bM .nil pass0 rfl) pa_nil))) (pv 5) (nomark _)) (pw_or1 (pt_cmpR op_lt (pe_op op_mulW (pe_ix ix_tup (pv 5) pe_int (fun _ _ => rfl)) pe_int) (pe_ix ix_tup (pv 5) pe_int (fun _ _ => rfl)) (nomark _))))) (pss_one (ps_ret pe_bl)) pss_nil)))) pss_nil)
        (pss_cons (ps_set (i := 9) scLaw.nd rfl (.inl rfl) (pe_lst (pa_cons (pe_make M GC (hr.mono (by decide)) (by rfl) gC bC .nil (E := fun _ _ _ => False) (passes_call LamX.takes0 fun _ _ _ _ z => z) (pa_cons (pe_lst (pa_cons pe_str (pa_cons pe_str (pa_cons pe_str pa_nil)))) (pa_cons pe_int pa_nil))) (pa_cons (pe_make M GC (hr.mono (by decide)) (by rfl) gC bC .nil (E := fun _ _ _ => False) (passes_call LamX.takes0 fun _ _ _ _ z => z) (pa_cons (pe_lst (pa_cons pe_str (pa_cons pe_str (pa_cons pe_str (pa_cons pe_str pa_nil))))) (pa_cons pe_int pa_nil))) (pa_cons (pe_make M GC (hr.mono (by decide)) (by rfl) gC bC .nil (E := fun _ _ _ => False) (passes_call LamX.takes0 fun _ _ _ _ z => z) (pa_cons (pe_lst (pa_cons pe_str (pa_cons pe_str (pa_cons pe_str (pa_cons pe_str (pa_cons pe_str pa_nil)))))) (pa_cons pe_int pa_nil))) pa_nil)))))
        (pss_one (ps_ret (pe_cmpR (op_eqD (by exact hu64)) (pe_lc (own := [("_law_crowd", 10)]) (g := gName 10) (by rfl) scLaw.nd (pi_list (pv 9)) (blkOk_by (own := [("_law_crowd", 10)]) (N := lawN) (sc := defScope sLaw) (by decide +kernel)) (fun _ _ _ _ _ => pg_name (i := 10) scLaw.nd rfl (Or.inl rfl)) (fun _ _ _ _ _ => pts_nil) (fun _ _ _ _ _ => by exact (pe_call GMy (Room.mono (by exact hr) (by decide)) (by rfl) gMy kMy bMy .nil pass0 (pa_cons (pv 10) pa_nil)))) (pe_lst (pa_cons pe_int (pa_cons pe_int (pa_cons pe_int pa_nil)))) (nomark _))))))), ?_⟩
    refine ⟨_, rfl, a, _, rfl, .inl hS, _, _, rfl, _, _, rfl, _, rfl, (by split <;> (try split) <;> omega), (by split <;> (try split) <;> omega), ?_⟩
    refine for_range (lo := 0) (fun i σ H' => ∃ v1 v2 v3 v4 v5 v6 v7 v8 v9 v10, σ = [some (.ref a), v1, v2, v3, v4, v5, v6, v7, v8, v9, v10] ∧ Same H H') ⟨_, _, _, _, _, _, _, _, _, _, rfl, Same.refl _⟩ ?_ ?_
    · rintro i σ H2 hi ⟨v1, v2, v3, v4, v5, v6, v7, v8, v9, v10, rfl, sH2⟩
      have hi4 : i ≤ 62 := by
        have h0 : ((if (if ((ns.map V.int).length : Int) < 4 then ((ns.map V.int).length : Int) else 4) > 1 then (if ((ns.map V.int).length : Int) < 4 then ((ns.map V.int).length : Int) else 4) else 1 : Int)).toNat ≤ 5 := by
          split <;> (try split) <;> omega
        omega
      refine ⟨_, rfl, _, rfl, a, ns, i, by simp, extN_sq (LamX.ExtN.of sH2) hS, hi4, fun H3 po s3 npo hP3 => ?_⟩
      refine ⟨_, rfl, po, 3, 4, rfl, by decide, by decide, by decide, by decide, hP3, fun H4 gm l zs mI P4 b4 ngm nl hgm0 hl0 rot len3 m1 m4 => ?_⟩
      obtain ⟨m0, rfl⟩ : ∃ m0 : Nat, mI = (m0 : Int) := ⟨mI.toNat, by omega⟩
      obtain ⟨m, m1', m4', few, hmv⟩ : ∃ m : Nat, 1 ≤ m ∧ m ≤ 4 ∧ (m + 1) ^ (pairsOf zs).length ≤ 4096 ∧ (if zs.length < 3 then m = m0 else m = 1) := by
        have pc := pairs_count rot.nd
        have o := rot.one
        by_cases c : zs.length < 3
        · refine ⟨m0, by omega, by omega, ?_, by rw [if_pos c]⟩
          have : (pairsOf zs).length ≤ 2 := by
            rw [pc]
            have : zs.length = 1 ∨ zs.length = 2 := by omega
            rcases this with e | e <;> rw [e] <;> decide
          have h1 : (m0 + 1) ^ (pairsOf zs).length ≤ (m0 + 1) ^ 2 := Nat.pow_le_pow_right (by omega) this
          have h2 : (m0 + 1) ^ 2 ≤ 5 ^ 2 := Nat.pow_le_pow_left (by omega) 2
          omega
        · refine ⟨1, by omega, by omega, ?_, by rw [if_neg c]⟩
          have e : zs.length = 3 := by omega
          rw [pc, e]
          decide
      refine ⟨_, rfl, gm, _, rfl, get_people hgm0, l, _, rfl, .inl (SqL.of hl0), _, _, rfl, rfl, _, rfl, ?_⟩
      refine' two_ways ?h ?k1 ?k2
      case k1 =>
        intro e
        have c : zs.length < 3 := by
          have := of_decide_eq_true e
          rw [List.length_map] at this
          omega
        rw [if_pos c] at hmv
        intro k
        refine ⟨_, rfl, gm, _, rfl, get_most hgm0, _, rfl, gm, _, rfl, DPut.k hgm0 (k := (Sum.inr "most" : Key)) (by show 2 < sizeLine; decide), ?_⟩
        rw [plan_put, ← hmv]
        exact k
      case k2 =>
        intro e
        have c : ¬ zs.length < 3 := fun z => by
          have := of_decide_eq_false e
          rw [List.length_map] at this
          omega
        rw [if_neg c] at hmv
        intro k
        refine ⟨_, rfl, gm, _, rfl, DPut.k hgm0 (k := (Sum.inr "most" : Key)) (by show 2 < sizeLine; decide), ?_⟩
        have ep : putK (planK l (m0 : Int)) (Sum.inr "most" : Key) (V.int 1) = planK l (m : Int) := by
          rw [plan_put, hmv]
          rfl
        rw [ep]
        exact k
      case h =>
        have z6 := rot.most
        have z8 : zs.length ≤ 8 := by omega
        have nd := rot.nd
        have eL : (zs.map V.str).length = zs.length := List.length_map ..
        have mB : markB 1 10 (.int (m : Int)) = true := by
          show (decide (1 ≤ (m : Int)) && decide ((m : Int) ≤ 10)) = true
          rw [decide_eq_true (show 1 ≤ (m : Int) by omega), decide_eq_true (show (m : Int) ≤ 10 by omega)]
          rfl
        have hgm : upd H4 gm (.dK (planK l (m : Int))) gm = some (.dK (planK l (m : Int))) := upd_same
        have hl : upd H4 gm (.dK (planK l (m : Int))) l = some (.lst (zs.map V.str)) := by
          rw [upd_ne (ne_of hl0 hgm0 fun z => nomatch z)]
          exact hl0
        have K5 : Same H (upd H4 gm (.dK (planK l (m : Int)))) := fun u o e => by
          have e2 := sH2 _ _ e
          have e3 := s3 _ _ e2
          rw [upd_ne (ne_of_none e3 ngm)]
          exact b4 _ _ (ne_of_none e2 npo) e3
        generalize upd H4 gm (.dK (planK l (m : Int))) = H5 at hgm hl K5
        dsimp only [List.set]
        refine st_seq ?_
        refine st_par ?_
        refine st_cons ?_
        refine st_call ?_
        refine st_cons ?_
        refine rd_made (xs := zs.map V.str) mB (fun Q2 k2 => ⟨_, rfl, gm, _, rfl, get_people hgm, _, rfl, gm, _, rfl, get_most hgm, k2 _ _ (Same.refl _) (.lst' hl rot.items (by rw [eL]; omega) rot.people)⟩) fun H6 c6 d6 q6 s6 _ _ hc6 hq6 => ?_
        refine ⟨c6, zs, m, rfl, ⟨d6, q6, hc6, hq6⟩, rot.one, z8, nd, m1', by omega, fun big => absurd big (by omega), fun _ H7 tv s7 wv => ?_⟩
        refine ⟨_, _, rfl, ?_⟩
        dsimp only [List.set]
        have S7 := s6.trans s7
        have K7 := K5.trans S7
        have gm7 := S7 _ _ hgm
        have l7 := S7 _ _ hl
        refine ⟨_, rfl, gm, l, zs, m, rfl, gm7, l7, z8, nd, m1', by omega, few, fun H8 p8 as s8 h8 sh8 => ⟨p8, rfl, ⟨_, SqL.of h8⟩, ?_⟩⟩
        refine for_list (K := K) (a := p8) (xs := as.map V.ref) (fun j σ G => ∃ u1 lv u6 u7 u8 u9 u10, σ = [some (.ref a), u1, some (.ref po), some (.ref gm), some tv, some lv, u6, u7, u8, u9, u10] ∧ Same H8 G ∧ LeastAt G (bestF zs ((tupsOf m (pairsOf zs).length).take j)) lv) ⟨_, _, _, _, _, _, _, rfl, Same.refl _, .inl ⟨rfl, rfl⟩⟩ (fun j σ G _ h => ?_) ?_ ?_
        · obtain ⟨_, _, _, _, _, _, _, _, s, _⟩ := h
          exact SqL.of (s _ _ h8)
        · rintro j y σ G hy ⟨u1, lv, u6, u7, u8, u9, u10, rfl, sG, lG⟩
          rw [List.getElem?_map] at hy
          obtain ⟨ad, ha, rfl⟩ := Option.map_eq_some_iff.mp hy
          obtain ⟨r, hr, had⟩ := paired_at sh8 ha
          have rin := List.mem_of_getElem? hr
          have f10 := fOf_ten (zs := zs) (m := m) (by omega) rin
          have S8 := s8.trans sG
          refine ⟨_, rfl, _, rfl, gm, l, ad, zs, _, fOf zs r, rfl, S8 _ _ gm7, S8 _ _ l7, sG _ _ had, rot, f10, fun G2 v s2 rv => ?_⟩
          have SG := sG.trans s2
          have lG2 := lG.same s2
          rcases rat_val rv with ⟨rfl, e⟩ | ⟨p, rr, rfl, np, e, hp⟩
          · refine ⟨_, rfl, rfl, _, rfl, ?_⟩
            rw [show (!decide (V.non = V.non)) = false by simp]
            refine iteF (iteF ⟨_, _, _, _, _, _, _, rfl, SG, ?_⟩)
            rw [best_snoc hr, step_non e]
            exact lG2
          · refine ⟨_, rfl, rfl, _, rfl, ?_⟩
            rw [show (!decide (V.ref p = V.non)) = true by simp]
            refine iteT ⟨_, rfl, rfl, _, rfl, ?_⟩
            rcases id lG2 with ⟨e0, rfl⟩ | ⟨row, r0, y0, e0, rfl, hy0⟩
            · rw [show decide (V.non = V.non) = true by simp]
              refine iteT (iteT ⟨_, rfl, _, _, _, _, _, _, _, rfl, SG, .inr ⟨r, rr, p, ?_, rfl, hp⟩⟩)
              rw [best_snoc hr, e0, step_new e]
            · rw [show decide (V.ref y0 = V.non) = false by simp]
              obtain ⟨b1, b2⟩ := bestF_ok e0
              obtain ⟨w1, w2⟩ := ratio_bits f10 z8 e
              obtain ⟨w3, w4⟩ := ratio_bits (fOf_ten (zs := zs) (m := m) (by omega) (List.mem_of_mem_take b1)) z8 b2
              refine iteF ⟨_, rfl, p, _, 0, _, rfl, rfl, SqT.of hp, rfl, _, rfl, y0, _, 1, _, rfl, rfl, SqT.of hy0, rfl, _, _, rfl, rfl, wide_mul w1 w4 (by decide) (by decide) (by decide), _, rfl, y0, _, 0, _, rfl, rfl, SqT.of hy0, rfl, _, rfl, p, _, 1, _, rfl, rfl, SqT.of hp, rfl, _, _, rfl, rfl, wide_mul w3 w2 (by decide) (by decide) (by decide), _, _, rfl, rfl, _, rfl, ?_⟩
              have eb := best_snoc (zs := zs) hr
              rw [e0, step_old e] at eb
              rw [show decide (rr.1 * r0.2 < r0.1 * rr.2) = lessB rr r0 from rfl]
              cases el : lessB rr r0 with
              | true =>
                rw [if_pos el] at eb
                exact iteT ⟨_, rfl, _, _, _, _, _, _, _, rfl, SG, .inr ⟨r, rr, p, eb, rfl, hp⟩⟩
              | false =>
                rw [if_neg (by rw [el]; exact Bool.false_ne_true), ← e0] at eb
                refine iteF ⟨_, _, _, _, _, _, _, rfl, SG, ?_⟩
                rw [eb]
                exact lG2
        rintro σ G ⟨u1, lv, u6, u7, u8, u9, u10, rfl, sG, lG⟩
        rw [List.length_map, ← sh8.length, List.take_length] at lG
        have S8 := s8.trans sG
        have K8 := K7.trans S8
        rcases wv.same S8 with ⟨e0, rfl⟩ | ⟨row, r, t, x, y, e0, rfl, ht, hx, hy⟩
        · rcases lG with ⟨_, rfl⟩ | ⟨_, _, _, e1, _⟩
          · refine ⟨_, rfl, rfl, _, rfl, ?_⟩
            rw [show decide (V.non = V.non) = true by simp]
            refine iteT ⟨_, rfl, rfl, _, rfl, ?_⟩
            rw [show (!decide (V.non = V.non)) = false by simp]
            refine iteF ⟨_, rfl, rfl, _, rfl, ?_⟩
            rw [show (!decide (V.non = V.non)) = false by simp]
            refine iteF (iteF ⟨_, rfl, rfl, _, rfl, ?_⟩)
            rw [show (!decide (V.non = V.non)) = false by simp]
            exact iteF (iteF ⟨_, _, _, _, _, _, _, _, _, _, rfl, K8⟩)
          · rw [e0] at e1
            cases e1
        · rcases lG with ⟨e1, _⟩ | ⟨row', r', yl, e1, rfl, hyl⟩
          · rw [e0] at e1
            cases e1
          · rw [e0] at e1
            cases e1
            obtain ⟨b1, b2⟩ := bestF_ok e0
            have f10 := fOf_ten (zs := zs) (m := m) (by omega) b1
            refine ⟨_, rfl, rfl, _, rfl, ?_⟩
            rw [show decide (V.ref yl = V.non) = false by simp]
            refine iteF (iteF ⟨_, rfl, rfl, _, rfl, ?_⟩)
            rw [show (!decide (V.ref yl = V.non)) = true by simp]
            refine iteT ⟨_, rfl, rfl, _, rfl, ?_⟩
            rw [show decide (V.ref t = V.non) = false by simp]
            refine iteF ⟨_, rfl, t, _, 0, _, rfl, rfl, SqT.of ht, rfl, _, rfl, _, _, dp_frac hx, dp_frac hyl, shaped_frac, shaped_frac, _, rfl, ?_⟩
            rw [eqv_frac]
            refine iteF ⟨_, rfl, rfl, _, rfl, ?_⟩
            rw [show (!decide (V.ref t = V.non)) = true by simp]
            refine iteT ⟨_, rfl, t, _, rfl, .inr (SqT.of ht), rfl, _, rfl, ?_⟩
            rw [show (!decide (V.int (([V.ref x, V.ref y] : List V).length : Nat) = V.int 2)) = false by simp]
            obtain ⟨dy, cy, d2, hyx, _, _⟩ := id hy
            refine iteF ⟨_, rfl, _, rfl, t, _, 1, _, rfl, rfl, SqT.of ht, rfl, y, dy, _, rfl, hyx, y, zs, _, fOf zs row, rfl, hy, z8, nd, fun G2 p2 s2 n2 h2 => ?_⟩
            have S9 := S8.trans s2
            refine ⟨gm, l, p2, zs, _, fOf zs row, rfl, S9 _ _ gm7, S9 _ _ l7, h2, rot, f10, fun G3 v s3' rv => ?_⟩
            rcases rat_val rv with ⟨rfl, e⟩ | ⟨p, rr, rfl, np, e, hp⟩
            · rw [b2] at e
              cases e
            · rw [b2] at e
              cases e
              refine ⟨_, rfl, _, _, dp_frac hp, dp_frac (s3' _ _ (s2 _ _ hyl)), shaped_frac, shaped_frac, _, rfl, ?_⟩
              rw [eqv_frac]
              exact iteF ⟨_, _, _, _, _, _, _, _, _, _, rfl, K8.trans (s2.trans s3')⟩
    · rintro σ G ⟨v1, v2, v3, v4, v5, v6, v7, v8, v9, v10, rfl, sG⟩
      refine ⟨_, rfl, Nat.zero_le _, fun e ne => ?_⟩
      have se : Same G (upd G e (.lst [])) := same_new ne
      have hSe : SqL K (upd G e (.lst [])) a (ns.map V.int) := extN_sq (LamX.ExtN.of (sG.trans se)) hS
      have hE : upd G e (.lst []) e = some (.lst []) := upd_same
      have SE := sG.trans se
      generalize upd G e (.lst []) = G1 at hSe hE SE
      refine ⟨_, _, .lst hSe (dp_ints ns), .lst (SqL.of hE) .nil, shaped_ints ns, by decide +kernel, _, rfl, ?_⟩
      cases ns with
      | cons n0 ns =>
        rw [show PyData.eqv (.list ((n0 :: ns).map .int)) (.list []) = false by simp [PyData.eqv, PyData.eqvAll]]
        refine iteF ?_
        refine st_next ?_
        dsimp only
        refine st_seq ?_
        refine st_asg ?_
        refine st_lst ?_
        refine st_cons ?_
        refine rd_made (m := 4) (xs := (["a", "b", "c"] : List Str).map V.str) (by decide) (fun Q2 k2 => ⟨(by show 3 ≤ sizeLine; decide), fun l nl => k2 _ _ (same_new nl) (.lst' upd_same (abc_items (by decide +kernel)) (by decide) (by decide +kernel))⟩) fun J1 c1 d1 q1 s1 _ _ hc1 hq1 => ?_
        refine st_cons ?_
        refine rd_made (m := 2) (xs := (["a", "b", "c", "d"] : List Str).map V.str) (by decide) (fun Q2 k2 => ⟨(by show 4 ≤ sizeLine; decide), fun l nl => k2 _ _ (same_new nl) (.lst' upd_same (abc_items (by decide +kernel)) (by decide) (by decide +kernel))⟩) fun J2 c2 d2 q2 s2 _ _ hc2 hq2 => ?_
        refine st_cons ?_
        refine rd_made (m := 1) (xs := (["a", "b", "c", "d", "e"] : List Str).map V.str) (by decide) (fun Q2 k2 => ⟨(by show 5 ≤ sizeLine; decide), fun l nl => k2 _ _ (same_new nl) (.lst' upd_same (abc_items (by decide +kernel)) (by decide) (by decide +kernel))⟩) fun J3 c3 d3 q3 s3 _ _ hc3 hq3 => ?_
        refine ⟨(by show 3 ≤ sizeLine; decide), fun p np => ?_⟩
        have s4 : Same J3 (upd J3 p (.lst [.ref c1, .ref c2, .ref c3])) := same_new np
        have hp4 : upd J3 p (.lst [.ref c1, .ref c2, .ref c3]) p = some (.lst [.ref c1, .ref c2, .ref c3]) := upd_same
        have C1 : CrowdOf (upd J3 p (.lst [.ref c1, .ref c2, .ref c3])) C c1 ["a", "b", "c"] ((4 : Nat) : Int) := ⟨d1, q1, s4 _ _ (s3 _ _ (s2 _ _ hc1)), s4 _ _ (s3 _ _ (s2 _ _ hq1))⟩
        have C2 : CrowdOf (upd J3 p (.lst [.ref c1, .ref c2, .ref c3])) C c2 ["a", "b", "c", "d"] ((2 : Nat) : Int) := ⟨d2, q2, s4 _ _ (s3 _ _ hc2), s4 _ _ (s3 _ _ hq2)⟩
        have C3 : CrowdOf (upd J3 p (.lst [.ref c1, .ref c2, .ref c3])) C c3 ["a", "b", "c", "d", "e"] ((1 : Nat) : Int) := ⟨d3, q3, s4 _ _ hc3, s4 _ _ hq3⟩
        generalize upd J3 p (.lst [.ref c1, .ref c2, .ref c3]) = J4 at hp4 C1 C2 C3
        refine ⟨_, rfl, p, rfl, ⟨_, SqL.of hp4⟩, fun D nD => ?_⟩
        refine nest_it (walk_list (K := K) (a := p) (xs := [.ref c1, .ref c2, .ref c3])) (fun j G => Same J4 G ∧ G D = some (.lst (List.replicate j (V.int 4096)))) ⟨same_new nD, upd_same⟩ (fun j G _ h => SqL.of (h.1 _ _ hp4)) ?_ ?_
        · rintro j y G0 G hj ⟨sG, hD⟩ ⟨rfl, hy⟩
          have info : ∃ (c : Addr) (zs : List Str) (m : Nat), y = .ref c ∧ CrowdOf J4 C c zs (m : Int) ∧ 1 ≤ zs.length ∧ zs.length ≤ 8 ∧ zs.Nodup ∧ 1 ≤ m ∧ m ≤ 10 ∧ 4096 < (m + 1) ^ (pairsOf zs).length := by
            rcases j with _ | _ | _ | j
            · cases hy
              exact ⟨_, _, _, rfl, C1, by decide, by decide, by decide +kernel, by decide, by decide, by decide +kernel⟩
            · cases hy
              exact ⟨_, _, _, rfl, C2, by decide, by decide, by decide +kernel, by decide, by decide, by decide +kernel⟩
            · cases hy
              exact ⟨_, _, _, rfl, C3, by decide, by decide, by decide +kernel, by decide, by decide, by decide +kernel⟩
            · simp at hy
          obtain ⟨c, zs, m, rfl, hC, o1, o8, ond, om1, om10, obig⟩ := info
          refine ⟨rfl, ?_⟩
          unfold tYes
          dsimp only
          rw [if_pos rfl]
          refine ⟨_, rfl, c, zs, m, rfl, hC.same sG, o1, o8, ond, om1, om10, obig, fun G2 sG2 => ⟨_, sG2 _ _ hD, ?_, fun b o e => ?_, ?_⟩⟩
          · rw [List.length_replicate]
            have hj' : j < 3 := hj
            exact small1000 (by omega)
          · rw [upd_ne (ne_of_none e nD)]
            exact sG2 _ _ (sG _ _ e)
          · rw [upd_same, List.replicate_succ']
        rintro G ⟨sG, hD⟩
        refine ⟨(by show 3 ≤ sizeLine; decide), fun e ne => ?_⟩
        refine ⟨_, _, .lst (SqL.of (same_new ne _ _ hD)) (dp_ints [4096, 4096, 4096]), .lst (SqL.of upd_same) (dp_ints [4096, 4096, 4096]), by decide +kernel, by decide +kernel, ?_⟩
        rw [show PyData.eqv (.list ([4096, 4096, 4096].map .int)) (.list ([4096, 4096, 4096].map .int)) = true by decide +kernel]
        exact q _
      | nil =>
        rw [show PyData.eqv (.list (([] : List Int).map .int)) (.list []) = true by simp [PyData.eqv, PyData.eqvAll]]
        refine iteT ?_
        refine fun gm ngm => ⟨(by show 3 ≤ sizeLine; decide), fun l nl => ?_⟩
        have sg1 : Same G1 (upd G1 gm (.dK [])) := same_new ngm
        have hg1 : upd G1 gm (.dK []) gm = some (.dK []) := upd_same
        generalize upd G1 gm (.dK []) = G2 at nl sg1 hg1
        have sg2 : Same G2 (upd G2 l (.lst [.str "bo", .str "ann", .str "cy"])) := same_new nl
        have hl2 : upd G2 l (.lst [.str "bo", .str "ann", .str "cy"]) l = some (.lst ((["bo", "ann", "cy"] : List Str).map V.str)) := upd_same
        have hg2 := sg2 _ _ hg1
        refine ⟨hg2, planK l 3, rfl, (by show 2 ≤ 15; decide), ?_⟩
        rw [plan_merge]
        generalize upd G2 l (.lst [.str "bo", .str "ann", .str "cy"]) = G3 at sg2 hl2 hg2
        have hgm : upd G3 gm (.dK (planK l ((3 : Nat) : Int))) gm = some (.dK (planK l ((3 : Nat) : Int))) := upd_same
        have hl : upd G3 gm (.dK (planK l ((3 : Nat) : Int))) l = some (.lst ((["bo", "ann", "cy"] : List Str).map V.str)) := by
          rw [upd_ne (ne_of hl2 hg2 fun z => nomatch z)]
          exact hl2
        have sg3 : Same G1 (upd G3 gm (.dK (planK l ((3 : Nat) : Int)))) := fun u o e => by
          rw [upd_ne (ne_of_none e ngm)]
          exact sg2 _ _ (sg1 _ _ e)
        have SE3 := SE.trans sg3
        dsimp only [List.set]
        refine st_seq ?_
        refine st_asg ?_
        refine st_call ?_
        refine st_cons ?_
        refine rd_made (m := ((3 : Nat) : Int)) (xs := (["bo", "ann", "cy"] : List Str).map V.str) (by decide) (fun Q2 k2 => ⟨_, rfl, gm, _, rfl, get_people hgm, k2 _ _ (Same.refl _) (.lst' hl rot3.items (by decide) rot3.people)⟩) fun H6 c6 d6 q6 s6 _ _ hc6 hq6 => ?_
        refine ⟨c6, ["bo", "ann", "cy"], 3, rfl, ⟨d6, q6, hc6, hq6⟩, by decide, by decide, rot3.nd, by decide, by decide, fun big => absurd big (by decide +kernel), fun _ H7 tv s7 wv => ?_⟩
        have gm7 := s7 _ _ (s6 _ _ hgm)
        have l7 := s7 _ _ (s6 _ _ hl)
        have S7 := SE3.trans (s6.trans s7)
        rcases wv with ⟨e0, _⟩ | ⟨row, r, t, x, y, e0, rfl, ht, hx, hy⟩
        · exact absurd e0 some_best
        obtain ⟨b1, b2⟩ := bestF_ok e0
        have f10 := fOf_ten (zs := ["bo", "ann", "cy"]) (m := 3) (by decide) b1
        have qt := quarter (by decide +kernel) (by decide +kernel) (by decide +kernel) f10 b2
        obtain ⟨w1, w2⟩ := ratio_bits f10 (by decide) b2
        refine ⟨t, _, rfl, SqT.of ht, rfl, _, _, rfl, _, _, rfl, rfl, ?_⟩
        obtain ⟨dy, cy, d2, hyx, _, _⟩ := id hy
        refine ⟨_, rfl, _, rfl, y, dy, _, rfl, hyx, y, ["bo", "ann", "cy"], _, fOf ["bo", "ann", "cy"] row, rfl, hy, by decide, rot3.nd, fun G5 p5 s5 n5 h5 => ?_⟩
        refine ⟨gm, l, p5, ["bo", "ann", "cy"], _, fOf ["bo", "ann", "cy"] row, rfl, s5 _ _ gm7, s5 _ _ l7, h5, rot3, f10, fun G6 v s6' rv => ?_⟩
        have hx6 := s6' _ _ (s5 _ _ hx)
        rcases rat_val rv with ⟨rfl, e⟩ | ⟨p, rr, rfl, np, e, hp⟩
        · rw [b2] at e
          cases e
        rw [b2] at e
        cases e
        refine ⟨_, rfl, _, _, dp_frac hp, dp_frac hx6, shaped_frac, shaped_frac, _, rfl, ?_⟩
        rw [eqv_frac]
        refine iteF ⟨_, rfl, x, _, 0, _, rfl, rfl, SqT.of hx6, rfl, _, _, rfl, rfl, wide_mul (b := 3) w1 (by decide) (by decide) (by decide) (by decide), _, rfl, x, _, 1, _, rfl, rfl, SqT.of hx6, rfl, _, _, rfl, rfl, _, rfl, ?_⟩
        rw [decide_eq_false qt]
        refine iteF ?_
        refine st_next ?_
        dsimp only
        refine st_seq ?_
        refine st_asg ?_
        refine st_lst ?_
        refine st_cons ?_
        refine rd_made (m := 4) (xs := (["a", "b", "c"] : List Str).map V.str) (by decide) (fun Q2 k2 => ⟨(by show 3 ≤ sizeLine; decide), fun l nl => k2 _ _ (same_new nl) (.lst' upd_same (abc_items (by decide +kernel)) (by decide) (by decide +kernel))⟩) fun J1 c1 d1 q1 s1 _ _ hc1 hq1 => ?_
        refine st_cons ?_
        refine rd_made (m := 2) (xs := (["a", "b", "c", "d"] : List Str).map V.str) (by decide) (fun Q2 k2 => ⟨(by show 4 ≤ sizeLine; decide), fun l nl => k2 _ _ (same_new nl) (.lst' upd_same (abc_items (by decide +kernel)) (by decide) (by decide +kernel))⟩) fun J2 c2 d2 q2 s2 _ _ hc2 hq2 => ?_
        refine st_cons ?_
        refine rd_made (m := 1) (xs := (["a", "b", "c", "d", "e"] : List Str).map V.str) (by decide) (fun Q2 k2 => ⟨(by show 5 ≤ sizeLine; decide), fun l nl => k2 _ _ (same_new nl) (.lst' upd_same (abc_items (by decide +kernel)) (by decide) (by decide +kernel))⟩) fun J3 c3 d3 q3 s3 _ _ hc3 hq3 => ?_
        refine ⟨(by show 3 ≤ sizeLine; decide), fun p np => ?_⟩
        have s4 : Same J3 (upd J3 p (.lst [.ref c1, .ref c2, .ref c3])) := same_new np
        have hp4 : upd J3 p (.lst [.ref c1, .ref c2, .ref c3]) p = some (.lst [.ref c1, .ref c2, .ref c3]) := upd_same
        have C1 : CrowdOf (upd J3 p (.lst [.ref c1, .ref c2, .ref c3])) C c1 ["a", "b", "c"] ((4 : Nat) : Int) := ⟨d1, q1, s4 _ _ (s3 _ _ (s2 _ _ hc1)), s4 _ _ (s3 _ _ (s2 _ _ hq1))⟩
        have C2 : CrowdOf (upd J3 p (.lst [.ref c1, .ref c2, .ref c3])) C c2 ["a", "b", "c", "d"] ((2 : Nat) : Int) := ⟨d2, q2, s4 _ _ (s3 _ _ hc2), s4 _ _ (s3 _ _ hq2)⟩
        have C3 : CrowdOf (upd J3 p (.lst [.ref c1, .ref c2, .ref c3])) C c3 ["a", "b", "c", "d", "e"] ((1 : Nat) : Int) := ⟨d3, q3, s4 _ _ hc3, s4 _ _ hq3⟩
        generalize upd J3 p (.lst [.ref c1, .ref c2, .ref c3]) = J4 at hp4 C1 C2 C3
        refine ⟨_, rfl, p, rfl, ⟨_, SqL.of hp4⟩, fun D nD => ?_⟩
        refine nest_it (walk_list (K := K) (a := p) (xs := [.ref c1, .ref c2, .ref c3])) (fun j G => Same J4 G ∧ G D = some (.lst (List.replicate j (V.int 4096)))) ⟨same_new nD, upd_same⟩ (fun j G _ h => SqL.of (h.1 _ _ hp4)) ?_ ?_
        · rintro j y G0 G hj ⟨sG, hD⟩ ⟨rfl, hy⟩
          have info : ∃ (c : Addr) (zs : List Str) (m : Nat), y = .ref c ∧ CrowdOf J4 C c zs (m : Int) ∧ 1 ≤ zs.length ∧ zs.length ≤ 8 ∧ zs.Nodup ∧ 1 ≤ m ∧ m ≤ 10 ∧ 4096 < (m + 1) ^ (pairsOf zs).length := by
            rcases j with _ | _ | _ | j
            · cases hy
              exact ⟨_, _, _, rfl, C1, by decide, by decide, by decide +kernel, by decide, by decide, by decide +kernel⟩
            · cases hy
              exact ⟨_, _, _, rfl, C2, by decide, by decide, by decide +kernel, by decide, by decide, by decide +kernel⟩
            · cases hy
              exact ⟨_, _, _, rfl, C3, by decide, by decide, by decide +kernel, by decide, by decide, by decide +kernel⟩
            · simp at hy
          obtain ⟨c, zs, m, rfl, hC, o1, o8, ond, om1, om10, obig⟩ := info
          refine ⟨rfl, ?_⟩
          unfold tYes
          dsimp only
          rw [if_pos rfl]
          refine ⟨_, rfl, c, zs, m, rfl, hC.same sG, o1, o8, ond, om1, om10, obig, fun G2 sG2 => ⟨_, sG2 _ _ hD, ?_, fun b o e => ?_, ?_⟩⟩
          · rw [List.length_replicate]
            have hj' : j < 3 := hj
            exact small1000 (by omega)
          · rw [upd_ne (ne_of_none e nD)]
            exact sG2 _ _ (sG _ _ e)
          · rw [upd_same, List.replicate_succ']
        rintro G ⟨sG, hD⟩
        refine ⟨(by show 3 ≤ sizeLine; decide), fun e ne => ?_⟩
        refine ⟨_, _, .lst (SqL.of (same_new ne _ _ hD)) (dp_ints [4096, 4096, 4096]), .lst (SqL.of upd_same) (dp_ints [4096, 4096, 4096]), by decide +kernel, by decide +kernel, ?_⟩
        rw [show PyData.eqv (.list ([4096, 4096, 4096].map .int)) (.list ([4096, 4096, 4096].map .int)) = true by decide +kernel]
        exact q _
end
end K45

set_option Elab.async false
set_option linter.all false
set_option maxRecDepth 100000
set_option maxHeartbeats 4000000
namespace K45
open PySem PySem.Spec PyProof.Rows L2
theorem all_mk {l : PySem.W.OpenLaw} {w : World} {K : PySem.W.Frag} {h : Heap} {mg : Str → Option Value} {fa fIsInteger fIsIntegerWithin fIsWord fLowestTerms fIsLess fPower fAllTuples fArePeople fNeedCrowd fIsMark fIsMarkOrNone fAreMarks fListWinners fPartingWinners fHalfPrizes fHalvesInAll fSumsOfMarks fWorthAndGreatest fRatioOf fWorstLot fOpened fDraw fPairs fLow fAllRows fAllPages fDouble fLawLot fFirsts fShares fSums fWorth fRatio fCrowdOf fMany fLaw fNeedFewPages CMarksError CBadCrowd fBadCrowdInit CTooMany fTooManyInit CCrowd fCrowdInit fCrowdContains fCrowdPairs fCrowdIsPair fCrowdPeople pCrowdPeople CPage fPageInit fPageMarks pPageMarks : Addr} (X : K.In h) (G : h.Ns mainGlobals mg) (hfa : mg "law" = some (.ref fa))
    {ocIsInteger kVIsInteger dcIsInteger pmIsInteger cdIsInteger ctIsInteger : Value} {odIsInteger anIsInteger : Option Addr} {slIsInteger : Array (Option Value)}
    {ocIsIntegerWithin kVIsIntegerWithin dcIsIntegerWithin pmIsIntegerWithin cdIsIntegerWithin ctIsIntegerWithin : Value} {odIsIntegerWithin anIsIntegerWithin : Option Addr} {slIsIntegerWithin : Array (Option Value)}
    {ocIsWord kVIsWord dcIsWord pmIsWord cdIsWord ctIsWord : Value} {odIsWord anIsWord : Option Addr} {slIsWord : Array (Option Value)}
    {ocLowestTerms kVLowestTerms dcLowestTerms pmLowestTerms cdLowestTerms ctLowestTerms : Value} {odLowestTerms anLowestTerms : Option Addr} {slLowestTerms : Array (Option Value)}
    {ocIsLess kVIsLess dcIsLess pmIsLess cdIsLess ctIsLess : Value} {odIsLess anIsLess : Option Addr} {slIsLess : Array (Option Value)}
    {ocPower kVPower dcPower pmPower cdPower ctPower : Value} {odPower anPower : Option Addr} {slPower : Array (Option Value)}
    {ocAllTuples kVAllTuples dcAllTuples pmAllTuples cdAllTuples ctAllTuples : Value} {odAllTuples anAllTuples : Option Addr} {slAllTuples : Array (Option Value)}
    {ocArePeople kVArePeople dcArePeople pmArePeople cdArePeople ctArePeople : Value} {odArePeople anArePeople : Option Addr} {slArePeople : Array (Option Value)}
    {ocNeedCrowd kVNeedCrowd dcNeedCrowd pmNeedCrowd cdNeedCrowd ctNeedCrowd : Value} {odNeedCrowd anNeedCrowd : Option Addr} {slNeedCrowd : Array (Option Value)}
    {ocIsMark kVIsMark dcIsMark pmIsMark cdIsMark ctIsMark : Value} {odIsMark anIsMark : Option Addr} {slIsMark : Array (Option Value)}
    {ocIsMarkOrNone kVIsMarkOrNone dcIsMarkOrNone pmIsMarkOrNone cdIsMarkOrNone ctIsMarkOrNone : Value} {odIsMarkOrNone anIsMarkOrNone : Option Addr} {slIsMarkOrNone : Array (Option Value)}
    {ocAreMarks kVAreMarks dcAreMarks pmAreMarks cdAreMarks ctAreMarks : Value} {odAreMarks anAreMarks : Option Addr} {slAreMarks : Array (Option Value)}
    {ocListWinners kVListWinners dcListWinners pmListWinners cdListWinners ctListWinners : Value} {odListWinners anListWinners : Option Addr} {slListWinners : Array (Option Value)}
    {ocPartingWinners kVPartingWinners dcPartingWinners pmPartingWinners cdPartingWinners ctPartingWinners : Value} {odPartingWinners anPartingWinners : Option Addr} {slPartingWinners : Array (Option Value)}
    {ocHalfPrizes kVHalfPrizes dcHalfPrizes pmHalfPrizes cdHalfPrizes ctHalfPrizes : Value} {odHalfPrizes anHalfPrizes : Option Addr} {slHalfPrizes : Array (Option Value)}
    {ocHalvesInAll kVHalvesInAll dcHalvesInAll pmHalvesInAll cdHalvesInAll ctHalvesInAll : Value} {odHalvesInAll anHalvesInAll : Option Addr} {slHalvesInAll : Array (Option Value)}
    {ocSumsOfMarks kVSumsOfMarks dcSumsOfMarks pmSumsOfMarks cdSumsOfMarks ctSumsOfMarks : Value} {odSumsOfMarks anSumsOfMarks : Option Addr} {slSumsOfMarks : Array (Option Value)}
    {ocWorthAndGreatest kVWorthAndGreatest dcWorthAndGreatest pmWorthAndGreatest cdWorthAndGreatest ctWorthAndGreatest : Value} {odWorthAndGreatest anWorthAndGreatest : Option Addr} {slWorthAndGreatest : Array (Option Value)}
    {ocRatioOf kVRatioOf dcRatioOf pmRatioOf cdRatioOf ctRatioOf : Value} {odRatioOf anRatioOf : Option Addr} {slRatioOf : Array (Option Value)}
    {ocWorstLot kVWorstLot dcWorstLot pmWorstLot cdWorstLot ctWorstLot : Value} {odWorstLot anWorstLot : Option Addr} {slWorstLot : Array (Option Value)}
    {ocOpened kVOpened dcOpened pmOpened cdOpened ctOpened : Value} {odOpened anOpened : Option Addr} {slOpened : Array (Option Value)}
    {ocDraw kVDraw dcDraw pmDraw cdDraw ctDraw : Value} {odDraw anDraw : Option Addr} {slDraw : Array (Option Value)}
    {ocPairs kVPairs dcPairs pmPairs cdPairs ctPairs : Value} {odPairs anPairs : Option Addr} {slPairs : Array (Option Value)}
    {ocLow kVLow dcLow pmLow cdLow ctLow : Value} {odLow anLow : Option Addr} {slLow : Array (Option Value)}
    {ocAllRows kVAllRows dcAllRows pmAllRows cdAllRows ctAllRows : Value} {odAllRows anAllRows : Option Addr} {slAllRows : Array (Option Value)}
    {ocAllPages kVAllPages dcAllPages pmAllPages cdAllPages ctAllPages : Value} {odAllPages anAllPages : Option Addr} {slAllPages : Array (Option Value)}
    {ocDouble kVDouble dcDouble pmDouble cdDouble ctDouble : Value} {odDouble anDouble : Option Addr} {slDouble : Array (Option Value)}
    {ocLawLot kVLawLot dcLawLot pmLawLot cdLawLot ctLawLot : Value} {odLawLot anLawLot : Option Addr} {slLawLot : Array (Option Value)}
    {ocFirsts kVFirsts dcFirsts pmFirsts cdFirsts ctFirsts : Value} {odFirsts anFirsts : Option Addr} {slFirsts : Array (Option Value)}
    {ocShares kVShares dcShares pmShares cdShares ctShares : Value} {odShares anShares : Option Addr} {slShares : Array (Option Value)}
    {ocSums kVSums dcSums pmSums cdSums ctSums : Value} {odSums anSums : Option Addr} {slSums : Array (Option Value)}
    {ocWorth kVWorth dcWorth pmWorth cdWorth ctWorth : Value} {odWorth anWorth : Option Addr} {slWorth : Array (Option Value)}
    {ocRatio kVRatio dcRatio pmRatio cdRatio ctRatio : Value} {odRatio anRatio : Option Addr} {slRatio : Array (Option Value)}
    {ocCrowdOf kVCrowdOf dcCrowdOf pmCrowdOf cdCrowdOf ctCrowdOf : Value} {odCrowdOf anCrowdOf : Option Addr} {slCrowdOf : Array (Option Value)}
    {ocMany kVMany dcMany pmMany cdMany ctMany : Value} {odMany anMany : Option Addr} {slMany : Array (Option Value)}
    {ocLaw kVLaw dcLaw pmLaw cdLaw ctLaw : Value} {odLaw anLaw : Option Addr} {slLaw : Array (Option Value)}
    {ocNeedFewPages kVNeedFewPages dcNeedFewPages pmNeedFewPages cdNeedFewPages ctNeedFewPages : Value} {odNeedFewPages anNeedFewPages : Option Addr} {slNeedFewPages : Array (Option Value)}
    {nmBadCrowd qBadCrowd : Str} {NBadCrowd : Addr} {bsBadCrowd : List Value} {snBadCrowd : List Str} {subBadCrowd : List Value} {abBadCrowd : Bool} {colBadCrowd : Option Bool} {ddBadCrowd : Option Addr} {m0BadCrowd m1BadCrowd m2BadCrowd m3BadCrowd m5BadCrowd : Option Value}
    {ocBadCrowdInit kVBadCrowdInit dcBadCrowdInit pmBadCrowdInit cdBadCrowdInit ctBadCrowdInit : Value} {odBadCrowdInit anBadCrowdInit : Option Addr} {slBadCrowdInit : Array (Option Value)}
    {ocTooManyInit kVTooManyInit dcTooManyInit pmTooManyInit cdTooManyInit ctTooManyInit : Value} {odTooManyInit anTooManyInit : Option Addr} {slTooManyInit : Array (Option Value)}
    {ocCrowdInit kVCrowdInit dcCrowdInit pmCrowdInit cdCrowdInit ctCrowdInit : Value} {odCrowdInit anCrowdInit : Option Addr} {slCrowdInit : Array (Option Value)}
    {ocCrowdContains kVCrowdContains dcCrowdContains pmCrowdContains cdCrowdContains ctCrowdContains : Value} {odCrowdContains anCrowdContains : Option Addr} {slCrowdContains : Array (Option Value)}
    {ocCrowdPairs kVCrowdPairs dcCrowdPairs pmCrowdPairs cdCrowdPairs ctCrowdPairs : Value} {odCrowdPairs anCrowdPairs : Option Addr} {slCrowdPairs : Array (Option Value)}
    {ocCrowdIsPair kVCrowdIsPair dcCrowdIsPair pmCrowdIsPair cdCrowdIsPair ctCrowdIsPair : Value} {odCrowdIsPair anCrowdIsPair : Option Addr} {slCrowdIsPair : Array (Option Value)}
    {restCrowdPeople : List Value}
    {ocCrowdPeople kVCrowdPeople dcCrowdPeople pmCrowdPeople cdCrowdPeople ctCrowdPeople : Value} {odCrowdPeople anCrowdPeople : Option Addr} {slCrowdPeople : Array (Option Value)}
    {ocPageInit kVPageInit dcPageInit pmPageInit cdPageInit ctPageInit : Value} {odPageInit anPageInit : Option Addr} {slPageInit : Array (Option Value)}
    {restPageMarks : List Value}
    {ocPageMarks kVPageMarks dcPageMarks pmPageMarks cdPageMarks ctPageMarks : Value} {odPageMarks anPageMarks : Option Addr} {slPageMarks : Array (Option Value)}
    {t_LETTERS : Tok}
    {t_LONGEST : Tok}
    {t_MOST_PEOPLE : Tok}
    {t_GREATEST_MARK : Tok}
    {t_MOST_PAGES : Tok}
    
    (aIsInteger : PySem.W.nsIn K mainGlobals "is_integer" = some (some (.ref fIsInteger)))
    (lIsInteger : K.lookup fIsInteger = some ⟨ocIsInteger, odIsInteger, .func (PySem.W.fnOf "is_integer" "is_integer" (defArgs sIsInteger) (defBody sIsInteger) (defScope sIsInteger) .none kVIsInteger dcIsInteger pmIsInteger anIsInteger cdIsInteger ctIsInteger), slIsInteger⟩)
    (cIsInteger : PySem.W.codeIn K cdIsInteger "is_integer" = true)
    (kIsInteger : PySem.W.keepIn K (.ref fIsInteger) = true)
    (aIsIntegerWithin : PySem.W.nsIn K mainGlobals "is_integer_within" = some (some (.ref fIsIntegerWithin)))
    (lIsIntegerWithin : K.lookup fIsIntegerWithin = some ⟨ocIsIntegerWithin, odIsIntegerWithin, .func (PySem.W.fnOf "is_integer_within" "is_integer_within" (defArgs sIsIntegerWithin) (defBody sIsIntegerWithin) (defScope sIsIntegerWithin) .none kVIsIntegerWithin dcIsIntegerWithin pmIsIntegerWithin anIsIntegerWithin cdIsIntegerWithin ctIsIntegerWithin), slIsIntegerWithin⟩)
    (cIsIntegerWithin : PySem.W.codeIn K cdIsIntegerWithin "is_integer_within" = true)
    (kIsIntegerWithin : PySem.W.keepIn K (.ref fIsIntegerWithin) = true)
    (aIsWord : PySem.W.nsIn K mainGlobals "is_word" = some (some (.ref fIsWord)))
    (lIsWord : K.lookup fIsWord = some ⟨ocIsWord, odIsWord, .func (PySem.W.fnOf "is_word" "is_word" (defArgs sIsWord) (defBody sIsWord) (defScope sIsWord) .none kVIsWord dcIsWord pmIsWord anIsWord cdIsWord ctIsWord), slIsWord⟩)
    (cIsWord : PySem.W.codeIn K cdIsWord "is_word" = true)
    (kIsWord : PySem.W.keepIn K (.ref fIsWord) = true)
    (aLowestTerms : PySem.W.nsIn K mainGlobals "lowest_terms" = some (some (.ref fLowestTerms)))
    (lLowestTerms : K.lookup fLowestTerms = some ⟨ocLowestTerms, odLowestTerms, .func (PySem.W.fnOf "lowest_terms" "lowest_terms" (defArgs sLowestTerms) (defBody sLowestTerms) (defScope sLowestTerms) .none kVLowestTerms dcLowestTerms pmLowestTerms anLowestTerms cdLowestTerms ctLowestTerms), slLowestTerms⟩)
    (cLowestTerms : PySem.W.codeIn K cdLowestTerms "lowest_terms" = true)
    (kLowestTerms : PySem.W.keepIn K (.ref fLowestTerms) = true)
    (aIsLess : PySem.W.nsIn K mainGlobals "is_less" = some (some (.ref fIsLess)))
    (lIsLess : K.lookup fIsLess = some ⟨ocIsLess, odIsLess, .func (PySem.W.fnOf "is_less" "is_less" (defArgs sIsLess) (defBody sIsLess) (defScope sIsLess) .none kVIsLess dcIsLess pmIsLess anIsLess cdIsLess ctIsLess), slIsLess⟩)
    (cIsLess : PySem.W.codeIn K cdIsLess "is_less" = true)
    (kIsLess : PySem.W.keepIn K (.ref fIsLess) = true)
    (aPower : PySem.W.nsIn K mainGlobals "power" = some (some (.ref fPower)))
    (lPower : K.lookup fPower = some ⟨ocPower, odPower, .func (PySem.W.fnOf "power" "power" (defArgs sPower) (defBody sPower) (defScope sPower) .none kVPower dcPower pmPower anPower cdPower ctPower), slPower⟩)
    (cPower : PySem.W.codeIn K cdPower "power" = true)
    (kPower : PySem.W.keepIn K (.ref fPower) = true)
    (aAllTuples : PySem.W.nsIn K mainGlobals "all_tuples" = some (some (.ref fAllTuples)))
    (lAllTuples : K.lookup fAllTuples = some ⟨ocAllTuples, odAllTuples, .func (PySem.W.fnOf "all_tuples" "all_tuples" (defArgs sAllTuples) (defBody sAllTuples) (defScope sAllTuples) .none kVAllTuples dcAllTuples pmAllTuples anAllTuples cdAllTuples ctAllTuples), slAllTuples⟩)
    (cAllTuples : PySem.W.codeIn K cdAllTuples "all_tuples" = true)
    (kAllTuples : PySem.W.keepIn K (.ref fAllTuples) = true)
    (aArePeople : PySem.W.nsIn K mainGlobals "are_people" = some (some (.ref fArePeople)))
    (lArePeople : K.lookup fArePeople = some ⟨ocArePeople, odArePeople, .func (PySem.W.fnOf "are_people" "are_people" (defArgs sArePeople) (defBody sArePeople) (defScope sArePeople) .none kVArePeople dcArePeople pmArePeople anArePeople cdArePeople ctArePeople), slArePeople⟩)
    (cArePeople : PySem.W.codeIn K cdArePeople "are_people" = true)
    (kArePeople : PySem.W.keepIn K (.ref fArePeople) = true)
    (aNeedCrowd : PySem.W.nsIn K mainGlobals "need_crowd" = some (some (.ref fNeedCrowd)))
    (lNeedCrowd : K.lookup fNeedCrowd = some ⟨ocNeedCrowd, odNeedCrowd, .func (PySem.W.fnOf "need_crowd" "need_crowd" (defArgs sNeedCrowd) (defBody sNeedCrowd) (defScope sNeedCrowd) .none kVNeedCrowd dcNeedCrowd pmNeedCrowd anNeedCrowd cdNeedCrowd ctNeedCrowd), slNeedCrowd⟩)
    (cNeedCrowd : PySem.W.codeIn K cdNeedCrowd "need_crowd" = true)
    (kNeedCrowd : PySem.W.keepIn K (.ref fNeedCrowd) = true)
    (aIsMark : PySem.W.nsIn K mainGlobals "is_mark" = some (some (.ref fIsMark)))
    (lIsMark : K.lookup fIsMark = some ⟨ocIsMark, odIsMark, .func (PySem.W.fnOf "is_mark" "is_mark" (defArgs sIsMark) (defBody sIsMark) (defScope sIsMark) .none kVIsMark dcIsMark pmIsMark anIsMark cdIsMark ctIsMark), slIsMark⟩)
    (cIsMark : PySem.W.codeIn K cdIsMark "is_mark" = true)
    (kIsMark : PySem.W.keepIn K (.ref fIsMark) = true)
    (aIsMarkOrNone : PySem.W.nsIn K mainGlobals "is_mark_or_none" = some (some (.ref fIsMarkOrNone)))
    (lIsMarkOrNone : K.lookup fIsMarkOrNone = some ⟨ocIsMarkOrNone, odIsMarkOrNone, .func (PySem.W.fnOf "is_mark_or_none" "is_mark_or_none" (defArgs sIsMarkOrNone) (defBody sIsMarkOrNone) (defScope sIsMarkOrNone) .none kVIsMarkOrNone dcIsMarkOrNone pmIsMarkOrNone anIsMarkOrNone cdIsMarkOrNone ctIsMarkOrNone), slIsMarkOrNone⟩)
    (cIsMarkOrNone : PySem.W.codeIn K cdIsMarkOrNone "is_mark_or_none" = true)
    (kIsMarkOrNone : PySem.W.keepIn K (.ref fIsMarkOrNone) = true)
    (aAreMarks : PySem.W.nsIn K mainGlobals "are_marks" = some (some (.ref fAreMarks)))
    (lAreMarks : K.lookup fAreMarks = some ⟨ocAreMarks, odAreMarks, .func (PySem.W.fnOf "are_marks" "are_marks" (defArgs sAreMarks) (defBody sAreMarks) (defScope sAreMarks) .none kVAreMarks dcAreMarks pmAreMarks anAreMarks cdAreMarks ctAreMarks), slAreMarks⟩)
    (cAreMarks : PySem.W.codeIn K cdAreMarks "are_marks" = true)
    (kAreMarks : PySem.W.keepIn K (.ref fAreMarks) = true)
    (aListWinners : PySem.W.nsIn K mainGlobals "list_winners" = some (some (.ref fListWinners)))
    (lListWinners : K.lookup fListWinners = some ⟨ocListWinners, odListWinners, .func (PySem.W.fnOf "list_winners" "list_winners" (defArgs sListWinners) (defBody sListWinners) (defScope sListWinners) .none kVListWinners dcListWinners pmListWinners anListWinners cdListWinners ctListWinners), slListWinners⟩)
    (cListWinners : PySem.W.codeIn K cdListWinners "list_winners" = true)
    (kListWinners : PySem.W.keepIn K (.ref fListWinners) = true)
    (aPartingWinners : PySem.W.nsIn K mainGlobals "parting_winners" = some (some (.ref fPartingWinners)))
    (lPartingWinners : K.lookup fPartingWinners = some ⟨ocPartingWinners, odPartingWinners, .func (PySem.W.fnOf "parting_winners" "parting_winners" (defArgs sPartingWinners) (defBody sPartingWinners) (defScope sPartingWinners) .none kVPartingWinners dcPartingWinners pmPartingWinners anPartingWinners cdPartingWinners ctPartingWinners), slPartingWinners⟩)
    (cPartingWinners : PySem.W.codeIn K cdPartingWinners "parting_winners" = true)
    (kPartingWinners : PySem.W.keepIn K (.ref fPartingWinners) = true)
    (aHalfPrizes : PySem.W.nsIn K mainGlobals "half_prizes" = some (some (.ref fHalfPrizes)))
    (lHalfPrizes : K.lookup fHalfPrizes = some ⟨ocHalfPrizes, odHalfPrizes, .func (PySem.W.fnOf "half_prizes" "half_prizes" (defArgs sHalfPrizes) (defBody sHalfPrizes) (defScope sHalfPrizes) .none kVHalfPrizes dcHalfPrizes pmHalfPrizes anHalfPrizes cdHalfPrizes ctHalfPrizes), slHalfPrizes⟩)
    (cHalfPrizes : PySem.W.codeIn K cdHalfPrizes "half_prizes" = true)
    (kHalfPrizes : PySem.W.keepIn K (.ref fHalfPrizes) = true)
    (aHalvesInAll : PySem.W.nsIn K mainGlobals "halves_in_all" = some (some (.ref fHalvesInAll)))
    (lHalvesInAll : K.lookup fHalvesInAll = some ⟨ocHalvesInAll, odHalvesInAll, .func (PySem.W.fnOf "halves_in_all" "halves_in_all" (defArgs sHalvesInAll) (defBody sHalvesInAll) (defScope sHalvesInAll) .none kVHalvesInAll dcHalvesInAll pmHalvesInAll anHalvesInAll cdHalvesInAll ctHalvesInAll), slHalvesInAll⟩)
    (cHalvesInAll : PySem.W.codeIn K cdHalvesInAll "halves_in_all" = true)
    (kHalvesInAll : PySem.W.keepIn K (.ref fHalvesInAll) = true)
    (aSumsOfMarks : PySem.W.nsIn K mainGlobals "sums_of_marks" = some (some (.ref fSumsOfMarks)))
    (lSumsOfMarks : K.lookup fSumsOfMarks = some ⟨ocSumsOfMarks, odSumsOfMarks, .func (PySem.W.fnOf "sums_of_marks" "sums_of_marks" (defArgs sSumsOfMarks) (defBody sSumsOfMarks) (defScope sSumsOfMarks) .none kVSumsOfMarks dcSumsOfMarks pmSumsOfMarks anSumsOfMarks cdSumsOfMarks ctSumsOfMarks), slSumsOfMarks⟩)
    (cSumsOfMarks : PySem.W.codeIn K cdSumsOfMarks "sums_of_marks" = true)
    (kSumsOfMarks : PySem.W.keepIn K (.ref fSumsOfMarks) = true)
    (aWorthAndGreatest : PySem.W.nsIn K mainGlobals "worth_and_greatest" = some (some (.ref fWorthAndGreatest)))
    (lWorthAndGreatest : K.lookup fWorthAndGreatest = some ⟨ocWorthAndGreatest, odWorthAndGreatest, .func (PySem.W.fnOf "worth_and_greatest" "worth_and_greatest" (defArgs sWorthAndGreatest) (defBody sWorthAndGreatest) (defScope sWorthAndGreatest) .none kVWorthAndGreatest dcWorthAndGreatest pmWorthAndGreatest anWorthAndGreatest cdWorthAndGreatest ctWorthAndGreatest), slWorthAndGreatest⟩)
    (cWorthAndGreatest : PySem.W.codeIn K cdWorthAndGreatest "worth_and_greatest" = true)
    (kWorthAndGreatest : PySem.W.keepIn K (.ref fWorthAndGreatest) = true)
    (aRatioOf : PySem.W.nsIn K mainGlobals "ratio_of" = some (some (.ref fRatioOf)))
    (lRatioOf : K.lookup fRatioOf = some ⟨ocRatioOf, odRatioOf, .func (PySem.W.fnOf "ratio_of" "ratio_of" (defArgs sRatioOf) (defBody sRatioOf) (defScope sRatioOf) .none kVRatioOf dcRatioOf pmRatioOf anRatioOf cdRatioOf ctRatioOf), slRatioOf⟩)
    (cRatioOf : PySem.W.codeIn K cdRatioOf "ratio_of" = true)
    (kRatioOf : PySem.W.keepIn K (.ref fRatioOf) = true)
    (aWorstLot : PySem.W.nsIn K mainGlobals "worst_lot" = some (some (.ref fWorstLot)))
    (lWorstLot : K.lookup fWorstLot = some ⟨ocWorstLot, odWorstLot, .func (PySem.W.fnOf "worst_lot" "worst_lot" (defArgs sWorstLot) (defBody sWorstLot) (defScope sWorstLot) .none kVWorstLot dcWorstLot pmWorstLot anWorstLot cdWorstLot ctWorstLot), slWorstLot⟩)
    (cWorstLot : PySem.W.codeIn K cdWorstLot "worst_lot" = true)
    (kWorstLot : PySem.W.keepIn K (.ref fWorstLot) = true)
    (aOpened : PySem.W.nsIn K mainGlobals "_law_opened" = some (some (.ref fOpened)))
    (lOpened : K.lookup fOpened = some ⟨ocOpened, odOpened, .func (PySem.W.fnOf "_law_opened" "_law_opened" (defArgs sOpened) (defBody sOpened) (defScope sOpened) .none kVOpened dcOpened pmOpened anOpened cdOpened ctOpened), slOpened⟩)
    (cOpened : PySem.W.codeIn K cdOpened "_law_opened" = true)
    (kOpened : PySem.W.keepIn K (.ref fOpened) = true)
    (aDraw : PySem.W.nsIn K mainGlobals "_law_draw" = some (some (.ref fDraw)))
    (lDraw : K.lookup fDraw = some ⟨ocDraw, odDraw, .func (PySem.W.fnOf "_law_draw" "_law_draw" (defArgs sDraw) (defBody sDraw) (defScope sDraw) .none kVDraw dcDraw pmDraw anDraw cdDraw ctDraw), slDraw⟩)
    (cDraw : PySem.W.codeIn K cdDraw "_law_draw" = true)
    (kDraw : PySem.W.keepIn K (.ref fDraw) = true)
    (aPairs : PySem.W.nsIn K mainGlobals "_law_pairs" = some (some (.ref fPairs)))
    (lPairs : K.lookup fPairs = some ⟨ocPairs, odPairs, .func (PySem.W.fnOf "_law_pairs" "_law_pairs" (defArgs sPairs) (defBody sPairs) (defScope sPairs) .none kVPairs dcPairs pmPairs anPairs cdPairs ctPairs), slPairs⟩)
    (cPairs : PySem.W.codeIn K cdPairs "_law_pairs" = true)
    (kPairs : PySem.W.keepIn K (.ref fPairs) = true)
    (aLow : PySem.W.nsIn K mainGlobals "_law_low" = some (some (.ref fLow)))
    (lLow : K.lookup fLow = some ⟨ocLow, odLow, .func (PySem.W.fnOf "_law_low" "_law_low" (defArgs sLow) (defBody sLow) (defScope sLow) .none kVLow dcLow pmLow anLow cdLow ctLow), slLow⟩)
    (cLow : PySem.W.codeIn K cdLow "_law_low" = true)
    (kLow : PySem.W.keepIn K (.ref fLow) = true)
    (aAllRows : PySem.W.nsIn K mainGlobals "_law_all_rows" = some (some (.ref fAllRows)))
    (lAllRows : K.lookup fAllRows = some ⟨ocAllRows, odAllRows, .func (PySem.W.fnOf "_law_all_rows" "_law_all_rows" (defArgs sAllRows) (defBody sAllRows) (defScope sAllRows) .none kVAllRows dcAllRows pmAllRows anAllRows cdAllRows ctAllRows), slAllRows⟩)
    (cAllRows : PySem.W.codeIn K cdAllRows "_law_all_rows" = true)
    (kAllRows : PySem.W.keepIn K (.ref fAllRows) = true)
    (aAllPages : PySem.W.nsIn K mainGlobals "_law_all_pages" = some (some (.ref fAllPages)))
    (lAllPages : K.lookup fAllPages = some ⟨ocAllPages, odAllPages, .func (PySem.W.fnOf "_law_all_pages" "_law_all_pages" (defArgs sAllPages) (defBody sAllPages) (defScope sAllPages) .none kVAllPages dcAllPages pmAllPages anAllPages cdAllPages ctAllPages), slAllPages⟩)
    (cAllPages : PySem.W.codeIn K cdAllPages "_law_all_pages" = true)
    (kAllPages : PySem.W.keepIn K (.ref fAllPages) = true)
    (aDouble : PySem.W.nsIn K mainGlobals "_law_double" = some (some (.ref fDouble)))
    (lDouble : K.lookup fDouble = some ⟨ocDouble, odDouble, .func (PySem.W.fnOf "_law_double" "_law_double" (defArgs sDouble) (defBody sDouble) (defScope sDouble) .none kVDouble dcDouble pmDouble anDouble cdDouble ctDouble), slDouble⟩)
    (cDouble : PySem.W.codeIn K cdDouble "_law_double" = true)
    (kDouble : PySem.W.keepIn K (.ref fDouble) = true)
    (aLawLot : PySem.W.nsIn K mainGlobals "_law_lot_winners" = some (some (.ref fLawLot)))
    (lLawLot : K.lookup fLawLot = some ⟨ocLawLot, odLawLot, .func (PySem.W.fnOf "_law_lot_winners" "_law_lot_winners" (defArgs sLawLot) (defBody sLawLot) (defScope sLawLot) .none kVLawLot dcLawLot pmLawLot anLawLot cdLawLot ctLawLot), slLawLot⟩)
    (cLawLot : PySem.W.codeIn K cdLawLot "_law_lot_winners" = true)
    (kLawLot : PySem.W.keepIn K (.ref fLawLot) = true)
    (aFirsts : PySem.W.nsIn K mainGlobals "_law_firsts" = some (some (.ref fFirsts)))
    (lFirsts : K.lookup fFirsts = some ⟨ocFirsts, odFirsts, .func (PySem.W.fnOf "_law_firsts" "_law_firsts" (defArgs sFirsts) (defBody sFirsts) (defScope sFirsts) .none kVFirsts dcFirsts pmFirsts anFirsts cdFirsts ctFirsts), slFirsts⟩)
    (cFirsts : PySem.W.codeIn K cdFirsts "_law_firsts" = true)
    (kFirsts : PySem.W.keepIn K (.ref fFirsts) = true)
    (aShares : PySem.W.nsIn K mainGlobals "_law_shares" = some (some (.ref fShares)))
    (lShares : K.lookup fShares = some ⟨ocShares, odShares, .func (PySem.W.fnOf "_law_shares" "_law_shares" (defArgs sShares) (defBody sShares) (defScope sShares) .none kVShares dcShares pmShares anShares cdShares ctShares), slShares⟩)
    (cShares : PySem.W.codeIn K cdShares "_law_shares" = true)
    (kShares : PySem.W.keepIn K (.ref fShares) = true)
    (aSums : PySem.W.nsIn K mainGlobals "_law_sums" = some (some (.ref fSums)))
    (lSums : K.lookup fSums = some ⟨ocSums, odSums, .func (PySem.W.fnOf "_law_sums" "_law_sums" (defArgs sSums) (defBody sSums) (defScope sSums) .none kVSums dcSums pmSums anSums cdSums ctSums), slSums⟩)
    (cSums : PySem.W.codeIn K cdSums "_law_sums" = true)
    (kSums : PySem.W.keepIn K (.ref fSums) = true)
    (aWorth : PySem.W.nsIn K mainGlobals "_law_worth" = some (some (.ref fWorth)))
    (lWorth : K.lookup fWorth = some ⟨ocWorth, odWorth, .func (PySem.W.fnOf "_law_worth" "_law_worth" (defArgs sWorth) (defBody sWorth) (defScope sWorth) .none kVWorth dcWorth pmWorth anWorth cdWorth ctWorth), slWorth⟩)
    (cWorth : PySem.W.codeIn K cdWorth "_law_worth" = true)
    (kWorth : PySem.W.keepIn K (.ref fWorth) = true)
    (aRatio : PySem.W.nsIn K mainGlobals "_law_ratio" = some (some (.ref fRatio)))
    (lRatio : K.lookup fRatio = some ⟨ocRatio, odRatio, .func (PySem.W.fnOf "_law_ratio" "_law_ratio" (defArgs sRatio) (defBody sRatio) (defScope sRatio) .none kVRatio dcRatio pmRatio anRatio cdRatio ctRatio), slRatio⟩)
    (cRatio : PySem.W.codeIn K cdRatio "_law_ratio" = true)
    (kRatio : PySem.W.keepIn K (.ref fRatio) = true)
    (aCrowdOf : PySem.W.nsIn K mainGlobals "_law_crowd_of" = some (some (.ref fCrowdOf)))
    (lCrowdOf : K.lookup fCrowdOf = some ⟨ocCrowdOf, odCrowdOf, .func (PySem.W.fnOf "_law_crowd_of" "_law_crowd_of" (defArgs sCrowdOf) (defBody sCrowdOf) (defScope sCrowdOf) .none kVCrowdOf dcCrowdOf pmCrowdOf anCrowdOf cdCrowdOf ctCrowdOf), slCrowdOf⟩)
    (cCrowdOf : PySem.W.codeIn K cdCrowdOf "_law_crowd_of" = true)
    (kCrowdOf : PySem.W.keepIn K (.ref fCrowdOf) = true)
    (aMany : PySem.W.nsIn K mainGlobals "_law_many" = some (some (.ref fMany)))
    (lMany : K.lookup fMany = some ⟨ocMany, odMany, .func (PySem.W.fnOf "_law_many" "_law_many" (defArgs sMany) (defBody sMany) (defScope sMany) .none kVMany dcMany pmMany anMany cdMany ctMany), slMany⟩)
    (cMany : PySem.W.codeIn K cdMany "_law_many" = true)
    (kMany : PySem.W.keepIn K (.ref fMany) = true)
    (aLaw : PySem.W.nsIn K mainGlobals "law" = some (some (.ref fLaw)))
    (lLaw : K.lookup fLaw = some ⟨ocLaw, odLaw, .func (PySem.W.fnOf "law" "law" (defArgs sLaw) (defBody sLaw) (defScope sLaw) .none kVLaw dcLaw pmLaw anLaw cdLaw ctLaw), slLaw⟩)
    (cLaw : PySem.W.codeIn K cdLaw "law" = true)
    (kLaw : PySem.W.keepIn K (.ref fLaw) = true)
    (aNeedFewPages : PySem.W.nsIn K mainGlobals "need_few_pages" = some (some (.ref fNeedFewPages)))
    (lNeedFewPages : K.lookup fNeedFewPages = some ⟨ocNeedFewPages, odNeedFewPages, .func (PySem.W.fnOf "need_few_pages" "need_few_pages" (defArgs sNeedFewPages) (defBody sNeedFewPages) (defScope sNeedFewPages) .none kVNeedFewPages dcNeedFewPages pmNeedFewPages anNeedFewPages cdNeedFewPages ctNeedFewPages), slNeedFewPages⟩)
    (cNeedFewPages : PySem.W.codeIn K cdNeedFewPages "need_few_pages" = true)
    (kNeedFewPages : PySem.W.keepIn K (.ref fNeedFewPages) = true)
    (aMarksError : PySem.W.nsIn K mainGlobals "MarksError" = some (some (.ref CMarksError)))
    (aBadCrowd : PySem.W.nsIn K mainGlobals "BadCrowd" = some (some (.ref CBadCrowd)))
    (gaBadCrowd : PySem.W.findIn K (.ref CBadCrowd) "__getattribute__" = some (some (.builtin "BaseException.__getattribute__")))
    (ggBadCrowd : PySem.W.findIn K (.ref CBadCrowd) "__getattr__" = some none)
    (exBadCrowd : PySem.W.subIn K (.ref CBadCrowd) (.type "BaseException") = some true)
    (hdBadCrowd : PySem.W.hasDictIn K CBadCrowd = true)
    (noBadCrowd : PySem.W.findIn K (.ref CBadCrowd) "part" = some none)
    (ccBadCrowd : PySem.W.findIn K (.ref CBadCrowd) "__class__" = some (some (.builtin "object.__class__")))
    (mrBadCrowd : PySem.W.mroIn K CBadCrowd (.type "object") = some true)
    (spg : PySem.W.specialIn K (.builtin "object.__class__") "__get__" = some (some (.builtin "getset_descriptor.__get__")))
    (tkc : PySem.W.takesIn K (.builtin "object.__class__") = some true)
    (xBadCrowd : K.lookup CBadCrowd = some (excClassObj nmBadCrowd qBadCrowd CBadCrowd NBadCrowd bsBadCrowd (.ref CMarksError :: [.type "ValueError", .type "Exception", .type "BaseException", .type "object"]) true snBadCrowd subBadCrowd abBadCrowd colBadCrowd ddBadCrowd m0BadCrowd m1BadCrowd m2BadCrowd m3BadCrowd m5BadCrowd "ValueError.__new__"))
    (ssBadCrowd : PySem.W.subIn K (.ref CBadCrowd) (.ref CBadCrowd) = some true)
    (saBadCrowd : PySem.W.findIn K (.ref CBadCrowd) "__setattr__" = some (some (.builtin "object.__setattr__")))
    (tyBadCrowd : PySem.W.typeIn K (.ref CBadCrowd) = some (.type "type"))
    (kkBadCrowd : PySem.W.keepIn K (.ref CBadCrowd) = true)
    (iBadCrowd : PySem.W.findIn K (.ref CBadCrowd) "__init__" = some (some (.ref fBadCrowdInit)))
    (tBadCrowd : PySem.W.typeIn K (.ref fBadCrowdInit) = some (.type "function"))
    (lBadCrowdInit : K.lookup fBadCrowdInit = some ⟨ocBadCrowdInit, odBadCrowdInit, .func (PySem.W.fnOf "__init__" "BadCrowd.__init__" (defArgs sBadCrowdInit) (defBody sBadCrowdInit) (defScope sBadCrowdInit) .none kVBadCrowdInit dcBadCrowdInit pmBadCrowdInit anBadCrowdInit cdBadCrowdInit ctBadCrowdInit), slBadCrowdInit⟩)
    (cBadCrowdInit : PySem.W.codeIn K cdBadCrowdInit "BadCrowd.__init__" = true)
    (kBadCrowdInit : PySem.W.keepIn K (.ref fBadCrowdInit) = true)
    (aTooMany : PySem.W.nsIn K mainGlobals "TooMany" = some (some (.ref CTooMany)))
    (gaTooMany : PySem.W.findIn K (.ref CTooMany) "__getattribute__" = some (some (.builtin "BaseException.__getattribute__")))
    (ggTooMany : PySem.W.findIn K (.ref CTooMany) "__getattr__" = some none)
    (exTooMany : PySem.W.subIn K (.ref CTooMany) (.type "BaseException") = some true)
    (hdTooMany : PySem.W.hasDictIn K CTooMany = true)
    (noTooMany : PySem.W.findIn K (.ref CTooMany) "most" = some none)
    (ccTooMany : PySem.W.findIn K (.ref CTooMany) "__class__" = some (some (.builtin "object.__class__")))
    (mrTooMany : PySem.W.mroIn K CTooMany (.type "object") = some true)
    (inTooMany : PySem.W.excInitIn K CTooMany [.type "OverflowError", .type "ArithmeticError", .type "Exception", .type "BaseException", .type "object"] "OverflowError.__new__" = true)
    (ovTooMany : PySem.W.excOver K CTooMany [.type "OverflowError", .type "ArithmeticError", .type "Exception", .type "BaseException", .type "object"] = true)
    (saTooMany : PySem.W.findIn K (.ref CTooMany) "__setattr__" = some (some (.builtin "object.__setattr__")))
    (tyTooMany : PySem.W.typeIn K (.ref CTooMany) = some (.type "type"))
    (kkTooMany : PySem.W.keepIn K (.ref CTooMany) = true)
    (iTooMany : PySem.W.findIn K (.ref CTooMany) "__init__" = some (some (.ref fTooManyInit)))
    (tTooMany : PySem.W.typeIn K (.ref fTooManyInit) = some (.type "function"))
    (lTooManyInit : K.lookup fTooManyInit = some ⟨ocTooManyInit, odTooManyInit, .func (PySem.W.fnOf "__init__" "TooMany.__init__" (defArgs sTooManyInit) (defBody sTooManyInit) (defScope sTooManyInit) .none kVTooManyInit dcTooManyInit pmTooManyInit anTooManyInit cdTooManyInit ctTooManyInit), slTooManyInit⟩)
    (cTooManyInit : PySem.W.codeIn K cdTooManyInit "TooMany.__init__" = true)
    (kTooManyInit : PySem.W.keepIn K (.ref fTooManyInit) = true)
    (ssTooMany : PySem.W.subIn K (.ref CTooMany) (.ref CTooMany) = some true)
    (agcd : PySem.W.nsIn K mainGlobals "gcd" = some (some (.builtin "math.gcd")))
    (aCrowd : PySem.W.nsIn K mainGlobals "Crowd" = some (some (.ref CCrowd)))
    (pgCrowd : PySem.W.plainGet K CCrowd Str.empty = true)
    (hdCrowd : PySem.W.hasDictIn K CCrowd = true)
    (poCrowd : PySem.W.plainOver K CCrowd = true)
    (saCrowd : PySem.W.findIn K (.ref CCrowd) "__setattr__" = some (some (.builtin "object.__setattr__")))
    (mkCrowd : PySem.W.makesIn K CCrowd = true)
    (kcCrowd : PySem.W.keepIn K (.ref CCrowd) = true)
    (ccCrowd : PySem.W.findIn K (.ref CCrowd) "__class__" = some (some (.builtin "object.__class__")))
    (mrCrowd : PySem.W.mroIn K CCrowd (.type "object") = some true)
    (kitCrowd : PySem.W.kitOne K (.ref CCrowd) (.ref CCrowd) = some true)
    (noCrowd_people : PySem.W.findIn K (.ref CCrowd) "_people" = some none)
    (noCrowdmost : PySem.W.findIn K (.ref CCrowd) "most" = some none)
    (mCrowdInit : PySem.W.findIn K (.ref CCrowd) "__init__" = some (some (.ref fCrowdInit)))
    (isfCrowdInit : PySem.W.isFn K (.ref fCrowdInit) = true)
    (lCrowdInit : K.lookup fCrowdInit = some ⟨ocCrowdInit, odCrowdInit, .func (PySem.W.fnOf "__init__" "Crowd.__init__" (defArgs sCrowdInit) (defBody sCrowdInit) (defScope sCrowdInit) .none kVCrowdInit dcCrowdInit pmCrowdInit anCrowdInit cdCrowdInit ctCrowdInit), slCrowdInit⟩)
    (cCrowdInit : PySem.W.codeIn K cdCrowdInit "Crowd.__init__" = true)
    (kCrowdInit : PySem.W.keepIn K (.ref fCrowdInit) = true)
    (mCrowdContains : PySem.W.findIn K (.ref CCrowd) "__contains__" = some (some (.ref fCrowdContains)))
    (isfCrowdContains : PySem.W.isFn K (.ref fCrowdContains) = true)
    (lCrowdContains : K.lookup fCrowdContains = some ⟨ocCrowdContains, odCrowdContains, .func (PySem.W.fnOf "__contains__" "Crowd.__contains__" (defArgs sCrowdContains) (defBody sCrowdContains) (defScope sCrowdContains) .none kVCrowdContains dcCrowdContains pmCrowdContains anCrowdContains cdCrowdContains ctCrowdContains), slCrowdContains⟩)
    (cCrowdContains : PySem.W.codeIn K cdCrowdContains "Crowd.__contains__" = true)
    (kCrowdContains : PySem.W.keepIn K (.ref fCrowdContains) = true)
    (mCrowdPairs : PySem.W.findIn K (.ref CCrowd) "pairs" = some (some (.ref fCrowdPairs)))
    (isfCrowdPairs : PySem.W.isFn K (.ref fCrowdPairs) = true)
    (lCrowdPairs : K.lookup fCrowdPairs = some ⟨ocCrowdPairs, odCrowdPairs, .func (PySem.W.fnOf "pairs" "Crowd.pairs" (defArgs sCrowdPairs) (defBody sCrowdPairs) (defScope sCrowdPairs) .none kVCrowdPairs dcCrowdPairs pmCrowdPairs anCrowdPairs cdCrowdPairs ctCrowdPairs), slCrowdPairs⟩)
    (cCrowdPairs : PySem.W.codeIn K cdCrowdPairs "Crowd.pairs" = true)
    (kCrowdPairs : PySem.W.keepIn K (.ref fCrowdPairs) = true)
    (mCrowdIsPair : PySem.W.findIn K (.ref CCrowd) "is_pair" = some (some (.ref fCrowdIsPair)))
    (isfCrowdIsPair : PySem.W.isFn K (.ref fCrowdIsPair) = true)
    (lCrowdIsPair : K.lookup fCrowdIsPair = some ⟨ocCrowdIsPair, odCrowdIsPair, .func (PySem.W.fnOf "is_pair" "Crowd.is_pair" (defArgs sCrowdIsPair) (defBody sCrowdIsPair) (defScope sCrowdIsPair) .none kVCrowdIsPair dcCrowdIsPair pmCrowdIsPair anCrowdIsPair cdCrowdIsPair ctCrowdIsPair), slCrowdIsPair⟩)
    (cCrowdIsPair : PySem.W.codeIn K cdCrowdIsPair "Crowd.is_pair" = true)
    (kCrowdIsPair : PySem.W.keepIn K (.ref fCrowdIsPair) = true)
    (mCrowdPeople : PySem.W.findIn K (.ref CCrowd) "people" = some (some (.ref pCrowdPeople)))
    (pgCrowdPeople : PySem.W.specialIn K (.ref pCrowdPeople) "__get__" = some (some (.builtin "property.__get__")))
    (ptCrowdPeople : PySem.W.takesIn K (.ref pCrowdPeople) = some true)
    (prCrowdPeople : PySem.W.recIn K pCrowdPeople "property" = some (.ref fCrowdPeople :: restCrowdPeople))
    (lCrowdPeople : K.lookup fCrowdPeople = some ⟨ocCrowdPeople, odCrowdPeople, .func (PySem.W.fnOf "people" "Crowd.people" (defArgs sCrowdPeople) (defBody sCrowdPeople) (defScope sCrowdPeople) .none kVCrowdPeople dcCrowdPeople pmCrowdPeople anCrowdPeople cdCrowdPeople ctCrowdPeople), slCrowdPeople⟩)
    (cCrowdPeople : PySem.W.codeIn K cdCrowdPeople "Crowd.people" = true)
    (kCrowdPeople : PySem.W.keepIn K (.ref fCrowdPeople) = true)
    (aPage : PySem.W.nsIn K mainGlobals "Page" = some (some (.ref CPage)))
    (pgPage : PySem.W.plainGet K CPage Str.empty = true)
    (hdPage : PySem.W.hasDictIn K CPage = true)
    (poPage : PySem.W.plainOver K CPage = true)
    (saPage : PySem.W.findIn K (.ref CPage) "__setattr__" = some (some (.builtin "object.__setattr__")))
    (mkPage : PySem.W.makesIn K CPage = true)
    (kcPage : PySem.W.keepIn K (.ref CPage) = true)
    (ccPage : PySem.W.findIn K (.ref CPage) "__class__" = some (some (.builtin "object.__class__")))
    (mrPage : PySem.W.mroIn K CPage (.type "object") = some true)
    (kitPage : PySem.W.kitOne K (.ref CPage) (.ref CPage) = some true)
    (noPagecrowd : PySem.W.findIn K (.ref CPage) "crowd" = some none)
    (noPage_marks : PySem.W.findIn K (.ref CPage) "_marks" = some none)
    (mPageInit : PySem.W.findIn K (.ref CPage) "__init__" = some (some (.ref fPageInit)))
    (isfPageInit : PySem.W.isFn K (.ref fPageInit) = true)
    (lPageInit : K.lookup fPageInit = some ⟨ocPageInit, odPageInit, .func (PySem.W.fnOf "__init__" "Page.__init__" (defArgs sPageInit) (defBody sPageInit) (defScope sPageInit) .none kVPageInit dcPageInit pmPageInit anPageInit cdPageInit ctPageInit), slPageInit⟩)
    (cPageInit : PySem.W.codeIn K cdPageInit "Page.__init__" = true)
    (kPageInit : PySem.W.keepIn K (.ref fPageInit) = true)
    (mPageMarks : PySem.W.findIn K (.ref CPage) "marks" = some (some (.ref pPageMarks)))
    (pgPageMarks : PySem.W.specialIn K (.ref pPageMarks) "__get__" = some (some (.builtin "property.__get__")))
    (ptPageMarks : PySem.W.takesIn K (.ref pPageMarks) = some true)
    (prPageMarks : PySem.W.recIn K pPageMarks "property" = some (.ref fPageMarks :: restPageMarks))
    (lPageMarks : K.lookup fPageMarks = some ⟨ocPageMarks, odPageMarks, .func (PySem.W.fnOf "marks" "Page.marks" (defArgs sPageMarks) (defBody sPageMarks) (defScope sPageMarks) .none kVPageMarks dcPageMarks pmPageMarks anPageMarks cdPageMarks ctPageMarks), slPageMarks⟩)
    (cPageMarks : PySem.W.codeIn K cdPageMarks "Page.marks" = true)
    (kPageMarks : PySem.W.keepIn K (.ref fPageMarks) = true)
    (z_len : PySem.W.nsIn K mainGlobals "len" = some none)
    (z_max : PySem.W.nsIn K mainGlobals "max" = some none)
    (z_min : PySem.W.nsIn K mainGlobals "min" = some none)
    (z_int : PySem.W.nsIn K mainGlobals "int" = some none)
    (z_range : PySem.W.nsIn K mainGlobals "range" = some none)
    (z_isinstance : PySem.W.nsIn K mainGlobals "isinstance" = some none)
    (z_str : PySem.W.nsIn K mainGlobals "str" = some none)
    (z_bool : PySem.W.nsIn K mainGlobals "bool" = some none)
    (z_list : PySem.W.nsIn K mainGlobals "list" = some none)
    (z_tuple : PySem.W.nsIn K mainGlobals "tuple" = some none)
    (z_set : PySem.W.nsIn K mainGlobals "set" = some none)
    (z_all : PySem.W.nsIn K mainGlobals "all" = some none)
    (z_dict : PySem.W.nsIn K mainGlobals "dict" = some none)
    (z_repr : PySem.W.nsIn K mainGlobals "repr" = some none)
    (z_sum : PySem.W.nsIn K mainGlobals "sum" = some none)
    (z_zip : PySem.W.nsIn K mainGlobals "zip" = some none)
    (z_LETTERS : PySem.W.nsIn K mainGlobals "LETTERS" = some (some (.str letters t_LETTERS)))
    (z_LONGEST : PySem.W.nsIn K mainGlobals "LONGEST" = some (some (.int 8 t_LONGEST)))
    (z_MOST_PEOPLE : PySem.W.nsIn K mainGlobals "MOST_PEOPLE" = some (some (.int 8 t_MOST_PEOPLE)))
    (z_GREATEST_MARK : PySem.W.nsIn K mainGlobals "GREATEST_MARK" = some (some (.int 10 t_GREATEST_MARK)))
    (z_MOST_PAGES : PySem.W.nsIn K mainGlobals "MOST_PAGES" = some (some (.int 4096 t_MOST_PAGES))) :
    ∃ fd : FuncData, (∀ (s : Shared) (u : Value), BindsTo s fd ⟨[u], []⟩ [("_law_script", u)]) ∧ ∀ b0 : Heap, K.In b0 → b0.Ns mainGlobals mg → FnOk l.prog w K mg b0 CX0 11 fa fd ["_law_script"] (spLaw K) := by
  have e := hfa.symm.trans (PySem.W.mg_of X G aLaw)
  cases e
  have B : Bt mg := ⟨PySem.W.mg_none_of X G z_len, PySem.W.mg_none_of X G z_max, PySem.W.mg_none_of X G z_min, PySem.W.mg_none_of X G z_int, PySem.W.mg_none_of X G z_range⟩
  have T : Tx mg := ⟨PySem.W.mg_none_of X G z_isinstance, PySem.W.mg_none_of X G z_str, PySem.W.mg_none_of X G z_bool, PySem.W.mg_none_of X G z_list, PySem.W.mg_none_of X G z_tuple, PySem.W.mg_none_of X G z_set, PySem.W.mg_none_of X G z_all, ⟨_, PySem.W.mg_of X G z_LETTERS⟩, ⟨_, PySem.W.mg_of X G z_LONGEST⟩, ⟨_, PySem.W.mg_of X G z_MOST_PEOPLE⟩, ⟨_, PySem.W.mg_of X G z_GREATEST_MARK⟩⟩
  have Z : Tp mg := ⟨PySem.W.mg_none_of X G z_dict, PySem.W.mg_none_of X G z_repr⟩
  have L : Lt mg := ⟨PySem.W.mg_none_of X G z_sum, PySem.W.mg_none_of X G z_max, PySem.W.mg_none_of X G z_list, PySem.W.mg_none_of X G z_tuple⟩
  have FIsInteger := fun_mk (st := sIsInteger) lIsInteger cIsInteger kIsInteger
  have FIsIntegerWithin := fun_mk (st := sIsIntegerWithin) lIsIntegerWithin cIsIntegerWithin kIsIntegerWithin
  have FIsWord := fun_mk (st := sIsWord) lIsWord cIsWord kIsWord
  have FLowestTerms := fun_mk (st := sLowestTerms) lLowestTerms cLowestTerms kLowestTerms
  have FIsLess := fun_mk (st := sIsLess) lIsLess cIsLess kIsLess
  have FPower := fun_mk (st := sPower) lPower cPower kPower
  have FAllTuples := fun_mk (st := sAllTuples) lAllTuples cAllTuples kAllTuples
  have FArePeople := fun_mk (st := sArePeople) lArePeople cArePeople kArePeople
  have FNeedCrowd := fun_mk (st := sNeedCrowd) lNeedCrowd cNeedCrowd kNeedCrowd
  have FIsMark := fun_mk (st := sIsMark) lIsMark cIsMark kIsMark
  have FIsMarkOrNone := fun_mk (st := sIsMarkOrNone) lIsMarkOrNone cIsMarkOrNone kIsMarkOrNone
  have FAreMarks := fun_mk (st := sAreMarks) lAreMarks cAreMarks kAreMarks
  have FListWinners := fun_mk (st := sListWinners) lListWinners cListWinners kListWinners
  have FPartingWinners := fun_mk (st := sPartingWinners) lPartingWinners cPartingWinners kPartingWinners
  have FHalfPrizes := fun_mk (st := sHalfPrizes) lHalfPrizes cHalfPrizes kHalfPrizes
  have FHalvesInAll := fun_mk (st := sHalvesInAll) lHalvesInAll cHalvesInAll kHalvesInAll
  have FSumsOfMarks := fun_mk (st := sSumsOfMarks) lSumsOfMarks cSumsOfMarks kSumsOfMarks
  have FWorthAndGreatest := fun_mk (st := sWorthAndGreatest) lWorthAndGreatest cWorthAndGreatest kWorthAndGreatest
  have FRatioOf := fun_mk (st := sRatioOf) lRatioOf cRatioOf kRatioOf
  have FWorstLot := fun_mk (st := sWorstLot) lWorstLot cWorstLot kWorstLot
  have FOpened := fun_mk (st := sOpened) lOpened cOpened kOpened
  have FDraw := fun_mk (st := sDraw) lDraw cDraw kDraw
  have FPairs := fun_mk (st := sPairs) lPairs cPairs kPairs
  have FLow := fun_mk (st := sLow) lLow cLow kLow
  have FAllRows := fun_mk (st := sAllRows) lAllRows cAllRows kAllRows
  have FAllPages := fun_mk (st := sAllPages) lAllPages cAllPages kAllPages
  have FDouble := fun_mk (st := sDouble) lDouble cDouble kDouble
  have FLawLot := fun_mk (st := sLawLot) lLawLot cLawLot kLawLot
  have FFirsts := fun_mk (st := sFirsts) lFirsts cFirsts kFirsts
  have FShares := fun_mk (st := sShares) lShares cShares kShares
  have FSums := fun_mk (st := sSums) lSums cSums kSums
  have FWorth := fun_mk (st := sWorth) lWorth cWorth kWorth
  have FRatio := fun_mk (st := sRatio) lRatio cRatio kRatio
  have FCrowdOf := fun_mk (st := sCrowdOf) lCrowdOf cCrowdOf kCrowdOf
  have FMany := fun_mk (st := sMany) lMany cMany kMany
  have FBadCrowdInit := fun_mk (st := sBadCrowdInit) lBadCrowdInit cBadCrowdInit kBadCrowdInit
  have FTooManyInit := fun_mk (st := sTooManyInit) lTooManyInit cTooManyInit kTooManyInit
  have FCrowdInit := fun_mk (st := sCrowdInit) lCrowdInit cCrowdInit kCrowdInit
  have FCrowdContains := fun_mk (st := sCrowdContains) lCrowdContains cCrowdContains kCrowdContains
  have FCrowdPairs := fun_mk (st := sCrowdPairs) lCrowdPairs cCrowdPairs kCrowdPairs
  have FCrowdIsPair := fun_mk (st := sCrowdIsPair) lCrowdIsPair cCrowdIsPair kCrowdIsPair
  have FCrowdPeople := fun_mk (st := sCrowdPeople) lCrowdPeople cCrowdPeople kCrowdPeople
  have FPageInit := fun_mk (st := sPageInit) lPageInit cPageInit kPageInit
  have FPageMarks := fun_mk (st := sPageMarks) lPageMarks cPageMarks kPageMarks
  have FNeedFewPages := fun_mk (st := sNeedFewPages) lNeedFewPages cNeedFewPages kNeedFewPages
  have FLaw := fun_mk (st := sLaw) lLaw cLaw kLaw
  have bIsInteger := FIsInteger.binds (ps := ["value"]) fun _ _ _ _ _ _ us hl => match us, hl with | [_], _ => rfl
  have bIsIntegerWithin := FIsIntegerWithin.binds (ps := ["value", "least", "most"]) fun _ _ _ _ _ _ us hl => match us, hl with | [_, _, _], _ => rfl
  have bIsWord := FIsWord.binds (ps := ["value"]) fun _ _ _ _ _ _ us hl => match us, hl with | [_], _ => rfl
  have bLowestTerms := FLowestTerms.binds (ps := ["top", "bottom"]) fun _ _ _ _ _ _ us hl => match us, hl with | [_, _], _ => rfl
  have bIsLess := FIsLess.binds (ps := ["one", "other"]) fun _ _ _ _ _ _ us hl => match us, hl with | [_, _], _ => rfl
  have bPower := FPower.binds (ps := ["base", "many"]) fun _ _ _ _ _ _ us hl => match us, hl with | [_, _], _ => rfl
  have bAllTuples := FAllTuples.binds (ps := ["most", "many"]) fun _ _ _ _ _ _ us hl => match us, hl with | [_, _], _ => rfl
  have bArePeople := FArePeople.binds (ps := ["value"]) fun _ _ _ _ _ _ us hl => match us, hl with | [_], _ => rfl
  have bNeedCrowd := FNeedCrowd.binds (ps := ["crowd"]) fun _ _ _ _ _ _ us hl => match us, hl with | [_], _ => rfl
  have bIsMark := FIsMark.binds (ps := ["crowd", "value"]) fun _ _ _ _ _ _ us hl => match us, hl with | [_, _], _ => rfl
  have bIsMarkOrNone := FIsMarkOrNone.binds (ps := ["crowd", "value"]) fun _ _ _ _ _ _ us hl => match us, hl with | [_, _], _ => rfl
  have bAreMarks := FAreMarks.binds (ps := ["crowd", "value"]) fun _ _ _ _ _ _ us hl => match us, hl with | [_, _], _ => rfl
  have bListWinners := FListWinners.binds (ps := ["marks", "members", "markers"]) fun _ _ _ _ _ _ us hl => match us, hl with | [_, _, _], _ => rfl
  have bPartingWinners := FPartingWinners.binds (ps := ["people", "marks", "first"]) fun _ _ _ _ _ _ us hl => match us, hl with | [_, _, _], _ => rfl
  have bHalfPrizes := FHalfPrizes.binds (ps := ["people", "marks"]) fun _ _ _ _ _ _ us hl => match us, hl with | [_, _], _ => rfl
  have bHalvesInAll := FHalvesInAll.binds (ps := ["people"]) fun _ _ _ _ _ _ us hl => match us, hl with | [_], _ => rfl
  have bSumsOfMarks := FSumsOfMarks.binds (ps := ["people", "marks"]) fun _ _ _ _ _ _ us hl => match us, hl with | [_, _], _ => rfl
  have bWorthAndGreatest := FWorthAndGreatest.binds (ps := ["people", "marks"]) fun _ _ _ _ _ _ us hl => match us, hl with | [_, _], _ => rfl
  have bRatioOf := FRatioOf.binds (ps := ["people", "marks"]) fun _ _ _ _ _ _ us hl => match us, hl with | [_, _], _ => rfl
  have bWorstLot := FWorstLot.binds (ps := ["crowd"]) fun _ _ _ _ _ _ us hl => match us, hl with | [_], _ => rfl
  have bOpened := FOpened.binds (ps := ["_law_script", "_law_k"]) fun _ _ _ _ _ _ us hl => match us, hl with | [_, _], _ => rfl
  have bDraw := FDraw.binds (ps := ["_law_pool", "_law_many_here"]) fun _ _ _ _ _ _ us hl => match us, hl with | [_, _], _ => rfl
  have bPairs := FPairs.binds (ps := ["_law_people"]) fun _ _ _ _ _ _ us hl => match us, hl with | [_], _ => rfl
  have bLow := FLow.binds (ps := ["_law_top", "_law_bottom"]) fun _ _ _ _ _ _ us hl => match us, hl with | [_, _], _ => rfl
  have bAllRows := FAllRows.binds (ps := ["_law_most", "_law_many_here"]) fun _ _ _ _ _ _ us hl => match us, hl with | [_, _], _ => rfl
  have bAllPages := FAllPages.binds (ps := ["_law_game"]) fun _ _ _ _ _ _ us hl => match us, hl with | [_], _ => rfl
  have bDouble := FDouble.binds (ps := ["_law_many_here"]) fun _ _ _ _ _ _ us hl => match us, hl with | [_], _ => rfl
  have bLawLot := FLawLot.binds (ps := ["_law_game", "_law_marks", "_law_first"]) fun _ _ _ _ _ _ us hl => match us, hl with | [_, _, _], _ => rfl
  have bFirsts := FFirsts.binds (ps := ["_law_people"]) fun _ _ _ _ _ _ us hl => match us, hl with | [_], _ => rfl
  have bShares := FShares.binds (ps := ["_law_game", "_law_marks"]) fun _ _ _ _ _ _ us hl => match us, hl with | [_, _], _ => rfl
  have bSums := FSums.binds (ps := ["_law_game", "_law_marks"]) fun _ _ _ _ _ _ us hl => match us, hl with | [_, _], _ => rfl
  have bWorth := FWorth.binds (ps := ["_law_game", "_law_marks"]) fun _ _ _ _ _ _ us hl => match us, hl with | [_, _], _ => rfl
  have bRatio := FRatio.binds (ps := ["_law_game", "_law_marks"]) fun _ _ _ _ _ _ us hl => match us, hl with | [_, _], _ => rfl
  have bCrowdOf := FCrowdOf.binds (ps := ["_law_pool", "_law_many_here", "_law_most"]) fun _ _ _ _ _ _ us hl => match us, hl with | [_, _, _], _ => rfl
  have bMany := FMany.binds (ps := ["_law_crowd"]) fun _ _ _ _ _ _ us hl => match us, hl with | [_], _ => rfl
  have bBadCrowdInit := FBadCrowdInit.binds (ps := ["self", "part"]) fun _ _ _ _ _ _ us hl => match us, hl with | [_, _], _ => rfl
  have bTooManyInit := FTooManyInit.binds (ps := ["self", "most"]) fun _ _ _ _ _ _ us hl => match us, hl with | [_, _], _ => rfl
  have bCrowdInit := FCrowdInit.binds (ps := ["self", "people", "most"]) fun _ _ _ _ _ _ us hl => match us, hl with | [_, _, _], _ => rfl
  have bCrowdContains := FCrowdContains.binds (ps := ["self", "x"]) fun _ _ _ _ _ _ us hl => match us, hl with | [_, _], _ => rfl
  have bCrowdPairs := FCrowdPairs.binds (ps := ["self"]) fun _ _ _ _ _ _ us hl => match us, hl with | [_], _ => rfl
  have bCrowdIsPair := FCrowdIsPair.binds (ps := ["self", "value"]) fun _ _ _ _ _ _ us hl => match us, hl with | [_, _], _ => rfl
  have bCrowdPeople := FCrowdPeople.binds (ps := ["self"]) fun _ _ _ _ _ _ us hl => match us, hl with | [_], _ => rfl
  have bPageInit := FPageInit.binds (ps := ["self", "crowd", "marks"]) fun _ _ _ _ _ _ us hl => match us, hl with | [_, _, _], _ => rfl
  have bPageMarks := FPageMarks.binds (ps := ["self"]) fun _ _ _ _ _ _ us hl => match us, hl with | [_], _ => rfl
  have bNeedFewPages := FNeedFewPages.binds (ps := ["crowd"]) fun _ _ _ _ _ _ us hl => match us, hl with | [_], _ => rfl
  have E_TooMany : Ef K mg "TooMany" "most" CTooMany := ⟨PySem.W.mg_of X G aTooMany, ⟨gaTooMany, ggTooMany, exTooMany, hdTooMany⟩, noTooMany⟩
  have EC_TooMany : EcC K CTooMany := ⟨⟨_, _, _, _, PySem.F.excBase_OverflowError, PySem.F.store_OverflowError, inTooMany, ovTooMany⟩, saTooMany, hdTooMany, exTooMany, tyTooMany, kkTooMany⟩
  have ER_BadCrowd : Er K mg "BadCrowd" CBadCrowd := ⟨PySem.W.mg_of X G aBadCrowd, ⟨⟨_, _, _, _, _, _, _, _, _, _, _, _, _, _, _, xBadCrowd, by show PySem.HandSPX.refsVE [.type "ValueError", .type "Exception", .type "BaseException", .type "object"] = true; decide +kernel⟩, saBadCrowd, exBadCrowd, tyBadCrowd, kkBadCrowd⟩, ⟨gaBadCrowd, ggBadCrowd, exBadCrowd, hdBadCrowd⟩, ⟨gaBadCrowd, ggBadCrowd, exBadCrowd, hdBadCrowd, ccBadCrowd, spg, tkc, mrBadCrowd⟩, PySem.W.exm_ref exBadCrowd hdBadCrowd tyBadCrowd ssBadCrowd⟩
  have clCrowd : Cls K CCrowd := ⟨pgCrowd, hdCrowd, poCrowd, saCrowd⟩
  have ioCrowd : IsOwn K CCrowd := ⟨clCrowd, ccCrowd, spg, tkc, mrCrowd⟩
  have MCrowd : Mk K CCrowd fCrowdInit := ⟨mkCrowd, mCrowdInit, isfCrowdInit, kcCrowd⟩
  have clPage : Cls K CPage := ⟨pgPage, hdPage, poPage, saPage⟩
  have ioPage : IsOwn K CPage := ⟨clPage, ccPage, spg, tkc, mrPage⟩
  have MPage : Mk K CPage fPageInit := ⟨mkPage, mPageInit, isfPageInit, kcPage⟩
  have ppCrowdPeople : PropOf K CCrowd "people" pCrowdPeople fCrowdPeople := ⟨mCrowdPeople, pgCrowdPeople, ptCrowdPeople, _, prCrowdPeople⟩
  have ppPageMarks : PropOf K CPage "marks" pPageMarks fPageMarks := ⟨mPageMarks, pgPageMarks, ptPageMarks, _, prPageMarks⟩
  have MCrowdPairs : Meth K CCrowd "pairs" fCrowdPairs := ⟨mCrowdPairs, isfCrowdPairs, kCrowdPairs⟩
  have MCrowdIsPair : Meth K CCrowd "is_pair" fCrowdIsPair := ⟨mCrowdIsPair, isfCrowdIsPair, kCrowdIsPair⟩
  refine ⟨PySem.W.fnOf "law" "law" (defArgs sLaw) (defBody sLaw) (defScope sLaw) .none kVLaw dcLaw pmLaw anLaw cdLaw ctLaw, fun s v => .of_eq rfl, fun b0 _ _ => ?_⟩
  have GA := ok_arePeople (P := l.prog) (w := w) (mg := mg) (base := b0) FArePeople FIsWord bIsWord (PySem.W.mg_of X G aIsWord) B T
  have GN := ok_within (P := l.prog) (w := w) (mg := mg) (base := b0) FIsIntegerWithin FIsInteger bIsInteger (PySem.W.mg_of X G aIsInteger) B T
  have GB := ok_badCrowdInit (P := l.prog) (w := w) (mg := mg) (base := b0) (C := CBadCrowd) FBadCrowdInit
  have GC := ok_crowdNew (P := l.prog) (w := w) (mg := mg) (base := b0) (C := CCrowd) FCrowdInit GA kArePeople bArePeople (PySem.W.mg_of X G aArePeople) GN kIsIntegerWithin bIsIntegerWithin (PySem.W.mg_of X G aIsIntegerWithin) GB bBadCrowdInit iBadCrowd tBadCrowd ER_BadCrowd noBadCrowd clCrowd noCrowd_people noCrowdmost T
  have GPe := ok_crowdPeople (P := l.prog) (w := w) (mg := mg) (base := b0) FCrowdPeople clCrowd noCrowd_people T
  have GHas := ok_crowdHas (P := l.prog) (w := w) (mg := mg) (base := b0) FCrowdContains clCrowd noCrowd_people T
  have GIs := ok_crowdIsPair (P := l.prog) (w := w) (mg := mg) (base := b0) FCrowdIsPair GHas mCrowdContains isfCrowdContains bCrowdContains B T
  have GPa := ok_crowdPairs (P := l.prog) (w := w) (mg := mg) (base := b0) FCrowdPairs clCrowd noCrowd_people
  have GLp := ok_lawPairs (P := l.prog) (w := w) (mg := mg) (base := b0) FPairs
  have GD := ok_draw (P := l.prog) (w := w) (mg := mg) (base := b0) FDraw B
  have GM := ok_isMark (P := l.prog) (w := w) (mg := mg) (base := b0) FIsMark GN kIsIntegerWithin bIsIntegerWithin (PySem.W.mg_of X G aIsIntegerWithin) clCrowd noCrowdmost
  have GMN := ok_isMarkN (P := l.prog) (w := w) (mg := mg) (base := b0) FIsMarkOrNone GM kIsMark bIsMark (PySem.W.mg_of X G aIsMark)
  have GAM := ok_areMarks (P := l.prog) (w := w) (mg := mg) (base := b0) FAreMarks GMN kIsMarkOrNone bIsMarkOrNone (PySem.W.mg_of X G aIsMarkOrNone) clCrowd MCrowdPairs GPa bCrowdPairs MCrowdIsPair GIs bCrowdIsPair B T Z
  have GNC := ok_needCrowd (P := l.prog) (w := w) (mg := mg) (base := b0) FNeedCrowd (PySem.W.mg_of X G aCrowd) kitCrowd ioCrowd T
  have GPI := ok_pageInit (P := l.prog) (w := w) (mg := mg) (base := b0) FPageInit GNC kNeedCrowd bNeedCrowd (PySem.W.mg_of X G aNeedCrowd) GAM kAreMarks bAreMarks (PySem.W.mg_of X G aAreMarks) clCrowd MCrowdPairs GPa bCrowdPairs clPage noPagecrowd noPage_marks
  have GPM := ok_pageMarks (P := l.prog) (w := w) (mg := mg) (base := b0) (C := CCrowd) FPageMarks clPage noPage_marks
  have GLi := ok_listWinners (P := l.prog) (w := w) (mg := mg) (base := b0) FListWinners L
  have GPW := ok_parting (P := l.prog) (w := w) (mg := mg) (base := b0) FPartingWinners GLi kListWinners bListWinners (PySem.W.mg_of X G aListWinners)
  have GLo := ok_lowest (P := l.prog) (w := w) (mg := mg) (base := b0) FLowestTerms (PySem.W.mg_of X G agcd)
  have GPo := ok_power (P := l.prog) (w := w) (mg := mg) (base := b0) FPower (PySem.W.mg_none_of X G z_range)
  have GAT := ok_tuples (P := l.prog) (w := w) (mg := mg) (base := b0) FAllTuples (PySem.W.mg_none_of X G z_range)
  have GHP := ok_halfPrizes (P := l.prog) (w := w) (mg := mg) (base := b0) FHalfPrizes GAT kAllTuples bAllTuples (PySem.W.mg_of X G aAllTuples) GPW kPartingWinners bPartingWinners (PySem.W.mg_of X G aPartingWinners) (PySem.W.mg_none_of X G z_len) (PySem.W.mg_none_of X G z_zip)
  have GHv := ok_halves (P := l.prog) (w := w) (mg := mg) (base := b0) FHalvesInAll GPo kPower bPower (PySem.W.mg_of X G aPower) (PySem.W.mg_none_of X G z_len)
  have GSO := ok_sumsOf (P := l.prog) (w := w) (mg := mg) (base := b0) FSumsOfMarks L
  have GWG := ok_worthG (P := l.prog) (w := w) (mg := mg) (base := b0) FWorthAndGreatest GSO kSumsOfMarks bSumsOfMarks (PySem.W.mg_of X G aSumsOfMarks) GHP kHalfPrizes bHalfPrizes (PySem.W.mg_of X G aHalfPrizes) GLo kLowestTerms bLowestTerms (PySem.W.mg_of X G aLowestTerms) GHv kHalvesInAll bHalvesInAll (PySem.W.mg_of X G aHalvesInAll) L
  have GRO := ok_ratioOf (P := l.prog) (w := w) (mg := mg) (base := b0) FRatioOf GWG kWorthAndGreatest bWorthAndGreatest (PySem.W.mg_of X G aWorthAndGreatest) GLo kLowestTerms bLowestTerms (PySem.W.mg_of X G aLowestTerms)
  have GLs := ok_isLess (P := l.prog) (w := w) (mg := mg) (base := b0) FIsLess
  have GTI := ok_TooManyInit (P := l.prog) (w := w) (mg := mg) (base := b0) (D := CTooMany) FTooManyInit
  have GFw := ok_needFew (P := l.prog) (w := w) (mg := mg) (base := b0) FNeedFewPages clCrowd noCrowdmost MCrowdPairs GPa bCrowdPairs GPo kPower bPower (PySem.W.mg_of X G aPower) EC_TooMany (PySem.W.mg_of X G aTooMany) noTooMany iTooMany tTooMany GTI bTooManyInit (PySem.W.mg_of X G z_MOST_PAGES) (PySem.W.mg_none_of X G z_len)
  have GW := ok_worst (P := l.prog) (w := w) (mg := mg) (base := b0) FWorstLot GNC kNeedCrowd bNeedCrowd (PySem.W.mg_of X G aNeedCrowd) clCrowd noCrowdmost ppCrowdPeople GPe bCrowdPeople MCrowdPairs GPa bCrowdPairs GFw kNeedFewPages bNeedFewPages (PySem.W.mg_of X G aNeedFewPages) GAT kAllTuples bAllTuples (PySem.W.mg_of X G aAllTuples) GRO kRatioOf bRatioOf (PySem.W.mg_of X G aRatioOf) GLs kIsLess bIsLess (PySem.W.mg_of X G aIsLess) MPage GPI (PySem.W.mg_of X G aPage) bPageInit (PySem.W.mg_none_of X G z_len) (PySem.W.mg_none_of X G z_zip)
  have GCo := ok_crowdOf (P := l.prog) (w := w) (mg := mg) (base := b0) FCrowdOf GD kDraw bDraw (PySem.W.mg_of X G aDraw) B
  have GFi := ok_firsts (P := l.prog) (w := w) (mg := mg) (base := b0) FFirsts
  have GLl := ok_lawLot (P := l.prog) (w := w) (mg := mg) (base := b0) FLawLot L
  have GLow := ok_low (P := l.prog) (w := w) (mg := mg) (base := b0) FLow B
  have GDb := ok_double (P := l.prog) (w := w) (mg := mg) (base := b0) FDouble (PySem.W.mg_none_of X G z_range)
  have GSh := ok_shares (P := l.prog) (w := w) (mg := mg) (base := b0) FShares GFi kFirsts bFirsts (PySem.W.mg_of X G aFirsts) GLl kLawLot bLawLot (PySem.W.mg_of X G aLawLot) GLow kLow bLow (PySem.W.mg_of X G aLow) GDb kDouble bDouble (PySem.W.mg_of X G aDouble) (PySem.W.mg_none_of X G z_dict) (PySem.W.mg_none_of X G z_len)
  have GSu := ok_sums (P := l.prog) (w := w) (mg := mg) (base := b0) FSums L
  have GLw := ok_lawWorth (P := l.prog) (w := w) (mg := mg) (base := b0) FWorth GSh kShares bShares (PySem.W.mg_of X G aShares) GSu kSums bSums (PySem.W.mg_of X G aSums) GLow kLow bLow (PySem.W.mg_of X G aLow) GDb kDouble bDouble (PySem.W.mg_of X G aDouble) L (PySem.W.mg_none_of X G z_len)
  have GLr := ok_lawRatio (P := l.prog) (w := w) (mg := mg) (base := b0) FRatio GLw kWorth bWorth (PySem.W.mg_of X G aWorth) GSu kSums bSums (PySem.W.mg_of X G aSums) GLow kLow bLow (PySem.W.mg_of X G aLow) L
  have GAR := ok_allRows (P := l.prog) (w := w) (mg := mg) (base := b0) FAllRows (PySem.W.mg_none_of X G z_range)
  have GAP := ok_allPages (P := l.prog) (w := w) (mg := mg) (base := b0) FAllPages GLp (PySem.W.mg_of X G aPairs) kPairs bPairs GAR kAllRows bAllRows (PySem.W.mg_of X G aAllRows) (PySem.W.mg_none_of X G z_dict) (PySem.W.mg_none_of X G z_list) (PySem.W.mg_none_of X G z_zip) (PySem.W.mg_none_of X G z_len)
  have exT : PySem.W.exmOne K (.ref CTooMany) (.ref CTooMany) = some true := PySem.W.exm_ref exTooMany hdTooMany tyTooMany ssTooMany
  have GMy := ok_many (P := l.prog) (w := w) (mg := mg) (base := b0) (CP := CPage) FMany GW kWorstLot bWorstLot (PySem.W.mg_of X G aWorstLot) (PySem.W.mg_of X G aTooMany) E_TooMany.xf noTooMany exT
  exact ok_law FLaw FOpened bOpened (PySem.W.mg_of X G aOpened) GCo kCrowdOf bCrowdOf (PySem.W.mg_of X G aCrowdOf) GW kWorstLot bWorstLot (PySem.W.mg_of X G aWorstLot) GAP kAllPages bAllPages (PySem.W.mg_of X G aAllPages) GLr kRatio bRatio (PySem.W.mg_of X G aRatio) GMy kMany bMany (PySem.W.mg_of X G aMany) GC MCrowd (PySem.W.mg_of X G aCrowd) bCrowdInit clPage noPagecrowd ppPageMarks GPM bPageMarks B
end K45
open PySem PySem.W PyProof.Rows in
set_option maxRecDepth 100000 in
set_option maxHeartbeats 0 in
theorem PySem.Challenge.cw_ownmarks_k45_whole_worst_lots_holds : PySem.Challenge.rw_ownmarks_k45_whole_worst_lots.Holds := by
  w_on; o_law; k_head; (case hw => w_witness2)
  k_fill
  refine L2.walk_ofK (l := PySem.Challenge.rw_ownmarks_k45_whole_worst_lots) (n := 63) (k := 11) (x := "_law_script") (CX := L2.CX0) (sp := K45.spLaw) rfl (by decide) rfl ⟨rfl, by decide, by decide⟩ (fun w h Y => by first | exact PySem.W.kIn_of Y | exact Y.1) ?F ?S (fun _ _ _ _ z => z)
  case F =>
    intro w mg fa h KX G hmg
    refine' K45.all_mk KX G hmg ?aIsInteger ?lIsInteger ?cIsInteger ?kIsInteger ?aIsIntegerWithin ?lIsIntegerWithin ?cIsIntegerWithin ?kIsIntegerWithin ?aIsWord ?lIsWord ?cIsWord ?kIsWord ?aLowestTerms ?lLowestTerms ?cLowestTerms ?kLowestTerms ?aIsLess ?lIsLess ?cIsLess ?kIsLess ?aPower ?lPower ?cPower ?kPower ?aAllTuples ?lAllTuples ?cAllTuples ?kAllTuples ?aArePeople ?lArePeople ?cArePeople ?kArePeople ?aNeedCrowd ?lNeedCrowd ?cNeedCrowd ?kNeedCrowd ?aIsMark ?lIsMark ?cIsMark ?kIsMark ?aIsMarkOrNone ?lIsMarkOrNone ?cIsMarkOrNone ?kIsMarkOrNone ?aAreMarks ?lAreMarks ?cAreMarks ?kAreMarks ?aListWinners ?lListWinners ?cListWinners ?kListWinners ?aPartingWinners ?lPartingWinners ?cPartingWinners ?kPartingWinners ?aHalfPrizes ?lHalfPrizes ?cHalfPrizes ?kHalfPrizes ?aHalvesInAll ?lHalvesInAll ?cHalvesInAll ?kHalvesInAll ?aSumsOfMarks ?lSumsOfMarks ?cSumsOfMarks ?kSumsOfMarks ?aWorthAndGreatest ?lWorthAndGreatest ?cWorthAndGreatest ?kWorthAndGreatest ?aRatioOf ?lRatioOf ?cRatioOf ?kRatioOf ?aWorstLot ?lWorstLot ?cWorstLot ?kWorstLot ?aOpened ?lOpened ?cOpened ?kOpened ?aDraw ?lDraw ?cDraw ?kDraw ?aPairs ?lPairs ?cPairs ?kPairs ?aLow ?lLow ?cLow ?kLow ?aAllRows ?lAllRows ?cAllRows ?kAllRows ?aAllPages ?lAllPages ?cAllPages ?kAllPages ?aDouble ?lDouble ?cDouble ?kDouble ?aLawLot ?lLawLot ?cLawLot ?kLawLot ?aFirsts ?lFirsts ?cFirsts ?kFirsts ?aShares ?lShares ?cShares ?kShares ?aSums ?lSums ?cSums ?kSums ?aWorth ?lWorth ?cWorth ?kWorth ?aRatio ?lRatio ?cRatio ?kRatio ?aCrowdOf ?lCrowdOf ?cCrowdOf ?kCrowdOf ?aMany ?lMany ?cMany ?kMany ?aLaw ?lLaw ?cLaw ?kLaw ?aNeedFewPages ?lNeedFewPages ?cNeedFewPages ?kNeedFewPages ?aMarksError ?aBadCrowd ?gaBadCrowd ?ggBadCrowd ?exBadCrowd ?hdBadCrowd ?noBadCrowd ?ccBadCrowd ?mrBadCrowd ?spg ?tkc ?xBadCrowd ?ssBadCrowd ?saBadCrowd ?tyBadCrowd ?kkBadCrowd ?iBadCrowd ?tBadCrowd ?lBadCrowdInit ?cBadCrowdInit ?kBadCrowdInit ?aTooMany ?gaTooMany ?ggTooMany ?exTooMany ?hdTooMany ?noTooMany ?ccTooMany ?mrTooMany ?inTooMany ?ovTooMany ?saTooMany ?tyTooMany ?kkTooMany ?iTooMany ?tTooMany ?lTooManyInit ?cTooManyInit ?kTooManyInit ?ssTooMany ?agcd ?aCrowd ?pgCrowd ?hdCrowd ?poCrowd ?saCrowd ?mkCrowd ?kcCrowd ?ccCrowd ?mrCrowd ?kitCrowd ?noCrowd_people ?noCrowdmost ?mCrowdInit ?isfCrowdInit ?lCrowdInit ?cCrowdInit ?kCrowdInit ?mCrowdContains ?isfCrowdContains ?lCrowdContains ?cCrowdContains ?kCrowdContains ?mCrowdPairs ?isfCrowdPairs ?lCrowdPairs ?cCrowdPairs ?kCrowdPairs ?mCrowdIsPair ?isfCrowdIsPair ?lCrowdIsPair ?cCrowdIsPair ?kCrowdIsPair ?mCrowdPeople ?pgCrowdPeople ?ptCrowdPeople ?prCrowdPeople ?lCrowdPeople ?cCrowdPeople ?kCrowdPeople ?aPage ?pgPage ?hdPage ?poPage ?saPage ?mkPage ?kcPage ?ccPage ?mrPage ?kitPage ?noPagecrowd ?noPage_marks ?mPageInit ?isfPageInit ?lPageInit ?cPageInit ?kPageInit ?mPageMarks ?pgPageMarks ?ptPageMarks ?prPageMarks ?lPageMarks ?cPageMarks ?kPageMarks ?z_len ?z_max ?z_min ?z_int ?z_range ?z_isinstance ?z_str ?z_bool ?z_list ?z_tuple ?z_set ?z_all ?z_dict ?z_repr ?z_sum ?z_zip ?z_LETTERS ?z_LONGEST ?z_MOST_PEOPLE ?z_GREATEST_MARK ?z_MOST_PAGES
    (case aIsInteger => first | k_is | k_exc | rfl)
    (case lIsInteger => first | k_is | k_exc | rfl)
    (case cIsInteger => first | k_is | k_exc | rfl)
    (case kIsInteger => first | k_is | k_exc | rfl)
    (case aIsIntegerWithin => first | k_is | k_exc | rfl)
    (case lIsIntegerWithin => first | k_is | k_exc | rfl)
    (case cIsIntegerWithin => first | k_is | k_exc | rfl)
    (case kIsIntegerWithin => first | k_is | k_exc | rfl)
    (case aIsWord => first | k_is | k_exc | rfl)
    (case lIsWord => first | k_is | k_exc | rfl)
    (case cIsWord => first | k_is | k_exc | rfl)
    (case kIsWord => first | k_is | k_exc | rfl)
    (case aLowestTerms => first | k_is | k_exc | rfl)
    (case lLowestTerms => first | k_is | k_exc | rfl)
    (case cLowestTerms => first | k_is | k_exc | rfl)
    (case kLowestTerms => first | k_is | k_exc | rfl)
    (case aIsLess => first | k_is | k_exc | rfl)
    (case lIsLess => first | k_is | k_exc | rfl)
    (case cIsLess => first | k_is | k_exc | rfl)
    (case kIsLess => first | k_is | k_exc | rfl)
    (case aPower => first | k_is | k_exc | rfl)
    (case lPower => first | k_is | k_exc | rfl)
    (case cPower => first | k_is | k_exc | rfl)
    (case kPower => first | k_is | k_exc | rfl)
    (case aAllTuples => first | k_is | k_exc | rfl)
    (case lAllTuples => first | k_is | k_exc | rfl)
    (case cAllTuples => first | k_is | k_exc | rfl)
    (case kAllTuples => first | k_is | k_exc | rfl)
    (case aArePeople => first | k_is | k_exc | rfl)
    (case lArePeople => first | k_is | k_exc | rfl)
    (case cArePeople => first | k_is | k_exc | rfl)
    (case kArePeople => first | k_is | k_exc | rfl)
    (case aNeedCrowd => first | k_is | k_exc | rfl)
    (case lNeedCrowd => first | k_is | k_exc | rfl)
    (case cNeedCrowd => first | k_is | k_exc | rfl)
    (case kNeedCrowd => first | k_is | k_exc | rfl)
    (case aIsMark => first | k_is | k_exc | rfl)
    (case lIsMark => first | k_is | k_exc | rfl)
    (case cIsMark => first | k_is | k_exc | rfl)
    (case kIsMark => first | k_is | k_exc | rfl)
    (case aIsMarkOrNone => first | k_is | k_exc | rfl)
    (case lIsMarkOrNone => first | k_is | k_exc | rfl)
    (case cIsMarkOrNone => first | k_is | k_exc | rfl)
    (case kIsMarkOrNone => first | k_is | k_exc | rfl)
    (case aAreMarks => first | k_is | k_exc | rfl)
    (case lAreMarks => first | k_is | k_exc | rfl)
    (case cAreMarks => first | k_is | k_exc | rfl)
    (case kAreMarks => first | k_is | k_exc | rfl)
    (case aListWinners => first | k_is | k_exc | rfl)
    (case lListWinners => first | k_is | k_exc | rfl)
    (case cListWinners => first | k_is | k_exc | rfl)
    (case kListWinners => first | k_is | k_exc | rfl)
    (case aPartingWinners => first | k_is | k_exc | rfl)
    (case lPartingWinners => first | k_is | k_exc | rfl)
    (case cPartingWinners => first | k_is | k_exc | rfl)
    (case kPartingWinners => first | k_is | k_exc | rfl)
    (case aHalfPrizes => first | k_is | k_exc | rfl)
    (case lHalfPrizes => first | k_is | k_exc | rfl)
    (case cHalfPrizes => first | k_is | k_exc | rfl)
    (case kHalfPrizes => first | k_is | k_exc | rfl)
    (case aHalvesInAll => first | k_is | k_exc | rfl)
    (case lHalvesInAll => first | k_is | k_exc | rfl)
    (case cHalvesInAll => first | k_is | k_exc | rfl)
    (case kHalvesInAll => first | k_is | k_exc | rfl)
    (case aSumsOfMarks => first | k_is | k_exc | rfl)
    (case lSumsOfMarks => first | k_is | k_exc | rfl)
    (case cSumsOfMarks => first | k_is | k_exc | rfl)
    (case kSumsOfMarks => first | k_is | k_exc | rfl)
    (case aWorthAndGreatest => first | k_is | k_exc | rfl)
    (case lWorthAndGreatest => first | k_is | k_exc | rfl)
    (case cWorthAndGreatest => first | k_is | k_exc | rfl)
    (case kWorthAndGreatest => first | k_is | k_exc | rfl)
    (case aRatioOf => first | k_is | k_exc | rfl)
    (case lRatioOf => first | k_is | k_exc | rfl)
    (case cRatioOf => first | k_is | k_exc | rfl)
    (case kRatioOf => first | k_is | k_exc | rfl)
    (case aWorstLot => first | k_is | k_exc | rfl)
    (case lWorstLot => first | k_is | k_exc | rfl)
    (case cWorstLot => first | k_is | k_exc | rfl)
    (case kWorstLot => first | k_is | k_exc | rfl)
    (case aOpened => first | k_is | k_exc | rfl)
    (case lOpened => first | k_is | k_exc | rfl)
    (case cOpened => first | k_is | k_exc | rfl)
    (case kOpened => first | k_is | k_exc | rfl)
    (case aDraw => first | k_is | k_exc | rfl)
    (case lDraw => first | k_is | k_exc | rfl)
    (case cDraw => first | k_is | k_exc | rfl)
    (case kDraw => first | k_is | k_exc | rfl)
    (case aPairs => first | k_is | k_exc | rfl)
    (case lPairs => first | k_is | k_exc | rfl)
    (case cPairs => first | k_is | k_exc | rfl)
    (case kPairs => first | k_is | k_exc | rfl)
    (case aLow => first | k_is | k_exc | rfl)
    (case lLow => first | k_is | k_exc | rfl)
    (case cLow => first | k_is | k_exc | rfl)
    (case kLow => first | k_is | k_exc | rfl)
    (case aAllRows => first | k_is | k_exc | rfl)
    (case lAllRows => first | k_is | k_exc | rfl)
    (case cAllRows => first | k_is | k_exc | rfl)
    (case kAllRows => first | k_is | k_exc | rfl)
    (case aAllPages => first | k_is | k_exc | rfl)
    (case lAllPages => first | k_is | k_exc | rfl)
    (case cAllPages => first | k_is | k_exc | rfl)
    (case kAllPages => first | k_is | k_exc | rfl)
    (case aDouble => first | k_is | k_exc | rfl)
    (case lDouble => first | k_is | k_exc | rfl)
    (case cDouble => first | k_is | k_exc | rfl)
    (case kDouble => first | k_is | k_exc | rfl)
    (case aLawLot => first | k_is | k_exc | rfl)
    (case lLawLot => first | k_is | k_exc | rfl)
    (case cLawLot => first | k_is | k_exc | rfl)
    (case kLawLot => first | k_is | k_exc | rfl)
    (case aFirsts => first | k_is | k_exc | rfl)
    (case lFirsts => first | k_is | k_exc | rfl)
    (case cFirsts => first | k_is | k_exc | rfl)
    (case kFirsts => first | k_is | k_exc | rfl)
    (case aShares => first | k_is | k_exc | rfl)
    (case lShares => first | k_is | k_exc | rfl)
    (case cShares => first | k_is | k_exc | rfl)
    (case kShares => first | k_is | k_exc | rfl)
    (case aSums => first | k_is | k_exc | rfl)
    (case lSums => first | k_is | k_exc | rfl)
    (case cSums => first | k_is | k_exc | rfl)
    (case kSums => first | k_is | k_exc | rfl)
    (case aWorth => first | k_is | k_exc | rfl)
    (case lWorth => first | k_is | k_exc | rfl)
    (case cWorth => first | k_is | k_exc | rfl)
    (case kWorth => first | k_is | k_exc | rfl)
    (case aRatio => first | k_is | k_exc | rfl)
    (case lRatio => first | k_is | k_exc | rfl)
    (case cRatio => first | k_is | k_exc | rfl)
    (case kRatio => first | k_is | k_exc | rfl)
    (case aCrowdOf => first | k_is | k_exc | rfl)
    (case lCrowdOf => first | k_is | k_exc | rfl)
    (case cCrowdOf => first | k_is | k_exc | rfl)
    (case kCrowdOf => first | k_is | k_exc | rfl)
    (case aMany => first | k_is | k_exc | rfl)
    (case lMany => first | k_is | k_exc | rfl)
    (case cMany => first | k_is | k_exc | rfl)
    (case kMany => first | k_is | k_exc | rfl)
    (case aLaw => first | k_is | k_exc | rfl)
    (case lLaw => first | k_is | k_exc | rfl)
    (case cLaw => first | k_is | k_exc | rfl)
    (case kLaw => first | k_is | k_exc | rfl)
    (case aNeedFewPages => first | k_is | k_exc | rfl)
    (case lNeedFewPages => first | k_is | k_exc | rfl)
    (case cNeedFewPages => first | k_is | k_exc | rfl)
    (case kNeedFewPages => first | k_is | k_exc | rfl)
    (case aMarksError => first | k_is | k_exc | rfl)
    (case aBadCrowd => first | k_is | k_exc | rfl)
    (case gaBadCrowd => first | k_is | k_exc | rfl)
    (case ggBadCrowd => first | k_is | k_exc | rfl)
    (case exBadCrowd => first | k_is | k_exc | rfl)
    (case hdBadCrowd => first | k_is | k_exc | rfl)
    (case noBadCrowd => first | k_is | k_exc | rfl)
    (case ccBadCrowd => first | k_is | k_exc | rfl)
    (case mrBadCrowd => first | k_is | k_exc | rfl)
    (case spg => first | k_is | k_exc | rfl)
    (case tkc => first | k_is | k_exc | rfl)
    (case xBadCrowd => first | k_is | k_exc | rfl)
    (case ssBadCrowd => first | k_is | k_exc | rfl)
    (case saBadCrowd => first | k_is | k_exc | rfl)
    (case tyBadCrowd => first | k_is | k_exc | rfl)
    (case kkBadCrowd => first | k_is | k_exc | rfl)
    (case iBadCrowd => first | k_is | k_exc | rfl)
    (case tBadCrowd => first | k_is | k_exc | rfl)
    (case lBadCrowdInit => first | k_is | k_exc | rfl)
    (case cBadCrowdInit => first | k_is | k_exc | rfl)
    (case kBadCrowdInit => first | k_is | k_exc | rfl)
    (case aTooMany => first | k_is | k_exc | rfl)
    (case gaTooMany => first | k_is | k_exc | rfl)
    (case ggTooMany => first | k_is | k_exc | rfl)
    (case exTooMany => first | k_is | k_exc | rfl)
    (case hdTooMany => first | k_is | k_exc | rfl)
    (case noTooMany => first | k_is | k_exc | rfl)
    (case ccTooMany => first | k_is | k_exc | rfl)
    (case mrTooMany => first | k_is | k_exc | rfl)
    (case inTooMany => first | k_is | k_exc | rfl)
    (case ovTooMany => first | k_is | k_exc | rfl)
    (case saTooMany => first | k_is | k_exc | rfl)
    (case tyTooMany => first | k_is | k_exc | rfl)
    (case kkTooMany => first | k_is | k_exc | rfl)
    (case iTooMany => first | k_is | k_exc | rfl)
    (case tTooMany => first | k_is | k_exc | rfl)
    (case lTooManyInit => first | k_is | k_exc | rfl)
    (case cTooManyInit => first | k_is | k_exc | rfl)
    (case kTooManyInit => first | k_is | k_exc | rfl)
    (case ssTooMany => first | k_is | k_exc | rfl)
    (case agcd => first | k_is | k_exc | rfl)
    (case aCrowd => first | k_is | k_exc | rfl)
    (case pgCrowd => first | k_is | k_exc | rfl)
    (case hdCrowd => first | k_is | k_exc | rfl)
    (case poCrowd => first | k_is | k_exc | rfl)
    (case saCrowd => first | k_is | k_exc | rfl)
    (case mkCrowd => first | k_is | k_exc | rfl)
    (case kcCrowd => first | k_is | k_exc | rfl)
    (case ccCrowd => first | k_is | k_exc | rfl)
    (case mrCrowd => first | k_is | k_exc | rfl)
    (case kitCrowd => first | k_is | k_exc | rfl)
    (case noCrowd_people => first | k_is | k_exc | rfl)
    (case noCrowdmost => first | k_is | k_exc | rfl)
    (case mCrowdInit => first | k_is | k_exc | rfl)
    (case isfCrowdInit => first | k_is | k_exc | rfl)
    (case lCrowdInit => first | k_is | k_exc | rfl)
    (case cCrowdInit => first | k_is | k_exc | rfl)
    (case kCrowdInit => first | k_is | k_exc | rfl)
    (case mCrowdContains => first | k_is | k_exc | rfl)
    (case isfCrowdContains => first | k_is | k_exc | rfl)
    (case lCrowdContains => first | k_is | k_exc | rfl)
    (case cCrowdContains => first | k_is | k_exc | rfl)
    (case kCrowdContains => first | k_is | k_exc | rfl)
    (case mCrowdPairs => first | k_is | k_exc | rfl)
    (case isfCrowdPairs => first | k_is | k_exc | rfl)
    (case lCrowdPairs => first | k_is | k_exc | rfl)
    (case cCrowdPairs => first | k_is | k_exc | rfl)
    (case kCrowdPairs => first | k_is | k_exc | rfl)
    (case mCrowdIsPair => first | k_is | k_exc | rfl)
    (case isfCrowdIsPair => first | k_is | k_exc | rfl)
    (case lCrowdIsPair => first | k_is | k_exc | rfl)
    (case cCrowdIsPair => first | k_is | k_exc | rfl)
    (case kCrowdIsPair => first | k_is | k_exc | rfl)
    (case mCrowdPeople => first | k_is | k_exc | rfl)
    (case pgCrowdPeople => first | k_is | k_exc | rfl)
    (case ptCrowdPeople => first | k_is | k_exc | rfl)
    (case prCrowdPeople => first | k_is | k_exc | rfl)
    (case lCrowdPeople => first | k_is | k_exc | rfl)
    (case cCrowdPeople => first | k_is | k_exc | rfl)
    (case kCrowdPeople => first | k_is | k_exc | rfl)
    (case aPage => first | k_is | k_exc | rfl)
    (case pgPage => first | k_is | k_exc | rfl)
    (case hdPage => first | k_is | k_exc | rfl)
    (case poPage => first | k_is | k_exc | rfl)
    (case saPage => first | k_is | k_exc | rfl)
    (case mkPage => first | k_is | k_exc | rfl)
    (case kcPage => first | k_is | k_exc | rfl)
    (case ccPage => first | k_is | k_exc | rfl)
    (case mrPage => first | k_is | k_exc | rfl)
    (case kitPage => first | k_is | k_exc | rfl)
    (case noPagecrowd => first | k_is | k_exc | rfl)
    (case noPage_marks => first | k_is | k_exc | rfl)
    (case mPageInit => first | k_is | k_exc | rfl)
    (case isfPageInit => first | k_is | k_exc | rfl)
    (case lPageInit => first | k_is | k_exc | rfl)
    (case cPageInit => first | k_is | k_exc | rfl)
    (case kPageInit => first | k_is | k_exc | rfl)
    (case mPageMarks => first | k_is | k_exc | rfl)
    (case pgPageMarks => first | k_is | k_exc | rfl)
    (case ptPageMarks => first | k_is | k_exc | rfl)
    (case prPageMarks => first | k_is | k_exc | rfl)
    (case lPageMarks => first | k_is | k_exc | rfl)
    (case cPageMarks => first | k_is | k_exc | rfl)
    (case kPageMarks => first | k_is | k_exc | rfl)
    (case z_len => first | k_is | k_exc | rfl)
    (case z_max => first | k_is | k_exc | rfl)
    (case z_min => first | k_is | k_exc | rfl)
    (case z_int => first | k_is | k_exc | rfl)
    (case z_range => first | k_is | k_exc | rfl)
    (case z_isinstance => first | k_is | k_exc | rfl)
    (case z_str => first | k_is | k_exc | rfl)
    (case z_bool => first | k_is | k_exc | rfl)
    (case z_list => first | k_is | k_exc | rfl)
    (case z_tuple => first | k_is | k_exc | rfl)
    (case z_set => first | k_is | k_exc | rfl)
    (case z_all => first | k_is | k_exc | rfl)
    (case z_dict => first | k_is | k_exc | rfl)
    (case z_repr => first | k_is | k_exc | rfl)
    (case z_sum => first | k_is | k_exc | rfl)
    (case z_zip => first | k_is | k_exc | rfl)
    (case z_LETTERS => first | k_is | k_exc | rfl)
    (case z_LONGEST => first | k_is | k_exc | rfl)
    (case z_MOST_PEOPLE => first | k_is | k_exc | rfl)
    (case z_GREATEST_MARK => first | k_is | k_exc | rfl)
    (case z_MOST_PAGES => first | k_is | k_exc | rfl)
  case S =>
    intro K H a ns hl _ hS
    exact ⟨a, ns, rfl, hS, hl, fun _ => rfl⟩

