import PyProof.Rows.All
import Wide.All
import OpenK.AllK
import Wide.FinOn
import HandS.ForMost
import HandS.IsInst
import HandS.Style
import HandS.Wide
import HandS.WideMore
import HandS.Zip
import HandS.Flow
import HandS.SetFor
import HandS.Strs
import HandS.SortInts
import HandS.ExcInit
import HandS.ExcField
import HandS.ExcIs
import HandS.ExcValue
import HandS.WordsExc
import HandS.NoneIn
import HandS.Conv
import HandS.TupMul
import HandS.TupAny
import HandS.Dict
import KE.KExcIs
import KE.GoesMore
import PyProof.Draws
import PySem.Challenge.RW_turnsums_k12_exact_worths_multiplied
set_option Elab.async false
set_option linter.all false
set_option maxRecDepth 100000
set_option maxHeartbeats 4000000
namespace My
open PySem L2
def top (i : Nat) : Stmt := PySem.Challenge.pw_turnsums_k12_exact_worths_multiplied.main.body.getD i (.Pass ⟨0, 0, 0, 0⟩)
/-- a def of the text: where it stands, how it is called -/
structure Df (K : PySem.W.Frag) (mg : Str → Option Value) (x : Str) (st : Stmt) (ps : List Str) (f : Addr) (fd : FuncData) : Prop where
  F : Fun K x x st f fd
  b : Binds K fd ps []
  g : mg x = some (.ref f)
/-! heaps: all but the box stays -/
theorem same_upd {H H' : Hp} {p : Addr} {o : HO} (h : Same H H') (n : H' p = none) : Same H (upd H' p o) := fun b x e => by
  rw [upd_ne (ne_of_none (h b x e) n)]
  exact h b x e
theorem same_new {H : Hp} {p : Addr} {o : HO} (n : H p = none) : Same H (upd H p o) := same_upd (Same.refl H) n
theorem same_mut {H H' : Hp} {p : Addr} {o : HO} (h : Same H H') (n : H p = none) : Same H (upd H' p o) := fun b x e => by
  rw [upd_ne (ne_of_none e n)]
  exact h b x e
theorem same_t {K : PySem.W.Frag} {H H' : Hp} {a : Addr} {xs : List V} (e : Same H H') (h : SqT K H a xs) : SqT K H' a xs := by
  rcases h with (h | ⟨o, h⟩) | h
  · exact .inl (.inl (e _ _ h))
  · exact .inl (.inr ⟨o, e _ _ h⟩)
  · exact .inr h
def Keep (b : Addr) (H H' : Hp) : Prop := ∀ a o, a ≠ b → H a = some o → H' a = some o
theorem Keep.refl (b : Addr) (H : Hp) : Keep b H H := fun _ _ _ h => h
theorem Keep.trans {b : Addr} {H H1 H2 : Hp} (a : Keep b H H1) (c : Keep b H1 H2) : Keep b H H2 := fun x o n h => c x o n (a x o n h)
theorem keepS {b : Addr} {H H' : Hp} (h : Same H H') : Keep b H H' := fun x o _ e => h x o e
theorem keep_same {b : Addr} {H0 H H' : Hp} (a : Same H0 H) (n : H0 b = none) (k : Keep b H H') : Same H0 H' := fun x o e => k x o (ne_of_none e n) (a x o e)
theorem keep_upd {b : Addr} {H H' : Hp} {o : HO} (h : Keep b H H') : Keep b H (upd H' b o) := fun a u n e => by
  rw [upd_ne n]
  exact h a u n e
theorem keep_new {b p : Addr} {H H' : Hp} {o : HO} (h : Keep b H H') (n : H' p = none) : Keep b H (upd H' p o) := fun a u na e => by
  rw [upd_ne (ne_of_none (h a u na e) n)]
  exact h a u na e
theorem Keep.seq {K : PySem.W.Frag} {b a : Addr} {H H' : Hp} {xs : List V} (e : Keep b H H') (n : a ≠ b) (h : SqL K H a xs) : SqL K H' a xs := by
  rcases h with (h | ⟨o, h⟩) | h
  · exact .inl (.inl (e _ _ n h))
  · exact .inl (.inr ⟨o, e _ _ n h⟩)
  · exact .inr h
def BoxAt (H : Hp) (b : Addr) (n : Int) : Prop := ∃ x y z : Int, H b = some (.lst [.int x, .int y, .int z]) ∧ 0 ≤ x ∧ 0 ≤ y ∧ y ≤ 4294967296 ∧ 0 ≤ z ∧ z ≤ n
theorem BoxAt.mono {H : Hp} {b : Addr} {n m : Int} (h : BoxAt H b n) (e : n ≤ m) : BoxAt H b m := by
  obtain ⟨x, y, z, a1, a2, a3, a4, a5, a6⟩ := h
  exact ⟨x, y, z, a1, a2, a3, a4, a5, by omega⟩
theorem BoxAt.same {H H' : Hp} {b : Addr} {n : Int} (h : BoxAt H b n) (e : Same H H') : BoxAt H' b n := by
  obtain ⟨x, y, z, a1, a2⟩ := h
  exact ⟨x, y, z, e _ _ a1, a2⟩
theorem BoxAt.some {H : Hp} {b : Addr} {n : Int} (h : BoxAt H b n) : ∃ o, H b = some o := by
  obtain ⟨x, y, z, a1, a2⟩ := h
  exact ⟨_, a1⟩
theorem BoxAt.ne {H : Hp} {b p : Addr} {n : Int} (h : BoxAt H b n) (e : H p = none) : p ≠ b := by
  obtain ⟨o, h⟩ := h.some
  exact (ne_of_none h e).symm
theorem szl {n : Nat} (h : n ≤ 60000) : n ≤ sizeLine := Nat.le_trans h (by decide)
theorem szm {n : Nat} (h : n ≤ 60000) : n < sizeLine := Nat.lt_of_le_of_lt h (by decide)
theorem pw6 : (10 : Int) ^ Int.toNat 6 = 1000000 := by decide
theorem pw9 : (10 : Int) ^ Int.toNat 9 = 1000000000 := by decide
theorem newO {H H' : Hp} {p : Addr} {o : HO} (e : upd H p o = H') (hp : H p = none) : Same H H' ∧ H' p = some o := by
  subst e
  exact ⟨same_new hp, upd_same⟩
theorem mutO {H H' : Hp} {p : Addr} {o : HO} (e : upd H p o = H') : Keep p H H' ∧ H' p = some o := by
  subst e
  exact ⟨keep_upd (Keep.refl _ _), upd_same⟩
/-- a word of ours that the walk must not open -/
inductive Hold (p : Prop) : Prop
  | mk : p → Hold p
theorem Hold.un {p : Prop} (h : Hold p) : p := by
  cases h with
  | mk h => exact h
theorem holdN {W : Nat → L2.St → Hp → Prop} {m : Nat} : ∀ (σ' : L2.St) (H' : Hp), Hold (∃ m', m' < m ∧ W m' σ' H') → ∃ m', m' < m ∧ W m' σ' H' := fun _ _ h => h.un
theorem ite_dec {c A B : Prop} [Decidable c] (hc : c) (h : A) : if decide c = true then A else B := by
  rw [decide_eq_true hc]
  exact iteT h
def rLenQ (K : PySem.W.Frag) : List V → Hp → VK → Prop := fun xs H Q => ∃ p ys, xs = [.ref p] ∧ (SqL K H p ys ∨ SqT K H p ys) ∧ Q (.int ys.length) H
theorem iteTe {b : Bool} {A B : Prop} (e : b = true) (h : A) : if b = true then A else B := by
  rw [if_pos e]
  exact h
theorem iteFe {b : Bool} {A B : Prop} (e : b = false) (h : B) : if b = true then A else B := by
  rw [e]
  exact iteF h
theorem cmul_b {i : Int} {b : Bool} : CMul i (if b then 1 else 0) := by
  refine .inr ?_
  cases b <;> exact ⟨by decide, by decide⟩
theorem at_ints {ns : List Int} {k : Int} (h0 : 0 ≤ k) (h : k < (ns.length : Int)) : ∃ c, c ∈ ns ∧ atI (ns.map V.int) k = some (.int c) := by
  have hk : k.toNat < ns.length := by omega
  refine ⟨ns[k.toNat], List.getElem_mem hk, at_of (j := k.toNat) (by omega) ?_⟩
  rw [List.getElem?_map, List.getElem?_eq_getElem hk]
  rfl
theorem at_some {xs : List V} {k : Int} (h0 : 0 ≤ k) (h : k < (xs.length : Int)) : ∃ v, v ∈ xs ∧ atI xs k = some v := by
  have hk : k.toNat < xs.length := by omega
  exact ⟨xs[k.toNat], List.getElem_mem hk, at_of (j := k.toNat) (by omega) (List.getElem?_eq_getElem hk)⟩
theorem int_mem {ns : List Int} {v : V} (h : v ∈ ns.map V.int) : ∃ c, c ∈ ns ∧ v = .int c := by
  obtain ⟨c, hc, e⟩ := List.mem_map.mp h
  exact ⟨c, hc, e.symm⟩
structure Blt (mg : Str → Option Value) : Prop where
  b_ValueError : mg "ValueError" = none
  b_abs : mg "abs" = none
  b_all : mg "all" = none
  b_any : mg "any" = none
  b_bool : mg "bool" = none
  b_enumerate : mg "enumerate" = none
  b_int : mg "int" = none
  b_isinstance : mg "isinstance" = none
  b_len : mg "len" = none
  b_list : mg "list" = none
  b_max : mg "max" = none
  b_min : mg "min" = none
  b_range : mg "range" = none
  b_repr : mg "repr" = none
  b_str : mg "str" = none
  b_tuple : mg "tuple" = none
  b_zip : mg "zip" = none
/-! ### sorted(set(xs)), xs a list of few ints -/
section
open PySem.Spec PyProof.Rows PySem.Calls
abbrev bareSet (w : World) : Obj := { cls := .type "set", dict := none, data := .set #[] 0 (.fresh 0 0 (!w.params.followText "set-order")) }
/-- what set(xs) leaves behind -/
def SetLeft (w : World) (s : Shared) (ns : List Int) (h' : Heap) (c : Nat) : Prop := SetR w h' s.heap.objs.size (fun j => decide (j ∈ ns)) c ∧ c ≤ ns.length ∧ ∀ b o, s.heap.get? b = some o → h'.get? b = some o
variable {P : Program} {w : World} {A : Around} {E : Value → Shared → Prop} {s : Shared}
theorem items_ints {items : Array Value} {ns : List Int} (hi : IntsAre items.toList ns) (i : Nat) (v : Value) (hv : items[i]? = some v) : ∃ k t, ns[i]? = some k ∧ v = .int k t := by
  have hl : items.size = ns.length := by
    rw [← Array.length_toList]
    exact hi.length
  have hlt : i < ns.length := by
    rw [← hl]
    exact (Array.getElem?_eq_some_iff.mp hv).1
  obtain ⟨t, e⟩ := hi.int_at i v (by rw [Array.getElem?_toList]; exact hv)
  refine ⟨ns[i], t, List.getElem?_eq_getElem hlt, e.trans ?_⟩
  rw [List.getD_eq_getElem?_getD, List.getElem?_eq_getElem hlt]
  rfl
set_option maxHeartbeats 3200000 in
theorem set_of_list {l : Addr} {items : Array Value} {ns : List Int} {Q : Value → Shared → Prop} (hh : A.handled = none) (hl : s.heap.IsList l items) (hi : IntsAre items.toList ns) (hb : ns.length + 1 < scanBound)
    (h : ∀ (h' : Heap) (tk c : Nat), SetLeft w s ns h' c → Q (.ref s.heap.objs.size) { s with heap := h', toks := tk }) : wpAny (model P w) A (call (.type "set") [.ref l]) Q E s := by
  have hsz : items.size = ns.length := by
    rw [← Array.length_toList]
    exact hi.length
  obtain ⟨mc, mt, hmro⟩ := F.called_set.mro
  have a1 := F.called_set.made; have a2 := F.called_set.sub; have a3 := F.called_set.notType; have a4 := F.called_set.canCreate; have a5 := F.typeCall_set_1 (.ref l)
  refine wpAny_call (codeAny_of_tree (show wpAny _ _ (callAny (.type "set") _) _ _ _ from wpAny_pure ⟨Code.quiet_builtin _ (by decide +kernel), codeAny_builtin F.entry_type_call ?_⟩))
  rw [Around.under_plain (weight_type_call_type "set" [.ref l] []) rfl]; repeat (any_goals (first | assumption | wp_step))
  refine codeAny_mono (code_set_led1 (.ref l) (E := E) (Q₁ := fun v s' => v = .ref s.heap.objs.size ∧ s' = { s with heap := s.heap.push (bareSet w) }) ⟨rfl, rfl⟩) fun res s1 hres => ?_
  match res, hres with
  | .error e, hres => exact hres
  | .ok .next, hres => exact hres.elim
  | .ok .cont, hres => exact hres.elim
  | .ok .brk, hres => exact hres.elim
  | .ok (.ret v), hres =>
    obtain ⟨rfl, rfl⟩ := hres
    have g0 : (s.heap.push (bareSet w)).get? s.heap.objs.size = some (bareSet w) := Heap.get?_push_size _ rfl
    have ty0 : Shared.TypeIs { s with heap := s.heap.push (bareSet w) } (.ref s.heap.objs.size) "set" := ⟨_, g0, rfl⟩
    have i1 := F.called_set.init.lookup; have i2 := F.called_set.init.bind (.ref s.heap.objs.size)
    repeat (any_goals (first | assumption | wp_step))
    refine codeAny_mono (codeAny_call_builtin (R := wants (fun v s' => v = .none ∧ ∃ h' tk c, s' = { s with heap := h', toks := tk } ∧ SetLeft w s ns h' c) E) F.called_set.init.plain F.entry_set_init (check_set_init_1 ty0 ?_)) fun res2 s2 hres2 => ?_
    · obtain ⟨⟨lc, ld, la, ls⟩, hol, hcl, nl, hdl⟩ := hl
      simp only at hcl hdl; subst hcl; subst hdl
      have hol1 := Heap.get?_push_of_some (bareSet w) hol
      have hL1 : (s.heap.push (bareSet w)).IsList l items := ⟨_, hol1, rfl, nl, rfl⟩
      have n1 := F.sub_list_set; have n2 := F.sub_list_frozenset; have n3 : (Value.type "list" == Value.type "dict") = false := by decide
      unfold Builtin.«set.__init__» noKeywords Builtin.Frozenset.updateFrom; generalize hgo : pyIter = go; wp_walk; subst hgo
      refine wpAny_pyIter_list hL1 (wpAny_bind (wpAny_runValue ?_))
      have ll := Heap.lt_size hol
      have hhd : A.in1.in1.in1.handled = none := by simp [hh]
      have sz1 : (s.heap.push (bareSet w)).objs.size = s.heap.objs.size + 1 := Heap.size_push ..
      have off : l ≠ (s.heap.push (bareSet w)).objs.size := by rw [sz1]; exact Nat.ne_of_lt (Nat.lt_succ_of_lt ll)
      have out : s.heap.objs.size ∉ [(s.heap.push (bareSet w)).objs.size, l] := by
        intro z
        rcases List.mem_cons.mp z with z | z
        · rw [sz1] at z
          exact absurd z (Nat.ne_of_lt (Nat.lt_succ_self _))
        · exact absurd (List.mem_singleton.mp z) (Nat.ne_of_gt ll)
      refine set_update_ints ((Walks.list hhd _ l off items).toS) s.heap.objs.size out ns hsz hb (items_ints hi) (items.size - 0) 0 _ (by omega) (Nat.zero_le _) ⟨⟨_, Heap.get?_push_size _ rfl, rfl, rfl⟩, hL1.push _⟩ ⟨0, Nat.le_refl 0, setR_new_at (Heap.get?_push_of_some _ g0)⟩ ?_
      rintro ⟨h', g', d', tk', os'⟩ c' hm hc' hS'
      obtain ⟨e1, e2, e3⟩ := (show g' = s.gens ∧ d' = s.drawn ∧ os' = s.os from ⟨hm.gens, hm.drawn, hm.os⟩)
      subst e1; subst e2; subst e3
      refine wpAny_pure (show wpAny _ _ (ret Value.none) _ _ _ from wpAny_pure ⟨rfl, h', tk', c', rfl, hS', by omega, fun b o e => ?_⟩)
      have lb := Heap.lt_size e
      refine hm.heap b o ?_ (Heap.get?_push_of_some _ (Heap.get?_push_of_some _ e))
      intro z
      rcases List.mem_cons.mp z with z | z
      · exact absurd z (Nat.ne_of_lt lb)
      · have z2 := List.mem_singleton.mp z
        rw [sz1] at z2
        exact absurd z2 (Nat.ne_of_lt (Nat.lt_succ_of_lt lb))
    · match res2, hres2 with
      | .error e, hres2 => exact hres2
      | .ok .next, hres2 => exact hres2.elim
      | .ok .cont, hres2 => exact hres2.elim
      | .ok .brk, hres2 => exact hres2.elim
      | .ok (.ret v2), hres2 =>
        obtain ⟨rfl, h', tk, c', rfl, hS'⟩ := hres2
        repeat (any_goals (first | assumption | wp_step))
        exact h _ _ _ hS'
end
open PySem.Spec PyProof.Rows in
/-- sorted of a set of ints, however many -/
theorem set_sorted {P : Program} {w : World} {A : Around} {E : Value → Shared → Prop} {s : Shared} {a : Addr} {S : Int → Bool} {n : Nat} {Q : Value → Shared → Prop} (R : SetR w s.heap a S n) (hh : A.handled = none)
    (q : ∀ s' p (out : List Value) (c : Nat) (ms : List Int), (∀ b o, s.heap.get? b = some o → s'.heap.get? b = some o) → s'.gens = s.gens → s'.os = s.os → s.heap.objs.size ≤ p →
      s'.heap.get? p = some (seqObj "list" out.toArray c) → IntsAre out ms → ms.Pairwise (· < ·) → (∀ k, k ∈ ms ↔ S k = true) → ms.length = n → Q (.ref p) s') : wpAny (model P w) A (call (.builtin "sorted") [.ref a]) Q E s := by
  obtain ⟨o, es, ep, t, g1, g2, g3, good, nod, mem, g4, g5, g6, g7, g8⟩ := R
  refine Calls.call_function_entry kind_sorted plain_sorted entry_sorted (args_sorted1 _) ?_; unfold Builtin.«sorted»
  refine wpAny_bind (m := checkCount "sorted" 1 1 _) (wpAny_pure (wpAny_bind (collect_set (A := A.in1) hh ⟨o, g1, g2.1, g3⟩ g5 g4 g7 g8 fun s1 vs k1 z1 e1 e2 pm => ?_)))
  have len : vs.length = n := by
    rw [pm.length_eq, List.length_map, Array.length_toList]
    exact g6
  have ivs : ∀ e ∈ es.toList, SrtO.iv e.2 = keyOf e := fun e he => by
    obtain ⟨k, tk, h1, _⟩ := good e he
    unfold keyOf
    rw [h1]
    rfl
  have hI : IntsAre vs (vs.map SrtO.iv) := SrtO.ints_iv fun v hv => by
    obtain ⟨e, he, ev⟩ := List.mem_map.mp (pm.mem_iff.mp hv)
    obtain ⟨k, tk, h1, _⟩ := good e he
    exact ⟨k, tk, ev.symm.trans h1⟩
  have prm : (vs.map SrtO.iv).Perm (es.toList.map keyOf) := by
    refine (pm.map SrtO.iv).trans ?_
    rw [List.map_map]
    exact List.Perm.of_eq (List.map_congr_left ivs)
  have zn : n ≤ sizeLine := by
    unfold scanBound at g4
    exact szl (by omega)
  refine wpAny_bind (wpAny_newList ?_ (by rw [len]; exact zn))
  have at1 : (s1.heap.push (seqObj "list" vs.toArray 0)).get? s1.heap.objs.size = some (seqObj "list" vs.toArray 0) := Heap.get?_push_size _ rfl
  refine wpAny_bind (wpAny_holding (wpAny_call_entry slot_list_sort ⟨_, at1, rfl⟩ entry_list_sort (SrtO.list_sort_ord SrtO.swo_int at1 (by rw [len]; exact zn) (fun two => SrtO.ints_sortable hI two) fun out o1 o2 => ⟨_, rfl, ?_⟩) (args_list_sort _)))
  obtain ⟨j1, j2, j3⟩ := SrtO.ints_out hI o1 o2
  obtain ⟨c, at2⟩ := sortedHeap_at (vs := vs) (out := out.toArray) at1
  have prm2 := j2.trans prm
  refine wpAny_pure ⟨_, rfl, q _ s1.heap.objs.size out c _ (fun b u e => ?_) e1 e2 z1 at2 j1 (lt_of_le_nodup _ j3 (prm2.nodup_iff.mpr nod)) (fun k => by rw [prm2.mem_iff, ← mem k]) (by rw [prm2.length_eq, List.length_map, Array.length_toList]; exact g6)⟩
  have e3 := k1 b u e
  have l3 := Heap.lt_size e3
  exact (sortedHeap_old (vs := vs) (out := out.toArray) (Nat.ne_of_lt l3) (by rw [size_push']; exact Nat.lt_succ_of_lt l3)).trans (Heap.get?_push_of_some _ e3)
def tSortSet (K : PySem.W.Frag) (ta : TE) : TE := fun σ H Q => ta σ H fun x H1 => ∃ (l : Addr) (ns : List Int), x = .ref l ∧ SqL K H1 l (ns.map V.int) ∧ ns.length ≤ 4000 ∧
  ∀ (out : List Int) (p : Addr), H1 p = none → out.Pairwise (· < ·) → (∀ k, k ∈ out ↔ k ∈ ns) → out.length ≤ ns.length → Q (.ref p) (upd H1 p (.lst (out.map V.int)))
open PySem.Spec PyProof.Rows in
theorem pe_sortSet {X : Cx} {a : Expr} {ta : TE} {p p2 q pos : Pos} (hg : Gl X "sorted") (hm : X.mg "sorted" = none) (hg2 : Gl X "set") (hm2 : X.mg "set" = none) (ha : PE X a ta) (hc : X.calm = true := by rfl)
    (na : starEach [a] X.env = (false, eval a X.env) :: starEach [] X.env := by rfl) : PE X (.Call (.Name "sorted" p) [.Call (.Name "set" p2) [a] [] q] [] pos) (tSortSet X.K ta) := by
  refine ⟨fun pins s σ H Q I h => ?_⟩
  refine Call_ (ld_blt I hg hm boot_sorted (callWith_builtin1 (args_cons (Call_ (ld_blt I hg2 hm2 boot_set (callWith_type1 (args_cons (thn (ha.run pins s σ H _ I h) fun v s1 ⟨x, H1, I1, r1, q1⟩ => args_nil ?_) na) na rfl))) rfl) rfl rfl))
  obtain ⟨l, ns, rfl, hq, hn, q1⟩ := q1
  cases r1
  obtain ⟨its, r, pl, hz⟩ := I1.list hq
  have hd := I1.ok.hd hc
  refine set_of_list hd pl.isList (by simpa using ints_of_vals r) (by unfold scanBound; omega) fun h' tk c hL => args_nil ?_
  obtain ⟨R1, hcn, kept⟩ := hL
  refine set_sorted (s := { s1 with heap := h', toks := tk }) R1 hd fun s' pp out cc ms k g o hp hgt hi hs hmem hlen => ?_
  have kk : ∀ b u, s1.heap.get? b = some u → s'.heap.get? b = some u := fun b u e => k b u (kept b u e)
  have hpp : s1.heap.objs.size ≤ pp := Nat.le_trans (Nat.le_of_lt R1.lt) hp
  have fr : H1 pp = none := I1.hok.fresh hpp
  have sl : (ms.map V.int).length ≤ sizeLine := by
    rw [List.length_map, hlen]
    exact szl (by omega)
  have hos : s'.os = s1.os := o
  have J : Inv X pins σ (upd H1 pp (.lst (ms.map V.int))) { s1 with heap := s'.heap, gens := s'.gens, drawn := s'.drawn, toks := s'.toks } :=
    I1.call (ch := []) (Un.laid kk hpp fr) (I1.hok.laid kk hpp ⟨sl, out, cc, vals_of_ints hi, hgt⟩) (by rw [g]; exact I1.bare) (fun _ z => nomatch z)
  have es : s' = { s1 with heap := s'.heap, gens := s'.gens, drawn := s'.drawn, toks := s'.toks } := by
    obtain ⟨b1, b2, b3, b4, b5⟩ := s'
    simp only at hos
    subst hos
    rfl
  rw [es]
  exact ⟨.ref pp, _, J, rfl, q1 ms pp fr hs (fun j => (hmem j).trans decide_eq_true_iff) (by omega)⟩
local macro_rules | `(tactic| walk_at "ev1") => `(tactic| first
  | with_reducible assumption
  | ((with_reducible show _ = _); exact rfl)
  | ((first | with_reducible show (_ : Int) = _ | with_reducible show (_ : Int) < _ | with_reducible show (_ : Int) ≤ _ | with_reducible show (_ : Nat) < _ | with_reducible show (_ : Nat) ≤ _); first | omega | decide | (simp only [pw6, pw9]; omega) | (simp only [List.length_cons, List.length_nil, List.length_append, List.length_map, List.length_replicate]; omega))
  | assumption
  | exact upd_same
  | exact SqL.of upd_same
  | exact Or.inl (SqL.of upd_same)
  | exact Or.inl (by assumption)
  | exact Or.inr (by assumption)
  | omega
  | exact (show CDiv _ _ from ⟨by omega, by omega⟩)
  | exact (show CPow _ _ from ⟨by omega, by omega, by omega⟩)
  | exact (show CMul _ _ from .inl ⟨by omega, by omega⟩)
  | exact (show CMul _ _ from .inr ⟨by omega, by omega⟩)
  | exact (show CMul _ _ from cmul_b)
  | exact (show CDivW _ _ from wide_div (b := 31) (by omega) (by omega) (by decide) (by decide))
  | exact (Or.inl ⟨rfl, _, SqL.of (by assumption)⟩)
  | exact ClsV.ty _
  | exact .cons (.ty _) (.cons (.ty _) .nil)
  | (refine szl ?_; simp only [List.length_cons, List.length_nil, List.length_append, List.length_map, List.length_replicate]; omega)
  | (refine szm ?_; simp only [List.length_cons, List.length_nil, List.length_append, List.length_map, List.length_replicate]; omega))
local macro_rules | `(tactic| walk_at "s") => `(tactic| (first
  | (refine And.intro ?l ?_; (case l => walk_at "ev1"))
  | with_reducible refine iteT ?_
  | with_reducible refine iteF ?_
  | with_reducible refine ite_dec rfl ?_
  | with_reducible refine iteNS rfl ?_
  | with_reducible refine iteNS (by assumption) ?_
  | (apply Or.inl; apply Exists.intro; apply And.intro rfl)
  | (apply Or.inr; apply Exists.intro; apply And.intro rfl)
  | ((fail_if_success (refine @Exists.intro (Nat → Nat → L2.St → Hp → Prop) _ ?_ ?_)); (fail_if_success (refine @Exists.intro (Nat → L2.St → Hp → Prop) _ ?_ ?_)); (fail_if_success (refine @Exists.intro (L2.St → Hp → Prop) _ ?_ ?_)); (fail_if_success (refine @Exists.intro (Hp → Prop) _ ?_ ?_)); (fail_if_success (refine @Exists.intro (Nat → Nat → Hp → Prop) _ ?_ ?_)); apply Exists.intro)))
local macro_rules | `(tactic| walk_at "ev") => `(tactic| repeat (walk_at "s"))
local macro_rules | `(tactic| w_cond $i:ident) => do
  let b := (i.getId.toString.drop 1).toString
  let l := Lean.mkIdent (.mkSimple ("l" ++ b))
  let hl := Lean.mkIdent (.mkSimple ("hl" ++ b))
  let h := Lean.mkIdent (.mkSimple ("H" ++ b))
  let sm := Lean.mkIdent (.mkSimple ("sm" ++ b))
  let hq := Lean.mkIdent (.mkSimple ("hq" ++ b))
  `(tactic| (intro $l:ident $hl:ident; generalize hG : upd _ $l:ident _ = $h:ident; obtain ⟨$sm:ident, $hq:ident⟩ := newO hG $hl:ident; clear hG))
/-! ### a caught exception that a name keeps behind its clause -/
/-- at a: an exception of the class at C, its dict at d -/
def XOb (C d a : Addr) : HO := .ext fun h => ∃ (ob : Obj) (fl : Array Value), h.get? a = some ob ∧ Zc (.ref C) (some d) ob ∧ ob.data = .fields fl
theorem xob_ok {P : Program} {w : World} {H : Hp} {h : Heap} {C d a : Addr} {ob : Obj} {fl : Array Value} (q1 : h.get? a = some ob) (q2 : Zc (.ref C) (some d) ob) (q3 : ob.data = .fields fl) : ObjOk P w H h a (XOb C d a) :=
  ⟨⟨ob, fl, q1, q2, q3⟩, ⟨ob, q1⟩, fun _ _ ⟨u, v, r1, r2⟩ k => ⟨u, v, k u r1, r2⟩⟩
/-- an object of the heap that nobody tracks is tracked from now on -/
theorem track {X : Cx} {pins : List (Addr × Obj)} {σ : L2.St} {H : Hp} {s : Shared} {a : Addr} {o : HO} (I : Inv X pins σ H s) (n0 : X.s_0.heap.get? a = none) (hn : H a = none) (nL : a ≠ X.env.locals) (nC : ∀ x c, X.env.cells.lookup x = some c → c ≠ a)
    (nP : ∀ p ∈ X.pn ++ pins, p.1 ≠ a) (new : ObjOk X.prog X.w (upd H a o) s.heap a o) : Inv X pins σ (upd H a o) s := by
  have ne : ∀ {b : Addr} {u : HO}, H b = some u → b ≠ a := fun e => ne_of_none e hn
  refine ⟨I.ok, I.os, I.bare, ⟨I.base.keep, I.base.slot, fun b u e n hx => ?_, I.base.there, fun b xs e => ?_, fun b u v e => ?_, fun b ps e => ?_⟩, I.loc, I.cell, ?_, fun x c e => ?_, fun p hp => ?_, I.hok.laidN (fun _ _ z => z) hn new, I.len⟩
  · have : b ≠ a := fun z => by
      rw [z, n0] at e
      cases e
    rw [upd_ne this]
    exact I.base.free b u e n hx
  · have q := I.base.tups b xs e
    rw [upd_ne (ne q)]
    exact q
  · have q := I.base.frzs b u v e
    rw [upd_ne (ne q)]
    exact q
  · obtain ⟨m, q⟩ := I.base.tbls b ps e
    exact ⟨m, by rw [upd_ne (ne q)]; exact q⟩
  · rw [upd_ne nL.symm]
    exact I.free
  · rw [upd_ne (nC x c e)]
    exact I.freeC x c e
  · obtain ⟨e, n, r⟩ := I.pin p hp
    exact ⟨e, by rw [upd_ne (nP p hp)]; exact n, r⟩
/-- what 'except x as n: ..' wishes, the exception tracked behind it -/
def wKeep (K : PySem.W.Frag) (c : Value) (i : Nat) (ts : Addr → TS) (Wout : WX) (D : Ends) : WX := fun cls d σ H =>
  ∃ b, PySem.W.exmOne K cls c = some b ∧ (b = true → ∃ C dd, cls = .ref C ∧ d = some dd ∧ ∀ a, H a = none →
    ts a { nx := fun σ2 H2 => D.nx (σ2.set i none) (upd H2 a (XOb C dd a)), rt := fun _ _ => False, bk := fun _ _ => False, ct := fun _ _ => False } (σ.set i (some (.ref a))) H) ∧ (b = false → Wout cls d σ H)
section
variable {X : Cx} {x n : Str} {c : Value} {i : Nat} {body suite : List Stmt} {b₀ : Stmt} {np pos pos' : Pos} {tb : WX → TS} {ts : Addr → TS} {Wout : WX}
theorem ps_try_keep (hs : X.stack = X.env :: X.outer) (hf : X.env.frame = some X.env.locals) (hex : X.ex = []) (hN : X.N.Nodup) (hi : X.N[i]? = some n) (hln : X.env.kindOf n = some .local) (hc : Names X x c) (tk : Takes X Wout)
    (hb : ∀ (W : WX) (pn : List (Addr × Obj)) (xe : Value → Shared → Prop), Takes (X.tr pn xe) W → PassesOwn (model X.prog X.w) X.A X.env xe → PSs (X.tr pn xe) body (tb W))
    (hsu : ∀ (a : Addr) (pn : List (Addr × Obj)), PSs (X.suite a pn) (b₀ :: suite) (ts a)) :
    PS X (.Try body [.ExceptHandler (some (.Name x np)) (some n) (b₀ :: suite) pos'] [] [] pos) (fun D σ H => tb (wKeep X.K c i ts Wout D) D σ H) := by
  refine ⟨fun pins s σ H D I h => ?_⟩
  have ok := I.ok
  have fr : X.A.frames = some (X.env :: X.outer) := ok.frames.trans (congrArg some hs)
  refine wpAny_Try_except (wpAny_mono ((hb (wKeep X.K c i ts Wout D) (X.pn ++ pins) (fun e s1 => wpAny (model X.prog X.w) X.A (noteFrame e X.env)
    (fun _ s2 => wpAny (model X.prog X.w) X.A (setFlight e none) (fun _ s3 => wpAny (model X.prog X.w) X.A (handleBy e X.env [.ExceptHandler (some (.Name x np)) (some n) (b₀ :: suite) pos']) (SP X pins D) X.xe s3) X.xe s2) X.xe s1)
    (fun u s1 fly => ?_) PassesOwn.looking).run [] s σ H D (I.toTry _) h) (fun f s1 q => ?_) (fun _ _ z => z))
  · obtain ⟨a, B, s0, pins1, σ1, H1, cls, d, rfl, J0, nb, up, sky, na, os, ag, b, hm, yes, no⟩ := fly
    have J : Inv X pins σ1 H1 s0 := J0.ofTry ok
    have sky1 : Sky B (X.env :: X.outer) a (Zc cls d) X.env.locals s1.heap := hs ▸ sky
    show wpAny (model X.prog X.w) X.A (noteFrame (.ref a) X.env) _ _ _
    refine Sky.land Zc.steady fr hf sky1 fun g3 fly3 up3 => ?_
    have J3 : Inv X pins σ1 H1 { s1 with heap := g3 } := J.landed nb fly3.1 (up.trans up3) os ag
    obtain ⟨o3, f3, e3, z3, d3⟩ := fly3.there
    have away : a ∉ frs (X.env :: X.outer) := fun hmem => by
      obtain ⟨_, o', e', hnf⟩ := fly3.2.2.1.mem hmem
      cases e3.symm.trans e'
      exact hnf _ d3
    have nL : a ≠ X.env.locals := fun z => away (List.mem_filterMap.mpr ⟨X.env, List.mem_cons_self, hf.trans (congrArg some z.symm)⟩)
    have nF : a ∉ X.fs := fun hmem => by
      obtain ⟨e, he, q⟩ := List.mem_filterMap.mp hmem
      exact away (List.mem_filterMap.mpr ⟨e, List.mem_cons_of_mem _ he, q⟩)
    have nB : B.get? a = none := fly3.2.1
    have n0 : X.s_0.heap.get? a = none := by
      cases e : X.s_0.heap.get? a with
      | none => rfl
      | some o =>
        obtain ⟨o', q⟩ := J.base.there a o e (by rw [hex]; exact fun z => nomatch z)
        have q2 := nb a o' q (by rw [hs]; exact away)
        rw [nB] at q2
        cases q2
    have nP : ∀ p ∈ X.pn ++ pins, p.1 ≠ a := fun p hp z => by
      obtain ⟨q, _⟩ := J.pin p hp
      have q2 := nb p.1 p.2 q (by rw [hs, z]; exact away)
      rw [z, nB] at q2
      cases q2
    have S3 := J3.suite e3 d3 na nL nF
    have lt : PySem.W.Looks (model X.prog X.w) g3 (typeOf (.ref a)) cls := fun A Q E s k q => wpAny_typeOf_ref (k _ _ e3) (by rw [z3.1]; exact q)
    have lm := PySem.W.exm_one (M := model X.prog X.w) J3.kIn lt hm
    refine wpAny_handleBy_cons (codeAny_handlers_test ?_) (fun q => nomatch q)
    have named : ∀ {Q E : Value → Shared → Prop}, Q c { s1 with heap := g3 } → wpAny (model X.prog X.w) (X.A.mark (some (.ref a))) (eval (.Name x np) X.env) Q E { s1 with heap := g3 } := fun {Q E} q => by
      rcases hc with ⟨hg, hdb, hm1 | ⟨hm1, hv, hnn⟩⟩
      · exact ld_glob (X := X.suite a ((a, o3) :: (X.pn ++ pins))) S3 hg hm1 q hdb
      · exact ld_blt (X := X.suite a ((a, o3) :: (X.pn ++ pins))) S3 hg hm1 hv q hnn hdb
    refine named (lm.here ?_)
    cases b with
    | true =>
      obtain ⟨C, dd, ec, ed, yes⟩ := yes rfl
      refine codeAny_handlers_suite_as (HandSPX.lands_againZ fly3 fun g4 fly4 up4 => ?_)
      have J4 : Inv X pins σ1 H1 { s1 with heap := g4 } := J.landed nb fly4.1 ((up.trans up3).trans up4) os ag
      obtain ⟨o4, f4, e4, z4, d4⟩ := fly4.there
      refine store_ok (X := X.suite a ((a, o4) :: (X.pn ++ pins))) (v := .ref a) (J4.suite e4 d4 na nL nF) hN hi (.inl hln) rfl (fun s5 S5 => ?_) (.inr hln)
      refine wpAny_mono ((hsu a ((a, o4) :: (X.pn ++ pins))).run [] s5 _ H1 _ S5 (yes a na)) (fun f s6 q6 => ?_) (fun _ _ z => z.elim)
      cases f with
      | next =>
        obtain ⟨σ6, H6, S6, q6⟩ := q6
        refine gone_ok (X := X.suite a ((a, o4) :: (X.pn ++ pins))) (pins := []) S6 hN hi hln fun s7 S7 => ?_
        obtain ⟨e7, n7, _⟩ := S7.pin (a, o4) (List.mem_append_left _ List.mem_cons_self)
        refine ⟨_, _, track (S7.unsuite ok) n0 n7 nL (fun y c' ey z => ?_) nP (xob_ok (C := C) (d := dd) e7 (by rw [← ec, ← ed]; exact z4) d4), q6⟩
        obtain ⟨v, ob, q1, q2⟩ := S7.cell y c' ey
        subst z
        cases e7.symm.trans q1
        cases d4.symm.trans q2
      | brk =>
        obtain ⟨_, _, _, q6⟩ := q6
        exact q6.elim
      | cont =>
        obtain ⟨_, _, _, q6⟩ := q6
        exact q6.elim
      | ret u =>
        obtain ⟨_, _, _, _, _, q6⟩ := q6
        exact q6.elim
    | false =>
      show wpAny _ X.A (handleBy (.ref a) X.env []) _ _ _
      refine wpAny_handleBy_nil ?_
      obtain ⟨k1, k2, k3, ob, fl, T, oT, tl, he, hz, hd, h1, hr⟩ := id fly3
      unfold PySem.passOn
      refine wpAny_bind (wpAny_field he hd h1 ?_)
      rw [if_neg (show ¬ ((Value.ref T == Value.none) = true) from by simp)]
      have fin : wpAny (model X.prog X.w) X.A (setFlight (.ref a) X.env.frame) (fun _ s4 => wpAny (model X.prog X.w) X.A (throw (.ref a) : Sem Flow) (SP X pins D) X.xe s4) X.xe { s1 with heap := g3 } := by
        rw [hf]
        exact HandSPX.setFlight_upZ fly3 fun g4 held4 up4 => wpAny_throw (tk _ _ ⟨a, B, s0, pins, σ1, H1, cls, d, rfl, J, nb, (up.trans up3).trans up4, .inr (.inr (hs ▸ held4)), na, os, ag, no rfl⟩)
      first
        | exact wpAny_bind (wpAny_pure (wpAny_bind fin))
        | exact wpAny_bind fin
  · cases f with
    | next =>
      obtain ⟨σ1, H1, J, q⟩ := q
      exact wpAny_execs_nil ⟨σ1, H1, J.ofTry ok, q⟩
    | brk =>
      obtain ⟨σ1, H1, J, q⟩ := q
      exact ⟨σ1, H1, J.ofTry ok, q⟩
    | cont =>
      obtain ⟨σ1, H1, J, q⟩ := q
      exact ⟨σ1, H1, J.ofTry ok, q⟩
    | ret u =>
      obtain ⟨v, σ1, H1, J, r, q⟩ := q
      exact ⟨v, σ1, H1, J.ofTry ok, r, q⟩
end
/-- what is told of an own exception class -/
structure ExK (K : PySem.W.Frag) (C : Addr) : Prop where
  oex : OexC K C
  xf : XfC K C
  ec : ExcC K C
  nw : PySem.W.findIn K (.ref C) "what" = some none
/-- an exception object, tracked, with its fields -/
def XAt (H : Hp) (a C : Addr) (fs : List (Str × V)) : Prop := ∃ d, H a = some (XOb C d a) ∧ H d = some (.xd fs)
theorem XAt.same {H H' : Hp} {a C : Addr} {fs : List (Str × V)} (h : XAt H a C fs) (e : Same H H') : XAt H' a C fs := by
  obtain ⟨d, h1, h2⟩ := h
  exact ⟨d, e _ _ h1, e _ _ h2⟩
theorem xat_inst {X : Cx} {pins : List (Addr × Obj)} {σ : L2.St} {H : Hp} {s : Shared} {a C : Addr} {fs : List (Str × V)} (I : Inv X pins σ H s) (h : XAt H a C fs) : ∃ (ob od : Obj) (mA : Str → Option Value), PySem.W.InstAt s.heap a ob C (some od) ∧ (∀ name, PySem.W.lookIn name od = some (mA name)) ∧ ∀ f, RelO (fs.lookup f) (mA f) := by
  obtain ⟨d, h1, h2⟩ := h
  obtain ⟨⟨ob, fl, q1, q2, q3⟩, _, _⟩ := (show ObjOk X.prog X.w H s.heap a (XOb C d a) from I.hok a _ h1)
  obtain ⟨mA, hns, hr⟩ := (show ObjOk X.prog X.w H s.heap d (.xd fs) from I.hok d _ h2)
  obtain ⟨od, ho, hl⟩ := lookIn_ns hns
  exact ⟨ob, od, mA, ⟨q1, q2.1, by unfold PySem.W.notCls; rw [q3] <;> rfl, by rw [q2.2]; exact ho⟩, hl, hr⟩
/-- isinstance(e, c), e tracked -/
def rIsX (K : PySem.W.Frag) : List V → Hp → VK → Prop := fun xs H Q => ∃ (a C : Addr) (fs : List (Str × V)) (c : V) (cv : Value) (b : Bool), xs = [.ref a, c] ∧ XAt H a C fs ∧ ExK K C ∧ ClsV c cv ∧ PySem.W.kitOne K (.ref C) cv = some b ∧ Q (.bl b) H
def rIsXT (K : PySem.W.Frag) : List V → Hp → VK → Prop := fun xs H Q => ∃ (a C tp : Addr) (fs : List (Str × V)) (cs : List V) (us : List Value) (b : Bool), xs = [.ref a, .ref tp] ∧ H tp = some (.tup cs) ∧ XAt H a C fs ∧ ExK K C ∧ Paired ClsV cs us ∧ PySem.W.kitAny K (.ref C) us = some b ∧ Q (.bl b) H
theorem kit_x {K : PySem.W.Frag} {a C : Addr} {ob od : Obj} (E : ExK K C) : PySem.W.KitX K (.ref a) (.ref C) (fun h => PySem.W.InstAt h a ob C (some od)) := by
  obtain ⟨cd, hc, _⟩ := PySem.W.any_some E.ec.hd
  exact PySem.W.kitx_exc (by rw [hc]; rfl) E.ec.hg E.ec.hk E.ec.hs E.ec.ha E.ec.hn E.ec.ht E.ec.hm
theorem call_isX {X : Cx} : CallR X (.builtin "isinstance") (rIsX X.K) := by
  intro pins s σ H xs us Q I r h
  obtain ⟨a, C, fs, c, cv, b, rfl, hx, E, k, e, q⟩ := h
  obtain ⟨u1, u2, rfl, r1, r2⟩ := vals2 r
  cases (show u1 = Value.ref a from r1)
  have e2 := k.eq r2
  subst e2
  obtain ⟨ob, od, mA, J, _, _⟩ := xat_inst I hx
  exact PySem.W.kia_one (kit_x E) I.kIn J e (fun z => nomatch z) fun tk => ⟨.bl b, H, I.tok tk, rfl, q⟩
theorem call_isXT {X : Cx} : CallR X (.builtin "isinstance") (rIsXT X.K) := by
  intro pins s σ H xs us Q I r h
  obtain ⟨a, C, tp, fs, cs, ws, b, rfl, hT, hx, E, k, e, q⟩ := h
  obtain ⟨u1, u2, rfl, r1, r2⟩ := vals2 r
  cases (show u1 = Value.ref a from r1)
  cases (show u2 = Value.ref tp from r2)
  obtain ⟨ob, od, mA, J, _, _⟩ := xat_inst I hx
  obtain ⟨_, its, rv, o, h1, h2, n, h3⟩ := (show ObjOk X.prog X.w H s.heap tp (.tup cs) from I.hok tp _ hT)
  have e3 := ClsV.all k rv
  subst e3
  rcases o with ⟨oc, od', dt, sl⟩
  dsimp only at h2 h3
  cases h2
  cases h3
  exact PySem.W.kia_tup (kit_x E) I.kIn J h1 e (fun z => nomatch z) fun tk => ⟨.bl b, H, I.tok tk, rfl, q⟩
/-- e.f, e tracked -/
def tXw (K : PySem.W.Frag) (f : Str) (te : TE) : TE := fun σ H Q => te σ H fun x H1 => ∃ (a C : Addr) (fs : List (Str × V)) (v : V), x = .ref a ∧ XAt H1 a C fs ∧ ExK K C ∧ PySem.W.findIn K (.ref C) f = some none ∧ fs.lookup f = some v ∧ Q v H1
theorem pe_xw {X : Cx} {e : Expr} {te : TE} {pos : Pos} {n : Str} (he : PE X e te) (hb : attributeBase e n X.env (eval e X.env) = eval e X.env := by rfl) : PE X (.Attribute e n pos) (tXw X.K n te) := by
  refine ⟨fun pins s σ H Q I h => attr_of hb (thn (he.run pins s σ H _ I h) fun u s1 hh => ?_)⟩
  obtain ⟨x, H1, I1, rx, a, C, fs, v, ex, hx, E, hno, l, q⟩ := hh
  subst ex
  cases (show u = Value.ref a from rx)
  obtain ⟨ob, od, mA, J, hl, hr⟩ := xat_inst I1 hx
  obtain ⟨u, hu, ru⟩ := RelO.some_of (v := v) (o := mA n) (by rw [← l]; exact hr n)
  exact HandSPX.exc_get I1.kIn J E.xf.ga E.xf.gg E.xf.exC (PySem.W.findObj_own E.xf.hdC hno rfl (by rw [hl, hu])) (handed_of ru) ⟨v, H1, I1.tok _, ru, q⟩
/-! ### methods and classes, what they raise wished for at the caller's slots -/
def tMethS (C : Addr) (m : Str) (sp : Sp) (E : L2.St → XK) (ta : TE) (t : TA) : TE := fun σ H Q => ta σ H fun x H1 => ∃ a dx fs, x = .ref a ∧ H1 a = some (.ins C dx fs) ∧ fs.lookup m = none ∧ t σ H1 fun vs H2 => sp (x :: vs) H2 Q (E σ)
def tMakeS (C : Addr) (sp : Sp) (E : L2.St → XK) (t : TA) : TE := fun σ H Q => t σ H fun vs H1 => ∀ x dx, H1 x = none → H1 dx = none → dx ≠ x → sp (.ref x :: vs) (upd (upd H1 dx (.own x)) x (.ins C dx [])) (fun v H2 => v = .non ∧ Q (.ref x) H2) (E σ)
section
variable {X : Cx} {CX : CXT} {k : Nat} {f C : Addr} {fd : FuncData} {ps : List Str} {sp : Sp} {E : L2.St → XK} {x m : Str} {p pos apos : Pos} {e o : Expr} {es : List Expr} {ta : TE} {t : TA}
theorem pe_methS {pl : Sem Bool} (he : PE X o ta) (c : L2.Cls X.K C) (hm : Meth X.K C m f) (F : FnOk X.prog X.w X.K X.mg X.base CX k f fd ps sp) (hr : Room k X.A) (hb : Binds X.K fd ps []) (hx : ∀ σ, PassesAt CX X σ (E σ)) (ha : PA X (e :: es) t)
    (hst : starEach (e :: es) X.env = (false, eval e X.env) :: starEach es X.env := by rfl) (hpl : (backTo pos (starEach es X.env)).any (·.1) = false := by rfl)
    (ht : eval (.Call (.Attribute o m apos) (e :: es) [] pos) X.env = (do
      let ov ← eval o X.env
      standAt apos.atName
      let (f, first) ← holding [ov] (getMethod ov m pl)
      callWith pos f first (backTo pos (starEach (e :: es) X.env)) (backToKw pos (keywordEach [] X.env))) := by rfl) : PE X (.Call (.Attribute o m apos) (e :: es) [] pos) (tMethS C m sp E ta t) := by
  refine ⟨fun pins s σ H Q I h => PySem.W.methodCall_KW (pl := pl) (thn (he.run pins s σ H _ I h) fun u s1 q1 => ?_) ht⟩
  obtain ⟨y, H1, I1, ry, a, dx, fs, ey, ea, l, q⟩ := q1
  subst ey
  cases (show u = Value.ref a from ry)
  refine getmeth_ok I1 ea c hm l (PySem.W.callWith_K (first := [.ref a]) (h₀ := X.base) I.ok.mod.kin hm.kp (thn (ha.run pos pins s1 σ H1 _ I1 q) fun us s2 q2 => ?_) hst hpl)
  obtain ⟨vs, H2, I2, r, q2⟩ := q2
  exact ⟨I2.kIn, run_fnS (us := .ref a :: us) (vs := .ref a :: vs) F hr hb (hx σ) I2 (.cons rfl r) q2⟩
theorem run_makeS {pins : List (Addr × Obj)} {σ : L2.St} {H : Hp} {s : Shared} {Q : VK} {us : List Value} {vs : List V} (M : Mk X.K C f) (F : FnOk X.prog X.w X.K X.mg X.base CX k f fd ps sp) (hr : Room (k + 1) X.A) (hb : Binds X.K fd ps []) (hx : PassesAt CX X σ (E σ)) (I : Inv X pins σ H s) (r : Vals vs us)
    (h : ∀ y dx, H y = none → H dx = none → dx ≠ y → sp (.ref y :: vs) (upd (upd H dx (.own y)) y (.ins C dx [])) (fun v H2 => v = .non ∧ Q (.ref y) H2) (E σ)) : wpAny (model X.prog X.w) X.A (call (.ref C) us) (EP X pins σ Q) X.xe s := by
  have hq := h (s.heap.objs.size + 1) s.heap.objs.size (I.hok.fresh (Nat.le_succ _)) (I.hok.fresh (Nat.le_refl _)) (Nat.ne_of_lt (Nat.lt_succ_self _))
  have J := Inv.made (C := C) I
  have r2 : Vals (V.ref (s.heap.objs.size + 1) :: vs) (Value.ref (s.heap.objs.size + 1) :: us) := .cons rfl r
  have hl : (Value.ref (s.heap.objs.size + 1) :: us).length = ps.length := r2.length.symm.trans (F.len _ _ _ _ hq)
  have bi := hb _ (Value.ref (s.heap.objs.size + 1) :: us) J.kIn (by rw [List.append_nil]; exact hl)
  rw [List.append_nil] at bi
  refine wpAny_call (make_map (f := f) I.kIn M.makes M.init (beq_iff_eq.mp M.fn) (codeAny_mono (F.run _ X.stack _ _ ⟨_, []⟩ _ _ _ (E σ) (hr.make C us []) (J.env0.make C us []) bi r2 hq) fun rs s1 q1 => ?_))
  cases rs with
  | error er => exact hx pins _ _ er s1 J q1
  | ok fl =>
    cases fl with
    | ret u =>
      obtain ⟨v, H3, I3, rv, ev, q3⟩ := J.after q1
      subst ev
      exact ⟨rv, ⟨V.ref (s.heap.objs.size + 1), H3, I3, rfl, q3⟩⟩
    | next => exact q1.elim
    | brk => exact q1.elim
    | cont => exact q1.elim
theorem pe_makeS (M : Mk X.K C f) (F : FnOk X.prog X.w X.K X.mg X.base CX k f fd ps sp) (hr : Room (k + 1) X.A) (hg : Gl X x) (hm : X.mg x = some (.ref C)) (hb : Binds X.K fd ps []) (hx : ∀ σ, PassesAt CX X σ (E σ)) (ha : PA X (e :: es) t)
    (hdb : (x == ("__debug__" : Str)) = false := by decide) (he : starEach (e :: es) X.env = (false, eval e X.env) :: starEach es X.env := by rfl) (hpl : (backTo pos (starEach es X.env)).any (·.1) = false := by rfl) : PE X (.Call (.Name x p) (e :: es) [] pos) (tMakeS C sp E t) := by
  refine ⟨fun pins s σ H Q I h => wpAny_Call_Name_kw (ld_glob I hg hm (PySem.W.callWith_K (h₀ := X.base) I.ok.mod.kin M.kp (thn (ha.run pos pins s σ H _ I h) fun us s1 q1 => ?_) he hpl) hdb)⟩
  obtain ⟨vs, H1, I1, r, q⟩ := q1
  exact ⟨I1.kIn, run_makeS M F hr hb (hx σ) I1 r q⟩
end
/-! ### xs[i] op= e, xs a list -/
section
open PySem.Spec PyProof.Rows
variable {X : Cx}
theorem get_list : PGet X (rIxL X.K) := by
  intro pins s σ H o i ov iv Q I ro ri h
  obtain ⟨p, xs, k, z, rfl, rfl, hq, he, q⟩ := h
  cases ro
  obtain ⟨t, rfl⟩ := ri
  obtain ⟨its, r, pl, hz⟩ := I.list hq
  obtain ⟨j, h1, h2, h3, h4, h5⟩ := atI_get he
  obtain ⟨w, ew, rw'⟩ := r.get h2
  have hl := r.length
  have hn := line63
  have fin : EP X pins σ Q w s := ⟨z, H, I, rw', q⟩
  by_cases h0 : 0 ≤ k
  · have hj : k.toNat = j := by
      rw [seqIndex_of h0 h5] at h1
      exact Option.some.inj h1
    exact wpAny_getItem_list pl.isList h0 (by omega) (by rw [hj]; simpa using ew) fin
  · have hj : (k + (its.toArray.size : Int)).toNat = j := by
      rw [seqIndex_neg (by omega) h4] at h1
      rw [List.size_toArray, ← hl]
      exact Option.some.inj h1
    exact wpAny_getItem_list_neg pl.isList (by omega) (by rw [List.size_toArray] <;> omega) (by omega) (by rw [hj]; simpa using ew) fin
end
/-! ### the drawing -/
theorem log2_lt60 {t : Int} (h0 : 0 < t) (h : t < 1152921504606846976) : t.natAbs.log2 < 9000 := by
  have h1 : t.natAbs < 2 ^ 60 := by
    have : (2 : Nat) ^ 60 = 1152921504606846976 := by decide
    omega
  exact Nat.lt_trans ((Nat.log2_lt (by omega)).mpr h1) (by decide)
abbrev s__law_take : Stmt := top 17
abbrev N__law_take : List Str := ["_law_box_here", "_law_top", "_law_found", "_law_once"]
abbrev P__law_take : List Str := ["_law_box_here", "_law_top"]
theorem sc__law_take : FnScope N__law_take P__law_take (defScope s__law_take) := ⟨rfl, rfl, rfl, by decide +kernel, rfl, by decide +kernel, by decide +kernel⟩
def spTake : Sp := fun vs H Q _ => ∃ (b : Addr) (top n : Int), vs = [.ref b, .int top] ∧ BoxAt H b n ∧ 0 < top ∧ top < 1152921504606846976 ∧ n < 1048576 ∧ ∀ r H', 0 ≤ r → r < top → Keep b H H' → BoxAt H' b (n + 1) → Q (.int r) H'
section
variable {P : Program} {w : World} {K : PySem.W.Frag} {mg : Str → Option Value} {base : Heap}
theorem ok_take {f : Addr} {fd : FuncData} {k : Nat} (F : Fun K "_law_take" "_law_take" s__law_take f fd) : FnOk P w K mg base CX0 (k + 1) f fd P__law_take spTake := by
  have nd := sc__law_take.nd
  refine F.ok sc__law_take (fun vs H Q E h => ?_) (fun cdv A outer s H vs Q E hr h => ?_)
  · obtain ⟨b, top, n, rfl, _⟩ := h
    rfl
  · obtain ⟨b, top, n, rfl, ⟨x, y, z, hb, hx, hy, hy2, hz, hzn⟩, ht, ht2, hn, q⟩ := h
    refine ⟨_, (pss_cons (ps_if (pt_cmpR op_gt (pe_ix (r := rIxL K) ix_list (pv 0) (pe_int) (fun _ _ => rfl)) (pe_int) (nomark _)) (pss_cons (ps_set (i := 2) nd rfl (Or.inl rfl) (pe_op op_mod (pe_ix (r := rIxL K) ix_list (pv 0) (pe_int) (fun _ _ => rfl)) (pv 1)))
      (pss_cons (ps_asg (pe_op op_fdivW (pe_ix (r := rIxL K) ix_list (pv 0) (pe_int) (fun _ _ => rfl)) (pv 1)) (pg_sub (pv 0) (pe_int) set_list))
      (pss_one (ps_ret (pv 2))))) pss_nil)
      (pss_cons (ps_asg (pe_op op_add (pe_ix (r := rIxL K) ix_list (pv 0) (pe_int) (fun _ _ => rfl)) (pe_int)) (pg_sub (pv 0) (pe_int) set_list))
      (pss_cons (ps_set (i := 3) nd rfl (Or.inl rfl) (pe_op op_mod (pe_op op_pow (pe_op op_add (pe_ix (r := rIxL K) ix_list (pv 0) (pe_int) (fun _ _ => rfl)) (pe_op op_mul (pe_int) (pe_ix (r := rIxL K) ix_list (pv 0) (pe_int) (fun _ _ => rfl)))) (pe_int)) (pe_int)))
      (pss_one (ps_ret (pe_op op_mod (pe_op op_fdivW (pe_op op_mod (pe_op op_add (pe_op op_mul (pv 3) (pe_op op_add (pe_op op_mod (pv 3) (pe_int)) (pe_int))) (pe_op op_mul (pe_ix (r := rIxL K) ix_list (pv 0) (pe_int) (fun _ _ => rfl)) (pe_int))) (pe_int)) (pe_int)) (pv 1))))))), ?_⟩
    have hL : SqL K H b [.int x, .int y, .int z] := SqL.of hb
    have cw : ∀ i : Int, CDivW i top := fun i => ⟨ht, log2_lt60 ht ht2⟩
    have cw6 : ∀ i : Int, CDivW i 64 := fun i => ⟨by decide, by decide⟩
    have cw1 := cw x
    walk_at "ev"
    refine ite2 (fun e => ?_) (fun e => ?_)
    · have e1 : 0 < x := of_decide_eq_true e
      walk_at "ev"
      exact q _ _ (Int.emod_nonneg _ (by omega)) (Int.emod_lt_of_pos _ ht) (keep_upd (Keep.refl _ _)) ⟨_, _, _, upd_same, Int.ediv_nonneg hx (by omega), hy, hy2, hz, by omega⟩
    · walk_at "ev"
      exact q _ _ (Int.emod_nonneg _ (by omega)) (Int.emod_lt_of_pos _ ht) (keep_upd (Keep.refl _ _)) ⟨_, _, _, upd_same, hx, hy, hy2, by omega, by omega⟩
end
abbrev s__law_box : Stmt := top 16
abbrev N__law_box : List Str := ["_law_script", "_law_k", "_law_cell"]
abbrev P__law_box : List Str := ["_law_script", "_law_k"]
theorem sc__law_box : FnScope N__law_box P__law_box (defScope s__law_box) := ⟨rfl, rfl, rfl, by decide +kernel, rfl, by decide +kernel, by decide +kernel⟩
def spBox (K : PySem.W.Frag) : Sp := fun vs H Q _ => ∃ (a : Addr) (ns : List Int) (k : Int), vs = [.ref a, .int k] ∧ SqL K H a (ns.map V.int) ∧ 0 ≤ k ∧ k ≤ 100000 ∧ ∀ p H', H p = none → Same H H' → BoxAt H' p 0 → Q (.ref p) H'
section
variable {P : Program} {w : World} {K : PySem.W.Frag} {mg : Str → Option Value} {base : Heap}
theorem ok_box {f : Addr} {fd : FuncData} {k : Nat} (F : Fun K "_law_box" "_law_box" s__law_box f fd) (T : Blt mg) : FnOk P w K mg base CX0 (k + 1) f fd P__law_box (spBox K) := by
  have nd := sc__law_box.nd
  refine F.ok sc__law_box (fun vs H Q E h => ?_) (fun cdv A outer s H vs Q E hr h => ?_)
  · obtain ⟨b, top, n, rfl, _⟩ := h
    rfl
  · obtain ⟨a, ns, k, rfl, hL, h0, h1, q⟩ := h
    refine ⟨_, (pss_cons (ps_set (i := 2) nd rfl (Or.inl rfl) (pe_int))
      (pss_cons (ps_if (pt_cmpR op_lt (pv 1) (pe_callB (r := rLenQ K) call_len_seq (by rfl) T.b_len (by decide +kernel) (pa_cons (pv 0) pa_nil)) (nomark _)) (pss_one (ps_set (i := 2) nd rfl (Or.inl rfl) (pe_ix (r := rIxL K) ix_list (pv 0) (pv 1) (fun _ _ => rfl)))) pss_nil)
      (pss_one (ps_ret (pe_lst (pa_cons (pe_op op_mul (pe_callB call_abs (by rfl) T.b_abs (by decide +kernel) (pa_cons (pv 2) pa_nil)) (pe_callTy call_int1 (by rfl) T.b_int (by decide +kernel) (pa_cons (pe_cmpR op_ge (pe_callB call_abs (by rfl) T.b_abs (by decide +kernel) (pa_cons (pv 2) pa_nil)) (pe_op op_pow (pe_int) (pe_int)) (nomark _)) pa_nil))) (pa_cons (pe_op op_add (pe_op op_add (pe_op op_mod (pv 2) (pe_int)) (pe_op op_mul (pe_int) (pv 1))) (pe_int)) (pa_cons (pe_int) pa_nil)))))))), ?_⟩
    have fin : ∀ c : Int, ∀ p, H p = none → Q (.ref p) (upd H p (.lst [.int ((if c < 0 then -c else c) * (if decide ((10 : Int) ^ 18 ≤ if c < 0 then -c else c) then 1 else 0)), .int (c % 2147483629 + 7919 * k + 11), .int 0])) := by
      intro c p hp
      refine q p _ hp (same_new hp) ⟨_, _, _, upd_same, ?_, ?_, ?_, by omega, by omega⟩
      · refine Int.mul_nonneg ?_ ?_
        · split <;> omega
        · split <;> omega
      · have := Int.emod_nonneg c (show (2147483629 : Int) ≠ 0 by decide)
        omega
      · have := Int.emod_lt_of_pos c (show (0 : Int) < 2147483629 by decide)
        omega
    walk_at "ev"
    refine ite2 (fun e => ?_) (fun e => ?_)
    · have e1 : k < ((ns.map V.int).length : Int) := of_decide_eq_true e
      rw [List.length_map] at e1
      obtain ⟨c, hc, hat⟩ := at_ints h0 e1
      walk_at "ev"
      exact fin c
    · walk_at "ev"
      exact fin 0
end
/-! ### the mathematics of primes -/
def Rough (n d : Int) : Prop := ∀ e : Int, 2 ≤ e → e < d → ¬ e ∣ n
inductive Fac : Int → List Int → Prop
  | one : Fac 1 []
  | cons {n p q : Int} {ps : List Int} : 2 ≤ p → n = p * q → 1 ≤ q → Rough n p → Fac q ps → Fac n (p :: ps)
theorem Fac.uniq : ∀ {n : Int} {xs ys : List Int}, Fac n xs → Fac n ys → xs = ys := by
  intro n xs ys h
  induction h generalizing ys with
  | one =>
    intro k
    cases k with
    | one => rfl
    | cons h1 h2 h3 h4 h5 =>
      rename_i p q ps
      have : 2 * 1 ≤ p * q := Int.mul_le_mul h1 h3 (by omega) (by omega)
      omega
  | cons h1 h2 h3 h4 h5 ih =>
    rename_i n p q ps
    intro k
    cases k with
    | one =>
      have : 2 * 1 ≤ p * q := Int.mul_le_mul h1 h3 (by omega) (by omega)
      omega
    | cons g1 g2 g3 g4 g5 =>
      rename_i p' q' ps'
      have e : p = p' := by
        rcases Int.lt_trichotomy p p' with l | l | l
        · exact absurd ⟨q, h2⟩ (g4 p h1 l)
        · exact l
        · exact absurd ⟨q', g2⟩ (h4 p' g1 l)
      subst e
      have e2 : q = q' := by
        have : p * q = p * q' := by omega
        exact Int.eq_of_mul_eq_mul_left (by omega) this
      subst e2
      rw [ih g5]
theorem Fac.len1 {n : Int} {xs : List Int} (h : Fac n xs) (e : xs.length = 1) : xs = [n] := by
  cases h with
  | one => simp at e
  | cons h1 h2 h3 h4 h5 =>
    rename_i p q ps
    have : ps = [] := by
      cases ps with
      | nil => rfl
      | cons a r => simp at e
    subst this
    cases h5 with
    | one =>
      rw [h2, Int.mul_one]
theorem Fac.self {n : Int} (h : 2 ≤ n) (r : Rough n n) : Fac n [n] := .cons h (by omega) (by omega) r .one
theorem Rough.of_fac {n : Int} (h : Fac n [n]) : 2 ≤ n ∧ Rough n n := by
  cases h with
  | cons h1 h2 h3 h4 h5 => exact ⟨h1, h4⟩
theorem Rough.step {n d : Int} (h : Rough n d) (e : ¬ d ∣ n) : Rough n (d + 1) := fun c h1 h2 => by
  by_cases q : c = d
  · rw [q]; exact e
  · exact h c h1 (by omega)
theorem Rough.quot {n p q d : Int} (h : Rough n d) (e : n = p * q) : Rough q d := fun c h1 h2 k => h c h1 h2 (by rw [e]; exact Int.dvd_trans k (Int.dvd_mul_left p q))
/-- nothing below d divides n, d squared is above n: n has no divisor at all -/
theorem Rough.top {n d : Int} (h : Rough n d) (hd : 2 ≤ d) (hn : 2 ≤ n) (e : n < d * d) : Rough n n := fun c h1 h2 k => by
  obtain ⟨q, hq⟩ := k
  by_cases hc : c < d
  · exact h c h1 hc ⟨q, hq⟩
  · have hq0 : 0 < q := by
      apply Int.lt_of_not_ge
      intro z
      have : c * q ≤ 0 := Int.mul_nonpos_of_nonneg_of_nonpos (by omega) z
      omega
    have hq1 : q ≠ 1 := by
      intro z
      rw [z] at hq
      omega
    have hqd : q < d := by
      apply Int.lt_of_not_ge
      intro z
      have : d * d ≤ c * q := Int.mul_le_mul (by omega) z (by omega) (by omega)
      omega
    exact h q (by omega) hqd ⟨c, by rw [hq, Int.mul_comm]⟩
theorem dvd_iff {n d : Int} : n % d = 0 ↔ d ∣ n := ⟨Int.dvd_of_emod_eq_zero, Int.emod_eq_zero_of_dvd⟩
/-- a divisor taken out -/
theorem Fac.out {n num d : Int} {found : List Int} (h : ∀ ps, Fac num ps → Fac n (found ++ ps)) (hd : 2 ≤ d) (h1 : 1 ≤ num) (r : Rough num d) (e : num % d = 0) :
    (∀ ps, Fac (num / d) ps → Fac n ((found ++ [d]) ++ ps)) ∧ 1 ≤ num / d ∧ Rough (num / d) d ∧ 2 * (num / d) ≤ num := by
  have e1 : num = d * (num / d) := (Int.mul_ediv_cancel' (Int.dvd_of_emod_eq_zero e)).symm
  generalize num / d = q at *
  have q0 : 0 < q := by
    apply Int.lt_of_not_ge
    intro z
    have : d * q ≤ 0 := Int.mul_nonpos_of_nonneg_of_nonpos (by omega) z
    omega
  refine ⟨fun ps f => ?_, q0, r.quot e1, ?_⟩
  · rw [List.append_assoc]
    exact h _ (.cons hd e1 q0 r f)
  · have : 2 * q ≤ d * q := Int.mul_le_mul_of_nonneg_right hd (by omega)
    omega
theorem pow_len {L : Nat} {num n : Int} (h : 2 ^ L * num.toNat ≤ n.toNat) (h1 : 1 ≤ num) (hn : n ≤ 1000000000) : L ≤ 30 := by
  apply Nat.le_of_not_gt
  intro z
  have a : 2 ^ 31 ≤ 2 ^ L := Nat.pow_le_pow_right (by decide) z
  have b : 2 ^ L * 1 ≤ 2 ^ L * num.toNat := Nat.mul_le_mul_left _ (by omega)
  have h31 : (2 : Nat) ^ 31 = 2147483648 := by decide
  omega
theorem pow_step {L : Nat} {num q n : Int} (h : 2 ^ L * num.toNat ≤ n.toNat) (e : 2 * q ≤ num) : 2 ^ (L + 1) * q.toNat ≤ n.toNat := by
  have : 2 ^ (L + 1) * q.toNat = 2 ^ L * (2 * q.toNat) := by rw [Nat.pow_succ, Nat.mul_assoc]
  rw [this]
  exact Nat.le_trans (Nat.mul_le_mul_left _ (by omega)) h
/-! ### kinds of things -/
inductive Kd (K : PySem.W.Frag) (H : Hp) : V → String → Prop
  | non : Kd K H .non "NoneType"
  | bl (b : Bool) : Kd K H (.bl b) "bool"
  | int (i : Int) : Kd K H (.int i) "int"
  | str (x : Str) : Kd K H (.str x) "str"
  | lst {a : Addr} {xs : List V} : SqL K H a xs → Kd K H (.ref a) "list"
  | tup {a : Addr} {xs : List V} : SqT K H a xs → Kd K H (.ref a) "tuple"
theorem Kd.ty {K : PySem.W.Frag} {H : Hp} {x : V} {t : String} (h : Kd K H x t) : TyX K H x (.type t) := by
  cases h with
  | non => exact .base .non
  | bl b => exact .base (.bl b)
  | int i => exact .base (.int i)
  | str x => exact .base (.str x)
  | lst h =>
    rcases h with (h | ⟨o, h⟩) | ⟨o, its, n, h1, h2, _⟩
    · exact .base (.lst h)
    · exact .base (.frz h)
    · exact .kList h1 h2
  | tup h =>
    rcases h with (h | ⟨o, h⟩) | ⟨o, its, n, h1, h2, _⟩
    · exact .base (.tup h)
    · exact .fTuple h
    · exact .kTuple h1 h2
theorem Kd.same {K : PySem.W.Frag} {H H' : Hp} {x : V} {t : String} (h : Kd K H x t) (e : Same H H') : Kd K H' x t := by
  cases h with
  | non => exact .non
  | bl b => exact .bl b
  | int i => exact .int i
  | str x => exact .str x
  | lst h => exact .lst (e.seq h)
  | tup h => exact .tup (same_t e h)
def tis (t c : String) : Bool := t == c || (t == "bool" && c == "int")
theorem Kd.kit {K : PySem.W.Frag} {H : Hp} {x : V} {t : String} (h : Kd K H x t) : PySem.W.kitOne K (.type t) (.type "int") = some (tis t "int") ∧ PySem.W.kitOne K (.type t) (.type "bool") = some (tis t "bool") ∧ PySem.W.kitOne K (.type t) (.type "str") = some (tis t "str") ∧ PySem.W.kitOne K (.type t) (.type "list") = some (tis t "list") ∧ PySem.W.kitOne K (.type t) (.type "tuple") = some (tis t "tuple") := by
  cases h <;> exact ⟨kit_ty (by decide +kernel), kit_ty (by decide +kernel), kit_ty (by decide +kernel), kit_ty (by decide +kernel), kit_ty (by decide +kernel)⟩
theorem kit_lt {K : PySem.W.Frag} {t : String} {a b : Bool} (h1 : PySem.W.kitOne K (.type t) (.type "list") = some a) (h2 : PySem.W.kitOne K (.type t) (.type "tuple") = some b) : PySem.W.kitAny K (.type t) [.type "list", .type "tuple"] = some (a || b) := by
  refine kitAny_cons h1 (fun e => kitAny_cons h2 (fun e2 => ?_) (fun e2 => ?_)) (fun e => by rw [e]; rfl)
  · rw [e, e2]
    exact kitAny_nil
  · rw [e, e2]
    rfl
/-! ### == of lists of ints -/
theorem dp_ints {K : PySem.W.Frag} {H : Hp} : ∀ ns : List Int, DpAll K H (ns.map V.int) (ns.map PyData.int)
  | [] => .nil
  | n :: r => .cons (.int n) (dp_ints r)
theorem eqv_ints : ∀ ns ms : List Int, PyData.eqvAll (ns.map PyData.int) (ms.map PyData.int) = decide (ns = ms)
  | [], [] => by simp [PyData.eqvAll]
  | [], _ :: _ => by simp [PyData.eqvAll]
  | _ :: _, [] => by simp [PyData.eqvAll]
  | a :: r, b :: t => by
    simp only [List.map_cons, PyData.eqvAll, PyData.eqv, eqv_ints r t]
    by_cases h : a = b <;> by_cases h' : r = t <;> simp [h, h']
theorem eqd_ints {K : PySem.W.Frag} {H : Hp} {a b : Addr} {ns ms : List Int} {Q : VK} (ha : SqL K H a (ns.map V.int)) (hb : SqL K H b (ms.map V.int)) (q : Q (.bl (decide (ns = ms))) H) : rEqD K (.ref a) (.ref b) H Q := by
  refine ⟨_, _, .lst ha (dp_ints ns), .lst hb (dp_ints ms), PySem.W.ke_shaped_ints ns, PySem.W.ke_shaped_ints ms, ?_⟩
  have e : PyData.eqv (.list (ns.map PyData.int)) (.list (ms.map PyData.int)) = decide (ns = ms) := by
    rw [PyData.eqv]
    exact eqv_ints ns ms
  rw [e]
  exact q
/-! ### the law's own comparing, of like things -/
abbrev s__law_same : Stmt := top 19
abbrev N__law_same : List Str := ["_law_found", "_law_due", "_law_one", "_law_two"]
abbrev P__law_same : List Str := ["_law_found", "_law_due"]
theorem sc__law_same : FnScope N__law_same P__law_same (defScope s__law_same) := ⟨rfl, rfl, rfl, by decide +kernel, rfl, by decide +kernel, by decide +kernel⟩
def Fit : Nat → PyData → Prop
  | 0, .list _ => False
  | 0, .tuple _ => False
  | n + 1, .list ds => ds.length ≤ 4000 ∧ ∀ e ∈ ds, Fit n e
  | n + 1, .tuple ds => ds.length ≤ 4000 ∧ ∀ e ∈ ds, Fit n e
  | _, .dict _ => False
  | _, _ => True
theorem dpall_len {K : PySem.W.Frag} {H : Hp} : ∀ {xs : List V} {ds : List PyData}, DpAll K H xs ds → xs.length = ds.length
  | _, _, .nil => rfl
  | _, _, .cons _ h => by rw [List.length_cons, List.length_cons, dpall_len h]
theorem dpall_get {K : PySem.W.Frag} {H : Hp} : ∀ {xs : List V} {ds : List PyData} {i : Nat} {x : V}, DpAll K H xs ds → xs[i]? = some x → ∃ d, ds[i]? = some d ∧ Dp K H x d
  | _, _, _, _, .nil, h => by simp at h
  | _, _, 0, _, .cons (d := d) h1 h2, h => ⟨d, rfl, by
      have e := Option.some.inj h
      rw [← e]
      exact h1⟩
  | _, _, i + 1, _, .cons h1 h2, h => dpall_get (i := i) h2 h
mutual
theorem dp_same {K : PySem.W.Frag} {H H' : Hp} (e : Same H H') : ∀ {x : V} {d : PyData}, Dp K H x d → Dp K H' x d
  | _, _, .non => .non
  | _, _, .bl b => .bl b
  | _, _, .int i => .int i
  | _, _, .str x => .str x
  | _, _, .lst h a => .lst (e.seq h) (dpall_same e a)
  | _, _, .tup h a => .tup (same_t e h) (dpall_same e a)
theorem dpall_same {K : PySem.W.Frag} {H H' : Hp} (e : Same H H') : ∀ {xs : List V} {ds : List PyData}, DpAll K H xs ds → DpAll K H' xs ds
  | _, _, .nil => .nil
  | _, _, .cons h a => .cons (dp_same e h) (dpall_same e a)
end
def spSame (K : PySem.W.Frag) (n : Nat) : Sp := fun vs H Q _ => ∃ (x y : V) (d : PyData), vs = [x, y] ∧ Dp K H x d ∧ Dp K H y d ∧ Fit n d ∧ ∀ H', Same H H' → Q (.bl true) H'
/-- a comprehension over pairs -/
theorem lc_pairs {J : It} {xs ys : List V} {g : TG} {tt : TT} {te : TE} {vs : List Nat} {σ : L2.St} {H1 : Hp} {D : Addr} {Qd : Hp → Prop} (Pv : Nat → Hp → Prop) (h0 : Pv 0 (upd H1 D (.lst [])))
    (hgo : ∀ i H, Pv i H → i < xs.length → J.go i H) (hy : ∀ i H v H', Pv i H → i < xs.length → J.yld i H v H' → ∃ T x y, v = .ref T ∧ H T = none ∧ H' = upd H T (.tup [x, y]) ∧ xs[i]? = some x ∧ ys[i]? = some y)
    (hst : ∀ H, Pv xs.length H → J.stop xs.length H)
    (hs : ∀ i x y T H H', xs[i]? = some x → ys[i]? = some y → Pv i H → H T = none → H' = upd H T (.tup [x, y]) → g (.ref T) (wipe σ vs) H' fun σ2 H2 => wipe σ2 vs = wipe σ vs ∧ tt σ2 H2 fun b H3 =>
      if b = true then te σ2 H3 fun y H4 => ∃ acc, H4 D = some (.lst acc) ∧ acc.length < sizeLine ∧ Pv (i + 1) (upd H4 D (.lst (acc ++ [y]))) else Pv (i + 1) H3) (hd : ∀ H, Pv xs.length H → Qd H) :
    ∃ W : Nat → Nat → Hp → Prop, (∃ m, W 0 m (upd H1 D (.lst []))) ∧ ∀ i m H, W i m H →
      (J.stop i H ∧ Qd H) ∨ (J.go i H ∧ ∃ Nx : Hp → Prop, (∀ H', Nx H' → ∃ m', m' < m ∧ W (i + 1) m' H') ∧ ∀ x H', J.yld i H x H' → g x (wipe σ vs) H' fun σ2 H2 => wipe σ2 vs = wipe σ vs ∧ tt σ2 H2 fun b H3 =>
        if b = true then te σ2 H3 fun y H4 => ∃ acc, H4 D = some (.lst acc) ∧ acc.length < sizeLine ∧ Nx (upd H4 D (.lst (acc ++ [y]))) else Nx H3) := by
  refine ⟨fun i m H => m = xs.length - i ∧ i ≤ xs.length ∧ Pv i H, ⟨xs.length, by simp, Nat.zero_le _, h0⟩, ?_⟩
  rintro i m H ⟨rfl, hi, p⟩
  by_cases hlt : i < xs.length
  · refine .inr ⟨hgo i H p hlt, Pv (i + 1), fun H' p' => ⟨xs.length - (i + 1), by omega, rfl, hlt, p'⟩, fun v H' yl => ?_⟩
    obtain ⟨T, x, y, rfl, hT, e, f1, f2⟩ := hy i H v H' p hlt yl
    exact hs i x y T H H' f1 f2 p hT e
  · have e : i = xs.length := by omega
    subst e
    exact .inl ⟨hst H p, hd H p⟩
theorem q_dec {Q : VK} {x : V} {H : Hp} (h : Q (.bl true) H) : Q (.bl (decide (x = x))) H := by
  rw [decide_eq_true rfl]
  exact h
theorem all_true : ∀ n : Nat, (List.replicate n true).all id = true
  | 0 => rfl
  | n + 1 => by
    rw [List.replicate_succ, List.all_cons, all_true n]
    rfl
section
variable {P : Program} {w : World} {K : PySem.W.Frag} {mg : Str → Option Value} {base : Heap}
theorem same_step {f : Addr} {fd : FuncData} {n : Nat} {spI : Sp} (D__law_same : Df K mg "_law_same" s__law_same P__law_same f fd) (T : Blt mg) (G__law_same : FnOk P w K mg base CX0 n f fd P__law_same spI) (hG : ∀ m, n = m + 1 → spI = spSame K m) : FnOk P w K mg base CX0 (n + 1) f fd P__law_same (spSame K n) := by
  have nd := sc__law_same.nd
  refine D__law_same.F.ok sc__law_same (fun vs H Q E h => ?_) (fun cdv A outer s H vs Q E hr h => ?_)
  · obtain ⟨x, y, d, rfl, _⟩ := h
    rfl
  · obtain ⟨x, y, d, rfl, hx, hy, hf, q⟩ := h
    refine ⟨_, (pss_cons (ps_if (pt_val (pe_callB (r := rIsiT K) call_isiT (by rfl) T.b_isinstance (by decide +kernel) (pa_cons (pv 1) (pa_cons (pe_tup (pa_cons (pe_bltn (v := .ty "list") (by rfl) T.b_list (by decide +kernel) rfl) (pa_cons (pe_bltn (v := .ty "tuple") (by rfl) T.b_tuple (by decide +kernel) rfl) pa_nil))) pa_nil)))) (pss_cons (ps_if (PW.pt (pw_or (pt_cmpR op_ne (pe_callB (r := rIsi K) call_isi (by rfl) T.b_isinstance (by decide +kernel) (pa_cons (pv 0) (pa_cons (pe_bltn (v := .ty "list") (by rfl) T.b_list (by decide +kernel) rfl) pa_nil))) (pe_callB (r := rIsi K) call_isi (by rfl) T.b_isinstance (by decide +kernel) (pa_cons (pv 1) (pa_cons (pe_bltn (v := .ty "list") (by rfl) T.b_list (by decide +kernel) rfl) pa_nil))) (nomark _)) (pw_or1 (pt_cmpR op_ne (pe_callB (r := rIsi K) call_isi (by rfl) T.b_isinstance (by decide +kernel) (pa_cons (pv 0) (pa_cons (pe_bltn (v := .ty "tuple") (by rfl) T.b_tuple (by decide +kernel) rfl) pa_nil))) (pe_callB (r := rIsi K) call_isi (by rfl) T.b_isinstance (by decide +kernel) (pa_cons (pv 1) (pa_cons (pe_bltn (v := .ty "tuple") (by rfl) T.b_tuple (by decide +kernel) rfl) pa_nil))) (nomark _))))) (pss_one (ps_ret (pe_bl))) pss_nil)
      (pss_cons (ps_if (pt_cmpR op_ne (pe_callB (r := rLenQ K) call_len_seq (by rfl) T.b_len (by decide +kernel) (pa_cons (pv 0) pa_nil)) (pe_callB (r := rLenQ K) call_len_seq (by rfl) T.b_len (by decide +kernel) (pa_cons (pv 1) pa_nil)) (nomark _)) (pss_one (ps_ret (pe_bl))) pss_nil)
      (pss_one (ps_ret (pe_callB (r := rAll K) (cr_all rfl) (by rfl) T.b_all (by decide +kernel) (pa_cons (pe_lc (own := [("_law_one", 2), ("_law_two", 3)]) (g := gTup K 2 (gCons (gName 2) (gCons (gName 3) gNil))) (by rfl) nd (RZ.pi_zipA (by rfl) T.b_zip (pa_cons (pv 0) (pa_cons (pv 1) pa_nil))) (blkOk_by (own := [("_law_one", 2), ("_law_two", 3)]) (N := N__law_same) (sc := defScope s__law_same) (by decide +kernel)) (fun _ _ _ _ _ => (pg_tup (by rfl) (pgs_cons (pg_name (i := 2) nd rfl (Or.inl rfl)) (pgs_cons (pg_name (i := 3) nd rfl (Or.inl rfl)) pgs_nil)))) (fun _ _ _ _ _ => pts_nil) (fun _ _ _ _ _ => (pe_call G__law_same (hr.mono (by omega)) (by rfl) D__law_same.g D__law_same.F.kp D__law_same.b .nil pass0 (pa_cons (pv 2) (pa_cons (pv 3) pa_nil))))) pa_nil)))))) pss_nil)
      (pss_cons (ps_if (PW.pt (pw_or (pt_cmpR op_isN (pv 1) (pe_non) (nomark _)) (pw_or1 (pt_val (pe_callB (r := rIsi K) call_isi (by rfl) T.b_isinstance (by decide +kernel) (pa_cons (pv 1) (pa_cons (pe_bltn (v := .ty "str") (by rfl) T.b_str (by decide +kernel) rfl) pa_nil))))))) (pss_one (ps_ret (pe_and (pe_cmpR op_eq (pv 0) (pv 1) (nomark _)) (pe_one (pe_cmpR op_eq (pe_callB (r := rIsi K) call_isi (by rfl) T.b_isinstance (by decide +kernel) (pa_cons (pv 0) (pa_cons (pe_bltn (v := .ty "str") (by rfl) T.b_str (by decide +kernel) rfl) pa_nil))) (pe_callB (r := rIsi K) call_isi (by rfl) T.b_isinstance (by decide +kernel) (pa_cons (pv 1) (pa_cons (pe_bltn (v := .ty "str") (by rfl) T.b_str (by decide +kernel) rfl) pa_nil))) (nomark _)))))) pss_nil)
      (pss_one (ps_ret (pe_and (pe_callB (r := rIsi K) call_isi (by rfl) T.b_isinstance (by decide +kernel) (pa_cons (pv 0) (pa_cons (pe_bltn (v := .ty "int") (by rfl) T.b_int (by decide +kernel) rfl) pa_nil))) (pe_and (pe_cmpR op_eq (pe_callB (r := rIsi K) call_isi (by rfl) T.b_isinstance (by decide +kernel) (pa_cons (pv 0) (pa_cons (pe_bltn (v := .ty "bool") (by rfl) T.b_bool (by decide +kernel) rfl) pa_nil))) (pe_callB (r := rIsi K) call_isi (by rfl) T.b_isinstance (by decide +kernel) (pa_cons (pv 1) (pa_cons (pe_bltn (v := .ty "bool") (by rfl) T.b_bool (by decide +kernel) rfl) pa_nil))) (nomark _)) (pe_one (pe_cmpR op_eq (pv 0) (pv 1) (nomark _))))))))), ?_⟩
    cases hx with
    | non =>
      cases hy
      walk_at "ev"
      intro p hp
      generalize hH : upd _ p _ = H1
      obtain ⟨sm, hp1⟩ := newO hH hp
      have kd : Kd K H1 .non "NoneType" := .non
      have ty := kd.ty
      obtain ⟨k1, k2, k3, k4, k5⟩ := kd.kit
      have ka := kit_lt k4 k5
      walk_at "ev"
      exact q_dec (q _ sm)
    | bl b =>
      cases hy
      walk_at "ev"
      intro p hp
      generalize hH : upd _ p _ = H1
      obtain ⟨sm, hp1⟩ := newO hH hp
      have kd : Kd K H1 (.bl b) "bool" := .bl b
      have ty := kd.ty
      obtain ⟨k1, k2, k3, k4, k5⟩ := kd.kit
      have ka := kit_lt k4 k5
      walk_at "ev"
      exact q_dec (q _ sm)
    | int i =>
      cases hy
      walk_at "ev"
      intro p hp
      generalize hH : upd _ p _ = H1
      obtain ⟨sm, hp1⟩ := newO hH hp
      have kd : Kd K H1 (.int i) "int" := .int i
      have ty := kd.ty
      obtain ⟨k1, k2, k3, k4, k5⟩ := kd.kit
      have ka := kit_lt k4 k5
      walk_at "ev"
      exact q_dec (q _ sm)
    | str z =>
      cases hy
      walk_at "ev"
      intro p hp
      generalize hH : upd _ p _ = H1
      obtain ⟨sm, hp1⟩ := newO hH hp
      have kd : Kd K H1 (.str z) "str" := .str z
      have ty := kd.ty
      obtain ⟨k1, k2, k3, k4, k5⟩ := kd.kit
      have ka := kit_lt k4 k5
      walk_at "ev"
      exact q_dec (q _ sm)
    | lst hs ha =>
      rename_i a xs ds
      cases hy with
      | lst ht hb =>
      rename_i b ys
      have el : ys.length = xs.length := (dpall_len hb).trans (dpall_len ha).symm
      have el' : V.int (xs.length : Int) = V.int (ys.length : Int) := by rw [el]
      cases n with
      | zero => exact hf.elim
      | succ n =>
      have hf' : ds.length ≤ 4000 ∧ ∀ e ∈ ds, Fit n e := hf
      have hS := hG n rfl
      subst hS
      walk_at "ev"
      intro p hp
      generalize hH : upd _ p _ = H1
      obtain ⟨sm, hp1⟩ := newO hH hp
      have hs1 := sm.seq hs
      have ht1 := sm.seq ht
      have kd : Kd K H1 (.ref a) "list" := .lst hs1
      have ty := kd.ty
      have kd' : Kd K H1 (.ref b) "list" := .lst ht1
      have ty' := kd'.ty
      obtain ⟨k1, k2, k3, k4, k5⟩ := kd.kit
      have ka := kit_lt k4 k5
      walk_at "ev"
      refine .inl ⟨hs1, ht1, fun D hD => ?_⟩
      refine lc_pairs (xs := xs) (ys := ys) (fun i H' => Hold (Same H1 H' ∧ H' D = some (.lst ((List.replicate i true).map V.bl)))) (.mk ⟨same_new hD, upd_same⟩) ?_ ?_ ?_ ?_ ?_
      · intro i H' hP hi
        obtain ⟨sm2, hD2⟩ := hP.un
        have hi2 : i < ys.length := by omega
        exact ⟨xs, ys, _, _, sm2.seq hs1, sm2.seq ht1, List.getElem?_eq_getElem hi, List.getElem?_eq_getElem hi2⟩
      · intro i H' v H'' hP hi yl
        obtain ⟨sm2, hD2⟩ := hP.un
        obtain ⟨T, x, y, e1, e2, e3, f1, f2⟩ := yl
        exact ⟨T, x, y, e1, e2, e3, f1 _ (sm2.seq hs1), f2 _ (sm2.seq ht1)⟩
      · intro H' hP
        obtain ⟨sm2, hD2⟩ := hP.un
        exact ⟨xs, ys, sm2.seq hs1, sm2.seq ht1, .inl (Nat.le_refl _)⟩
      · intro i x y T' H' H'' hx hy hP hT e
        obtain ⟨sm2, hD2⟩ := hP.un
        obtain ⟨sm3, hT3⟩ := newO e.symm hT
        have hT4 : SqT K H'' T' [x, y] := SqT.of hT3
        obtain ⟨d, hd, hdx⟩ := dpall_get ha hx
        obtain ⟨d', hd', hdy⟩ := dpall_get hb hy
        have ed : d' = d := Option.some.inj (hd'.symm.trans hd)
        subst ed
        have sm4 : Same H H'' := (sm.trans sm2).trans sm3
        have dx := dp_same sm4 hdx
        have dy := dp_same sm4 hdy
        have ft := hf'.2 _ (List.mem_of_getElem? hd)
        have hil : i < xs.length := (List.getElem?_eq_some_iff.mp hx).1
        have hdl := dpall_len ha
        have hlen : i ≤ 4000 := by omega
        walk_at "ev"
        intro H5 sm5
        have hD5 := sm5 _ _ (sm3 _ _ hD2)
        refine ⟨_, hD5, szm (by simp; omega), .mk ⟨same_mut ((sm2.trans sm3).trans sm5) hD, ?_⟩⟩
        rw [upd_same, List.replicate_succ', List.map_append]
        rfl
      · intro H' hP
        obtain ⟨sm2, hD2⟩ := hP.un
        refine ⟨D, List.replicate xs.length true, rfl, SqL.of hD2, ?_⟩
        rw [all_true]
        exact q _ (sm.trans sm2)
    | tup hs ha =>
      rename_i a xs ds
      cases hy with
      | tup ht hb =>
      rename_i b ys
      have el : ys.length = xs.length := (dpall_len hb).trans (dpall_len ha).symm
      have el' : V.int (xs.length : Int) = V.int (ys.length : Int) := by rw [el]
      cases n with
      | zero => exact hf.elim
      | succ n =>
      have hf' : ds.length ≤ 4000 ∧ ∀ e ∈ ds, Fit n e := hf
      have hS := hG n rfl
      subst hS
      walk_at "ev"
      intro p hp
      generalize hH : upd _ p _ = H1
      obtain ⟨sm, hp1⟩ := newO hH hp
      have hs1 := same_t sm hs
      have ht1 := same_t sm ht
      have kd : Kd K H1 (.ref a) "tuple" := .tup hs1
      have ty := kd.ty
      have kd' : Kd K H1 (.ref b) "tuple" := .tup ht1
      have ty' := kd'.ty
      obtain ⟨k1, k2, k3, k4, k5⟩ := kd.kit
      have ka := kit_lt k4 k5
      walk_at "ev"
      refine .inr ⟨hs1, ht1, fun D hD => ?_⟩
      refine lc_pairs (xs := xs) (ys := ys) (fun i H' => Hold (Same H1 H' ∧ H' D = some (.lst ((List.replicate i true).map V.bl)))) (.mk ⟨same_new hD, upd_same⟩) ?_ ?_ ?_ ?_ ?_
      · intro i H' hP hi
        obtain ⟨sm2, hD2⟩ := hP.un
        have hi2 : i < ys.length := by omega
        exact ⟨xs, ys, _, _, same_t sm2 hs1, same_t sm2 ht1, List.getElem?_eq_getElem hi, List.getElem?_eq_getElem hi2⟩
      · intro i H' v H'' hP hi yl
        obtain ⟨sm2, hD2⟩ := hP.un
        obtain ⟨T, x, y, e1, e2, e3, f1, f2⟩ := yl
        exact ⟨T, x, y, e1, e2, e3, f1 _ (same_t sm2 hs1), f2 _ (same_t sm2 ht1)⟩
      · intro H' hP
        obtain ⟨sm2, hD2⟩ := hP.un
        exact ⟨xs, ys, same_t sm2 hs1, same_t sm2 ht1, .inl (Nat.le_refl _)⟩
      · intro i x y T' H' H'' hx hy hP hT e
        obtain ⟨sm2, hD2⟩ := hP.un
        obtain ⟨sm3, hT3⟩ := newO e.symm hT
        have hT4 : SqT K H'' T' [x, y] := SqT.of hT3
        obtain ⟨d, hd, hdx⟩ := dpall_get ha hx
        obtain ⟨d', hd', hdy⟩ := dpall_get hb hy
        have ed : d' = d := Option.some.inj (hd'.symm.trans hd)
        subst ed
        have sm4 : Same H H'' := (sm.trans sm2).trans sm3
        have dx := dp_same sm4 hdx
        have dy := dp_same sm4 hdy
        have ft := hf'.2 _ (List.mem_of_getElem? hd)
        have hil : i < xs.length := (List.getElem?_eq_some_iff.mp hx).1
        have hdl := dpall_len ha
        have hlen : i ≤ 4000 := by omega
        walk_at "ev"
        intro H5 sm5
        have hD5 := sm5 _ _ (sm3 _ _ hD2)
        refine ⟨_, hD5, szm (by simp; omega), .mk ⟨same_mut ((sm2.trans sm3).trans sm5) hD, ?_⟩⟩
        rw [upd_same, List.replicate_succ', List.map_append]
        rfl
      · intro H' hP
        obtain ⟨sm2, hD2⟩ := hP.un
        refine ⟨D, List.replicate xs.length true, rfl, SqL.of hD2, ?_⟩
        rw [all_true]
        exact q _ (sm.trans sm2)
theorem ok_same {f : Addr} {fd : FuncData} (D__law_same : Df K mg "_law_same" s__law_same P__law_same f fd) (T : Blt mg) : ∀ n : Nat, FnOk P w K mg base CX0 (n + 1) f fd P__law_same (spSame K n)
  | 0 => same_step (spI := fun _ _ _ _ => False) D__law_same T ⟨fun _ _ _ _ h => h.elim, fun _ _ _ _ _ _ _ _ _ _ _ _ _ h => h.elim⟩ (fun m h => by omega)
  | n + 1 => same_step D__law_same T (ok_same D__law_same T n) (fun m h => by cases h; rfl)
end
theorem srt_ext : ∀ {l m : List Int}, l.Pairwise (· < ·) → m.Pairwise (· < ·) → (∀ k, k ∈ l ↔ k ∈ m) → l = m
  | [], [], _, _, _ => rfl
  | [], y :: m, _, _, h => by
    have := (h y).mpr List.mem_cons_self
    simp at this
  | x :: l, [], _, _, h => by
    have := (h x).mp List.mem_cons_self
    simp at this
  | x :: l, y :: m, hl, hm, h => by
    obtain ⟨hx, hl'⟩ := List.pairwise_cons.mp hl
    obtain ⟨hy, hm'⟩ := List.pairwise_cons.mp hm
    have e : x = y := by
      have a1 := (h x).mp List.mem_cons_self
      have a2 := (h y).mpr List.mem_cons_self
      rcases List.mem_cons.mp a1 with e | e
      · exact e
      · rcases List.mem_cons.mp a2 with e2 | e2
        · exact e2.symm
        · have := hy x e
          have := hx y e2
          omega
    subst e
    rw [srt_ext hl' hm' fun k => ?_]
    constructor
    · intro hk
      rcases List.mem_cons.mp ((h k).mp (List.mem_cons_of_mem _ hk)) with e | e
      · have := hx k hk
        omega
      · exact e
    · intro hk
      rcases List.mem_cons.mp ((h k).mpr (List.mem_cons_of_mem _ hk)) with e | e
      · have := hy k hk
        omega
      · exact e
/-! ### all divisors, rising -/
/-- ds is the rising list of all that divides n -/
def IsDv (n : Int) (ds : List Int) : Prop := ds.Pairwise (· < ·) ∧ ∀ k, k ∈ ds ↔ 1 ≤ k ∧ k ∣ n
theorem IsDv.uniq {n : Int} {l m : List Int} (a : IsDv n l) (b : IsDv n m) : l = m := srt_ext a.1 b.1 fun k => (a.2 k).trans (b.2 k).symm
theorem sq_lt {a b : Int} (ha : 0 ≤ a) (h : a * a < b * b) (hb : 0 ≤ b) : a < b := by
  apply Int.lt_of_not_ge
  intro z
  have : b * b ≤ a * a := Int.mul_le_mul z z hb ha
  omega
/-- low: those below c; high: the partners of those whose square is less, falling -/
structure Half (n c : Int) (low high : List Int) : Prop where
  up : low.Pairwise (· < ·)
  mem : ∀ k, k ∈ low ↔ 1 ≤ k ∧ k < c ∧ k ∣ n
  down : high.Pairwise (· > ·)
  part : ∀ y, y ∈ high ↔ ∃ d, 1 ≤ d ∧ d < c ∧ d * d < n ∧ y * d = n
  sq : ∀ d, 1 ≤ d → d < c → d * d ≤ n
theorem Half.start (n : Int) : Half n 1 [] [] := ⟨.nil, fun k => ⟨fun h => by simp at h, fun ⟨a, b, _⟩ => by omega⟩, .nil, fun y => ⟨fun h => by simp at h, fun ⟨d, a, b, _⟩ => by omega⟩, fun d a b => by omega⟩
theorem Half.skip {n c : Int} {low high : List Int} (h : Half n c low high) (hc : 1 ≤ c) (e : ¬ c ∣ n) (s : c * c ≤ n) : Half n (c + 1) low high := by
  refine ⟨h.up, fun k => ?_, h.down, fun y => ?_, fun d a b => ?_⟩
  · rw [h.mem]
    constructor
    · rintro ⟨a, b, d⟩
      exact ⟨a, by omega, d⟩
    · rintro ⟨a, b, d⟩
      refine ⟨a, ?_, d⟩
      have : k ≠ c := fun z => e (z ▸ d)
      omega
  · rw [h.part]
    constructor
    · rintro ⟨d, a, b, x, z⟩
      exact ⟨d, a, by omega, x, z⟩
    · rintro ⟨d, a, b, x, z⟩
      refine ⟨d, a, ?_, x, z⟩
      have : d ≠ c := fun w => e ⟨y, by rw [← w, Int.mul_comm]; exact z.symm⟩
      omega
  · by_cases z : d = c
    · rw [z]; exact s
    · exact h.sq d a (by omega)
theorem pw_append {R : Int → Int → Prop} {l : List Int} {x : Int} (h : l.Pairwise R) (k : ∀ y ∈ l, R y x) : (l ++ [x]).Pairwise R := by
  rw [List.pairwise_append]
  exact ⟨h, List.pairwise_singleton _ _, fun a ha b hb => by
    have e : b = x := by simpa using hb
    rw [e]
    exact k a ha⟩
theorem Half.low {n c : Int} {low high : List Int} (h : Half n c low high) (hc : 1 ≤ c) (e : c ∣ n) (s : c * c ≤ n) :
    (c * c < n → Half n (c + 1) (low ++ [c]) (high ++ [n / c])) ∧ (¬ c * c < n → Half n (c + 1) (low ++ [c]) high) := by
  have up : (low ++ [c]).Pairwise (· < ·) := pw_append h.up fun y hy => ((h.mem y).mp hy).2.1
  have mem : ∀ k, k ∈ low ++ [c] ↔ 1 ≤ k ∧ k < c + 1 ∧ k ∣ n := fun k => by
    rw [List.mem_append, h.mem, List.mem_singleton]
    constructor
    · rintro (⟨a, b, d⟩ | z)
      · exact ⟨a, by omega, d⟩
      · rw [z]
        exact ⟨hc, by omega, e⟩
    · rintro ⟨a, b, d⟩
      by_cases z : k = c
      · exact .inr z
      · exact .inl ⟨a, by omega, d⟩
  have sq : ∀ d, 1 ≤ d → d < c + 1 → d * d ≤ n := fun d a b => by
    by_cases z : d = c
    · rw [z]; exact s
    · exact h.sq d a (by omega)
  have ec : n / c * c = n := Int.ediv_mul_cancel e
  constructor
  · intro lt
    refine ⟨up, mem, pw_append h.down fun y hy => ?_, fun y => ?_, sq⟩
    · obtain ⟨d, a, b, x, z⟩ := (h.part y).mp hy
      show n / c < y
      apply Int.lt_of_not_ge
      intro w
      have p1 : y * d ≤ n / c * d := Int.mul_le_mul_of_nonneg_right w (by omega)
      have q0 : 0 < n / c := by
        apply Int.lt_of_not_ge
        intro v
        have : n / c * c ≤ 0 := Int.mul_nonpos_of_nonpos_of_nonneg v (by omega)
        have : 1 * 1 ≤ c * c := Int.mul_le_mul hc hc (by omega) (by omega)
        omega
      have p2 : n / c * d < n / c * c := Int.mul_lt_mul_of_pos_left b q0
      omega
    · rw [List.mem_append, h.part, List.mem_singleton]
      constructor
      · rintro (⟨d, a, b, x, z⟩ | w)
        · exact ⟨d, a, by omega, x, z⟩
        · rw [w]
          exact ⟨c, hc, by omega, lt, ec⟩
      · rintro ⟨d, a, b, x, z⟩
        by_cases w : d = c
        · right
          subst w
          have : y * d = n / d * d := by omega
          exact Int.eq_of_mul_eq_mul_right (by omega) this
        · exact .inl ⟨d, a, by omega, x, z⟩
  · intro nlt
    refine ⟨up, mem, h.down, fun y => ?_, sq⟩
    rw [h.part]
    constructor
    · rintro ⟨d, a, b, x, z⟩
      exact ⟨d, a, by omega, x, z⟩
    · rintro ⟨d, a, b, x, z⟩
      refine ⟨d, a, ?_, x, z⟩
      have : d ≠ c := fun w => nlt (w ▸ x)
      omega
theorem Half.done {n c : Int} {low high : List Int} (h : Half n c low high) (hn : 1 ≤ n) (hc : 1 ≤ c) (e : n < c * c) : IsDv n (low ++ high.reverse) := by
  constructor
  · rw [List.pairwise_append]
    refine ⟨h.up, ?_, fun x hx y hy => ?_⟩
    · rw [List.pairwise_reverse]
      exact h.down
    · obtain ⟨a, b, d⟩ := (h.mem x).mp hx
      obtain ⟨d', a', b', s', z'⟩ := (h.part y).mp (List.mem_reverse.mp hy)
      have sx := h.sq x a b
      -- y * y > n ≥ x * x
      have y0 : 0 < y := by
        apply Int.lt_of_not_ge
        intro v
        have : y * d' ≤ 0 := Int.mul_nonpos_of_nonpos_of_nonneg v (by omega)
        omega
      have yd : d' < y := by
        apply Int.lt_of_not_ge
        intro v
        have : y * d' ≤ d' * d' := Int.mul_le_mul_of_nonneg_right v (by omega)
        omega
      have : y * d' < y * y := Int.mul_lt_mul_of_pos_left yd y0
      exact sq_lt (by omega) (by omega) (by omega)
  · intro k
    rw [List.mem_append, List.mem_reverse, h.mem, h.part]
    constructor
    · rintro (⟨a, b, d⟩ | ⟨d, a, b, x, z⟩)
      · exact ⟨a, d⟩
      · refine ⟨?_, ⟨d, z.symm⟩⟩
        show 0 < k
        apply Int.lt_of_not_ge
        intro v
        have : k * d ≤ 0 := Int.mul_nonpos_of_nonpos_of_nonneg (by omega) (by omega)
        omega
    · rintro ⟨a, b⟩
      by_cases kc : k < c
      · exact .inl ⟨a, kc, b⟩
      · right
        obtain ⟨d, hd⟩ := b
        have d0 : 0 < d := by
          apply Int.lt_of_not_ge
          intro v
          have : k * d ≤ 0 := Int.mul_nonpos_of_nonneg_of_nonpos (by omega) v
          omega
        have dc : d < c := by
          apply Int.lt_of_not_ge
          intro v
          have : c * c ≤ k * d := Int.mul_le_mul (by omega) v (by omega) (by omega)
          omega
        have dk : d < k := by omega
        have : d * d < k * d := Int.mul_lt_mul_of_pos_right dk d0
        exact ⟨d, by omega, dc, by omega, hd.symm⟩
theorem half_len {m : Int} (hm : 1 ≤ m) (hm2 : m ≤ 1000000) : ∀ c : Nat, 1 ≤ c → (∃ (c' : Nat) (low high : List Int), 1 ≤ c' ∧ c' ≤ c ∧ m < (c' : Int) * c' ∧ Half m c' low high ∧ low.length + high.length + 2 ≤ 2 * c') ∨ (∃ low high : List Int, Half m c low high ∧ low.length + high.length + 2 ≤ 2 * c) := by
  intro c
  induction c with
  | zero => intro h; omega
  | succ c ih =>
    intro _
    by_cases c0 : c = 0
    · subst c0
      exact .inr ⟨[], [], Half.start m, by simp⟩
    · rcases ih (by omega) with ⟨c', low, high, a1, a2, a3, a4, a5⟩ | ⟨low, high, a4, a5⟩
      · exact .inl ⟨c', low, high, a1, by omega, a3, a4, a5⟩
      · by_cases z : m < (c : Int) * c
        · exact .inl ⟨c, low, high, by omega, by omega, z, a4, a5⟩
        · have e1 : (((c + 1 : Nat) : Int)) = (c : Int) + 1 := by omega
          by_cases dv : (c : Int) ∣ m
          · obtain ⟨b1, b2⟩ := a4.low (by omega) dv (by omega)
            by_cases lt : (c : Int) * c < m
            · refine .inr ⟨_, _, by rw [e1]; exact b1 lt, ?_⟩
              simp
              omega
            · refine .inr ⟨_, _, by rw [e1]; exact b2 lt, ?_⟩
              simp
              omega
          · refine .inr ⟨low, high, by rw [e1]; exact a4.skip (by omega) dv (by omega), by omega⟩
theorem IsDv.len {m : Int} {ds : List Int} (h : IsDv m ds) (hm : 1 ≤ m) (hm2 : m ≤ 1000000) : ds.length ≤ 2000 := by
  rcases half_len hm hm2 1001 (by decide) with ⟨c', low, high, a1, a2, a3, a4, a5⟩ | ⟨low, high, a4, a5⟩
  · have e := h.uniq (a4.done hm (by omega) a3)
    rw [e, List.length_append, List.length_reverse]
    omega
  · have big : m < ((1001 : Nat) : Int) * ((1001 : Nat) : Int) := by
      have e : ((1001 : Nat) : Int) * ((1001 : Nat) : Int) = 1002001 := by decide
      omega
    have e := h.uniq (a4.done hm (by omega) big)
    rw [e, List.length_append, List.length_reverse]
    omega
theorem dv_one : IsDv 1 [1] := by
  refine ⟨List.pairwise_singleton _ _, fun k => ?_⟩
  rw [List.mem_singleton]
  constructor
  · intro e
    rw [e]
    exact ⟨by decide, Int.dvd_refl _⟩
  · rintro ⟨a, b⟩
    exact Int.le_antisymm (Int.le_of_dvd (by decide) b) a
/-- d divides m * p, p a prime -/
theorem dv_prime {k m p : Int} (hk : 1 ≤ k) (hp : 2 ≤ p) (r : Rough p p) (h : k ∣ m * p) : k ∣ m ∨ ∃ e, k = e * p := by
  by_cases hpk : p ∣ k
  · obtain ⟨e, he⟩ := hpk
    exact .inr ⟨e, by rw [he, Int.mul_comm]⟩
  · left
    have hg : Nat.gcd k.natAbs p.natAbs = 1 := by
      have d1 := Nat.gcd_dvd_left k.natAbs p.natAbs
      have d2 := Nat.gcd_dvd_right k.natAbs p.natAbs
      generalize Nat.gcd k.natAbs p.natAbs = g at *
      have gp : (g : Int) ∣ p := by
        rw [← Int.natAbs_dvd_natAbs, Int.natAbs_natCast]
        exact d2
      have gk : (g : Int) ∣ k := by
        rw [← Int.natAbs_dvd_natAbs, Int.natAbs_natCast]
        exact d1
      have gle : (g : Int) ≤ p := Int.le_of_dvd (by omega) gp
      have g0 : g ≠ 0 := fun z => by
        rw [z] at gp
        have := Int.zero_dvd.mp gp
        omega
      by_cases g1 : g = 1
      · exact g1
      · exfalso
        by_cases gpe : (g : Int) = p
        · rw [gpe] at gk
          exact hpk gk
        · exact r g (by omega) (by omega) gp
    have h1 : k.natAbs ∣ m.natAbs * p.natAbs := by
      rw [← Int.natAbs_mul]
      exact Int.natAbs_dvd_natAbs.mpr h
    have h2 := Nat.Coprime.dvd_of_dvd_mul_right (show Nat.Coprime k.natAbs p.natAbs from hg) h1
    exact Int.natAbs_dvd_natAbs.mp h2
theorem dv_step {m p : Int} {found out : List Int} (h : IsDv m found) (hp : 2 ≤ p) (r : Rough p p) (hs : out.Pairwise (· < ·)) (hm : ∀ k, k ∈ out ↔ k ∈ found ++ found.map (· * p)) : IsDv (m * p) out := by
  refine ⟨hs, fun k => ?_⟩
  rw [hm, List.mem_append, List.mem_map, h.2]
  constructor
  · rintro (⟨a, b⟩ | ⟨x, hx, e⟩)
    · exact ⟨a, Int.dvd_trans b (Int.dvd_mul_right m p)⟩
    · obtain ⟨a, b⟩ := (h.2 x).mp hx
      rw [← e]
      refine ⟨?_, Int.mul_dvd_mul_right p b⟩
      have : 1 * 1 ≤ x * p := Int.mul_le_mul a (by omega) (by omega) (by omega)
      omega
  · rintro ⟨a, b⟩
    rcases dv_prime a hp r b with z | ⟨e, he⟩
    · exact .inl ⟨a, z⟩
    · right
      refine ⟨e, (h.2 e).mpr ⟨?_, ?_⟩, he.symm⟩
      · show 0 < e
        apply Int.lt_of_not_ge
        intro v
        have : e * p ≤ 0 := Int.mul_nonpos_of_nonpos_of_nonneg (by omega) (by omega)
        omega
      · rw [he] at b
        exact Int.dvd_of_mul_dvd_mul_right (by omega) b
abbrev s_divisors : Stmt := top 8
abbrev N_divisors : List Str := ["number", "low", "high", "divisor"]
abbrev P_divisors : List Str := ["number"]
theorem sc_divisors : FnScope N_divisors P_divisors (defScope s_divisors) := ⟨rfl, rfl, rfl, by decide +kernel, rfl, by decide +kernel, by decide +kernel⟩
def spDiv : Sp := fun vs H Q _ => ∃ (n : Int), vs = [.int n] ∧ 1 ≤ n ∧ n ≤ 1000000 ∧ ∀ ds l H', IsDv n ds → H l = none → Same H H' → H' l = some (.lst (ds.map V.int)) → Q (.ref l) H'
section
variable {P : Program} {w : World} {K : PySem.W.Frag} {mg : Str → Option Value} {base : Heap}
theorem ok_divisors {f : Addr} {fd : FuncData} {k : Nat} (F : Fun K "divisors" "divisors" s_divisors f fd) (T : Blt mg) : FnOk P w K mg base CX0 (k + 1) f fd P_divisors spDiv := by
  have nd := sc_divisors.nd
  refine F.ok sc_divisors (fun vs H Q E h => ?_) (fun cdv A outer s H vs Q E hr h => ?_)
  · obtain ⟨n, rfl, _⟩ := h
    rfl
  · obtain ⟨n, rfl, h1, h2, q⟩ := h
    refine ⟨_, (pss_cons (ps_set (i := 1) nd rfl (Or.inl rfl) (pe_lst pa_nil))
      (pss_cons (ps_set (i := 2) nd rfl (Or.inl rfl) (pe_lst pa_nil))
      (pss_cons (ps_set (i := 3) nd rfl (Or.inl rfl) (pe_int))
      (pss_cons (ps_while PassesOwn.never (pt_cmpR op_le (pe_op op_mul (pv 3) (pv 3)) (pv 0) (nomark _))
      (pss_cons (ps_if (pt_cmpR op_eq (pe_op op_mod (pv 0) (pv 3)) (pe_int) (nomark _)) (pss_cons (ps_expr (pe_bm PySem.F.plainAttrs_list PySem.F.slot_list_append PySem.F.type_list_append mt_append (pv 1) (pa_cons (pv 3) pa_nil)))
      (pss_one (ps_if (pt_cmpR op_lt (pe_op op_mul (pv 3) (pv 3)) (pv 0) (nomark _)) (pss_one (ps_expr (pe_bm PySem.F.plainAttrs_list PySem.F.slot_list_append PySem.F.type_list_append mt_append (pv 2) (pa_cons (pe_op op_fdiv (pv 0) (pv 3)) pa_nil)))) pss_nil))) pss_nil)
      (pss_one (ps_aug (i := 3) nd rfl (Or.inl rfl) (pe_int) ip_add))))
      (pss_one (ps_ret (pe_op op_cat (pv 1) (pe_revL (pv 2))))))))), ?_⟩
    walk_at "ev"
    intro a ha
    generalize hG1 : upd _ a _ = H1
    obtain ⟨sm1, hq1⟩ := newO hG1 ha
    walk_at "ev"
    intro b hb
    generalize hG2 : upd _ b _ = H2
    obtain ⟨sm2, hq2⟩ := newO hG2 hb
    have nab : a ≠ b := ne_of_none hq1 hb
    have hbf : H b = none := sm1.free hb
    refine ⟨fun m σ H' => ∃ (c : Int) (low high : List Int), σ = [some (.int n), some (.ref a), some (.ref b), some (.int c)] ∧ m = (n + 1 - c).toNat ∧ 1 ≤ c ∧ c ≤ 1001 ∧ c ≤ n + 1 ∧ Half n c low high ∧ low.length + high.length + 2 ≤ 2 * c.toNat ∧ Same H H' ∧ H' a = some (.lst (low.map V.int)) ∧ H' b = some (.lst (high.map V.int)), ⟨_, 1, [], [], rfl, rfl, by omega, by omega, by omega, Half.start n, by simp, sm1.trans sm2, sm2 _ _ hq1, hq2⟩, ?_⟩
    rintro m σ H' ⟨c, low, high, rfl, rfl, c1, c2, c3, hf, hl, sm, hqa, hqb⟩
    have cm : CMul c c := .inl ⟨by omega, by omega⟩
    walk_at "ev"
    refine ite2 (fun e => ?_) (fun e => ?_)
    · have e1 : c * c ≤ n := of_decide_eq_true e
      have cl : c ≤ c * c := by
        have : 1 * c ≤ c * c := Int.mul_le_mul_of_nonneg_right c1 (by omega)
        omega
      have c1000 : c ≤ 1000 := by
        apply Int.le_of_not_gt
        intro z
        have : 1001 * 1001 ≤ c * c := Int.mul_le_mul (by omega) (by omega) (by omega) (by omega)
        omega
      refine ⟨_, holdN, ?_⟩
      walk_at "ev"
      refine ite2 (fun e2 => ?_) (fun e2 => ?_)
      · have e3 : n % c = 0 := V.int.inj (of_decide_eq_true e2)
        obtain ⟨g1, g2⟩ := hf.low c1 (dvd_iff.mp e3) e1
        have hty : tyV K "list" (.ref a) H' := .inl ⟨rfl, _, SqL.of hqa⟩
        have hsa : (low.map V.int).length < sizeLine := by
          rw [List.length_map]
          exact szm (by omega)
        walk_at "ev"
        generalize hG3 : upd H' a _ = H3
        have hqa3 : H3 a = some (.lst ((low ++ [c]).map V.int)) := by
          rw [(mutO hG3).2, List.map_append]
          rfl
        have hqb3 : H3 b = some (.lst (high.map V.int)) := (mutO hG3).1 _ _ nab.symm hqb
        have sm3 : Same H H3 := by
          rw [← hG3]
          exact same_mut sm ha
        clear hG3
        refine ite2 (fun e4 => ?_) (fun e4 => ?_)
        · have e5 : c * c < n := of_decide_eq_true e4
          have hty3 : tyV K "list" (.ref b) H3 := .inl ⟨rfl, _, SqL.of hqb3⟩
          have hsb : (high.map V.int).length < sizeLine := by
            rw [List.length_map]
            exact szm (by omega)
          walk_at "ev"
          refine .mk ⟨(n + 1 - (c + 1)).toNat, by omega, c + 1, low ++ [c], high ++ [n / c], rfl, rfl, by omega, by omega, by omega, g1 e5, ?_, same_mut sm3 hbf, ?_, ?_⟩
          · simp
            omega
          · rw [upd_ne nab]
            exact hqa3
          · rw [upd_same, List.map_append]
            rfl
        · have e5 : ¬ c * c < n := fun z => e4 (decide_eq_true z)
          walk_at "ev"
          refine .mk ⟨(n + 1 - (c + 1)).toNat, by omega, c + 1, low ++ [c], high, rfl, rfl, by omega, by omega, by omega, g2 e5, ?_, sm3, hqa3, hqb3⟩
          simp
          omega
      · have e3 : ¬ n % c = 0 := fun z => e2 (decide_eq_true (congrArg V.int z))
        walk_at "ev"
        exact .mk ⟨(n + 1 - (c + 1)).toNat, by omega, c + 1, low, high, rfl, rfl, by omega, by omega, by omega, hf.skip c1 (fun z => e3 (dvd_iff.mpr z)) e1, by omega, sm, hqa, hqb⟩
    · have e1 : ¬ c * c ≤ n := fun z => e (decide_eq_true z)
      have hLb : SqL K H' b (high.map V.int) := SqL.of hqb
      walk_at "ev"
      intro r hr'
      generalize hG3 : upd _ r _ = H3
      obtain ⟨sm3, hq3⟩ := newO hG3 hr'
      have hqa3 := sm3 _ _ hqa
      have hsz : (low.map V.int).length + (high.map V.int).reverse.length ≤ sizeLine := by
        rw [List.length_map, List.length_reverse, List.length_map]
        exact szl (by omega)
      walk_at "ev"
      intro p hp
      generalize hG4 : upd _ p _ = H4
      obtain ⟨sm4, hq4⟩ := newO hG4 hp
      refine q (low ++ high.reverse) p H4 (hf.done h1 c1 (by omega)) ((sm.trans sm3).free hp) (sm.trans (sm3.trans sm4)) ?_
      rw [hq4, List.map_append, List.map_reverse]
end
/-! ### a list or a tuple -/
section
open PySem.Spec PyProof.Rows
variable {X : Cx}
def rIxQ (K : PySem.W.Frag) : R2 := fun x y H Q => ∃ p xs i v, x = .ref p ∧ y = .int i ∧ (SqL K H p xs ∨ SqT K H p xs) ∧ atI xs i = some v ∧ Q v H
theorem ix_seq : IxR X (rIxQ X.K) := by
  intro value slice pins s σ H x y v u Q I rx ry h hs
  obtain ⟨p, xs, i, z, e1, e2, hq | hq, he, q⟩ := h
  · exact ix_list value slice pins s σ H x y v u Q I rx ry ⟨p, xs, i, z, e1, e2, hq, he, q⟩ hs
  · exact ix_tup value slice pins s σ H x y v u Q I rx ry ⟨p, xs, i, z, e1, e2, hq, he, q⟩ hs
end
theorem sq_same {K : PySem.W.Frag} {H H' : Hp} {a : Addr} {xs : List V} (e : Same H H') (h : SqL K H a xs ∨ SqT K H a xs) : SqL K H' a xs ∨ SqT K H' a xs := by
  rcases h with h | h
  · exact .inl (e.seq h)
  · exact .inr (same_t e h)
/-! ### the refusals' own making -/
abbrev s_init : Stmt := inClass (top 2) 0
abbrev N_init : List Str := ["self", "what"]
theorem sc_init : FnScope N_init N_init (defScope s_init) := ⟨rfl, rfl, rfl, by decide +kernel, rfl, by decide +kernel, by decide +kernel⟩
def spInit (K : PySem.W.Frag) : Sp := fun vs H Q _ => ∃ (a C : Addr) (v : V), vs = [.ref a, v] ∧ OexC K C ∧ PySem.W.findIn K (.ref C) "what" = some none ∧ H a = some (exo a C none) ∧
  ∀ dx, H dx = none → dx ≠ a → Q .non (upd (upd H dx (exd dx [(("what" : Str), v)])) a (exo a C (some dx)))
section
variable {P : Program} {w : World} {K : PySem.W.Frag} {mg : Str → Option Value} {base : Heap}
theorem ok_init {f : Addr} {fd : FuncData} {k : Nat} (F : Fun K "__init__" "TurnError.__init__" s_init f fd) : FnOk P w K mg base CX0 (k + 1) f fd N_init (spInit K) := by
  refine F.ok sc_init (fun vs H Q E h => ?_) (fun cdv A outer s H vs Q E hr h => ?_)
  · obtain ⟨a, C, v, rfl, _⟩ := h
    rfl
  · obtain ⟨a, C, v, rfl, T, nw, ha, q⟩ := h
    refine ⟨_, pss_one (ps_ost (pv 0) (pv 1)), ?_⟩
    exact ⟨_, rfl, _, rfl, a, C, rfl, T, nw, .inl ⟨ha, q⟩⟩
end
/-- C(v), made to be raised -/
theorem mk_what {K : PySem.W.Frag} {C : Addr} {v : V} {Q : XK} {H1 : Hp} (E : ExK K C) (h : ∀ d H', H1 d = none → Same H1 H' → H' d = some (.xd [(("what" : Str), v)]) → Q (.ref C) (some d) H') : ∀ a, H1 a = none → spInit K (.ref a :: ([v] ++ [])) (upd H1 a (exo a C none))
    (fun v' H2 => v' = .non ∧ ∃ (d : Addr) (fs : List (Str × V)), H2 a = some (exo a C (some d)) ∧ H2 d = some (exd d fs) ∧ H1 d = none ∧ Q (.ref C) (some d) (upd (del H2 a) d (.xd fs))) (fun _ _ _ => False) := by
  intro a ha
  refine ⟨a, C, v, rfl, E.oex, E.nw, upd_same, fun dx hd ne => ?_⟩
  rw [upd_ne ne] at hd
  refine ⟨rfl, dx, _, upd_same, ?_, hd, h dx _ hd (fun b o e => ?_) upd_same⟩
  · rw [upd_ne ne, upd_same]
  · have n1 := ne_of_none e hd
    have n2 := ne_of_none e ha
    rw [upd_ne n1, del_ne n2, upd_ne n2, upd_ne n1, upd_ne n2]
    exact e
/-- what is told of the class of a refusal, under TurnError at CT -/
structure Ref (K : PySem.W.Frag) (CT C fI : Addr) : Prop where
  ek : ExK K C
  ini : PySem.W.findIn K (.ref C) "__init__" = some (some (.ref fI))
  em : PySem.W.exmOne K (.ref C) (.ref CT) = some true
  kv : PySem.W.kitOne K (.ref C) (.type "ValueError") = some true
  kt : PySem.W.kitOne K (.ref C) (.ref CT) = some true
abbrev s_is_whole : Stmt := top 7
abbrev N_is_whole : List Str := ["thing"]
abbrev P_is_whole : List Str := ["thing"]
theorem sc_is_whole : FnScope N_is_whole P_is_whole (defScope s_is_whole) := ⟨rfl, rfl, rfl, by decide +kernel, rfl, by decide +kernel, by decide +kernel⟩
def spWhole (K : PySem.W.Frag) : Sp := fun vs H Q _ => ∃ (x : V) (t : String), vs = [x] ∧ Kd K H x t ∧ Q (.bl (t == "int")) H
section
variable {P : Program} {w : World} {K : PySem.W.Frag} {mg : Str → Option Value} {base : Heap}
theorem ok_whole {f : Addr} {fd : FuncData} {k : Nat} (F : Fun K "is_whole" "is_whole" s_is_whole f fd) (T : Blt mg) : FnOk P w K mg base CX0 (k + 1) f fd P_is_whole (spWhole K) := by
  have nd := sc_is_whole.nd
  refine F.ok sc_is_whole (fun vs H Q E h => ?_) (fun cdv A outer s H vs Q E hr h => ?_)
  · obtain ⟨x, t, rfl, _⟩ := h
    rfl
  · obtain ⟨x, t, rfl, kd, q⟩ := h
    refine ⟨_, (pss_one (ps_ret (pe_and (pe_callB (r := rIsi K) call_isi (by rfl) T.b_isinstance (by decide +kernel) (pa_cons (pv 0) (pa_cons (pe_bltn (v := .ty "int") (by rfl) T.b_int (by decide +kernel) rfl) pa_nil))) (pe_one (pe_not (pe_callB (r := rIsi K) call_isi (by rfl) T.b_isinstance (by decide +kernel) (pa_cons (pv 0) (pa_cons (pe_bltn (v := .ty "bool") (by rfl) T.b_bool (by decide +kernel) rfl) pa_nil)))))))), ?_⟩
    have ty := kd.ty
    obtain ⟨k1, k2, k3, k4, k5⟩ := kd.kit
    walk_at "ev"
    cases kd
    all_goals (walk_at "ev"; exact q)
end
abbrev s__law_pick : Stmt := top 18
abbrev N__law_pick : List Str := ["_law_box_here", "_law_things"]
abbrev P__law_pick : List Str := ["_law_box_here", "_law_things"]
theorem sc__law_pick : FnScope N__law_pick P__law_pick (defScope s__law_pick) := ⟨rfl, rfl, rfl, by decide +kernel, rfl, by decide +kernel, by decide +kernel⟩
def spPick (K : PySem.W.Frag) : Sp := fun vs H Q _ => ∃ (b a : Addr) (xs : List V) (n : Int), vs = [.ref b, .ref a] ∧ BoxAt H b n ∧ SqL K H a xs ∧ a ≠ b ∧ 0 < (xs.length : Int) ∧ (xs.length : Int) < 1048576 ∧ n < 1048576 ∧ ∀ v H', v ∈ xs → Keep b H H' → BoxAt H' b (n + 1) → Q v H'
section
variable {P : Program} {w : World} {K : PySem.W.Frag} {mg : Str → Option Value} {base : Heap}
theorem ok_pick {f fT : Addr} {fd fdT : FuncData} {k : Nat} (F : Fun K "_law_pick" "_law_pick" s__law_pick f fd) (T : Blt mg) (D__law_take : Df K mg "_law_take" s__law_take P__law_take fT fdT) : FnOk P w K mg base CX0 (k + 2) f fd P__law_pick (spPick K) := by
  have G__law_take : FnOk P w K mg base CX0 (k + 1) fT fdT P__law_take spTake := ok_take D__law_take.F
  have nd := sc__law_pick.nd
  refine F.ok sc__law_pick (fun vs H Q E h => ?_) (fun cdv A outer s H vs Q E hr h => ?_)
  · obtain ⟨b, a, xs, n, rfl, _⟩ := h
    rfl
  · obtain ⟨b, a, xs, n, rfl, hb, hL, hne, h0, h1, hn, q⟩ := h
    refine ⟨_, (pss_one (ps_ret (pe_ix (r := rIxL K) ix_list (pv 1) (pe_call G__law_take (hr.mono (by omega)) (by rfl) D__law_take.g D__law_take.F.kp D__law_take.b .nil pass0 (pa_cons (pv 0) (pa_cons (pe_callB (r := rLenQ K) call_len_seq (by rfl) T.b_len (by decide +kernel) (pa_cons (pv 1) pa_nil)) pa_nil))) (fun _ _ => rfl)))), ?_⟩
    walk_at "ev"
    intro r H' hr0 hr1 hk hb'
    obtain ⟨v, hv, hat⟩ := at_some hr0 hr1
    have hL' := hk.seq hne hL
    walk_at "ev"
    exact q _ _ hv hk hb'
end
theorem keep_fresh {b D : Addr} {H H' : Hp} {o : HO} (h : Keep b H H') (n : H D = none) : Keep b H (upd H' D o) := fun a u na e => by
  rw [upd_ne (ne_of_none e n)]
  exact h a u na e
theorem BoxAt.upd {H : Hp} {b D : Addr} {n : Int} {o : HO} (h : BoxAt H b n) (e : D ≠ b) : BoxAt (L2.upd H D o) b n := by
  obtain ⟨x, y, z, a1, a2⟩ := h
  exact ⟨x, y, z, by rw [upd_ne e.symm]; exact a1, a2⟩
theorem dpl {K : PySem.W.Frag} {H : Hp} {a : Addr} (ns : List Int) (h : SqL K H a (ns.map V.int)) : Dp K H (.ref a) (.list (ns.map PyData.int)) := .lst h (dp_ints ns)
theorem fitl (ns : List Int) (h : ns.length ≤ 4000) : Fit 1 (.list (ns.map PyData.int)) := by
  refine ⟨by rw [List.length_map]; exact h, fun e he => ?_⟩
  obtain ⟨c, _, rfl⟩ := List.mem_map.mp he
  exact True.intro
theorem fit_ni {x : Str} {a : Int} : Fit 1 (.tuple [.str x, .int a]) := by
  refine ⟨by simp, fun e he => ?_⟩
  simp only [List.mem_cons, List.not_mem_nil, or_false] at he
  rcases he with h | h <;> rw [h] <;> exact True.intro
/-! ### a loop over enumerate -/
theorem for_enumL {K : PySem.W.Frag} {a : Addr} {xs : List V} {g : TG} {tb : TS} {D : Ends} {σ : L2.St} {H : Hp} (Pv : Nat → L2.St → Hp → Prop) (h0 : Pv 0 σ H) (hq : ∀ i σ H, Pv i σ H → SqL K H a xs)
    (hs : ∀ (i : Nat) (x : V) (T : Addr) (σ : L2.St) (H : Hp), xs[i]? = some x → Pv i σ H → H T = none → g (.ref T) σ (upd H T (.tup [.int (i : Nat), x])) fun σ2 H2 => tb { D with nx := Pv (i + 1), ct := Pv (i + 1), bk := D.nx } σ2 H2) (hd : ∀ σ H, Pv xs.length σ H → D.nx σ H) :
    ∃ W : Nat → Nat → L2.St → Hp → Prop, (∃ m, W 0 m σ H) ∧ ∀ i m σ H, W i m σ H →
      ((Ite K a).stop i H ∧ D.nx σ H) ∨ ((Ite K a).go i H ∧ ∃ N : L2.St → Hp → Prop, (∀ σ' H', N σ' H' → ∃ m', m' < m ∧ W (i + 1) m' σ' H') ∧ ∀ v H', (Ite K a).yld i H v H' → g v σ H' fun σ2 H2 => tb { D with nx := N, ct := N, bk := D.nx } σ2 H2) := by
  refine ⟨fun i m σ H => m = xs.length - i ∧ i ≤ xs.length ∧ Pv i σ H, ⟨xs.length, rfl, Nat.zero_le _, h0⟩, ?_⟩
  rintro i m σ H ⟨rfl, hi, p⟩
  have q := hq i σ H p
  by_cases hlt : i < xs.length
  · refine .inr ⟨⟨xs, xs[i], q, List.getElem?_eq_getElem hlt⟩, Pv (i + 1), fun σ' H' p' => ⟨xs.length - (i + 1), by omega, rfl, hlt, p'⟩, fun v H' y => ?_⟩
    obtain ⟨T, x', rfl, hT, rfl, f1⟩ := y
    exact hs i x' T σ H (f1 xs q) p hT
  · have e : i = xs.length := by omega
    subst e
    exact .inl ⟨⟨xs, q, Nat.le_refl _⟩, hd σ H p⟩
/-! ### enumerate of a tuple -/
section
open PySem.Spec PyProof.Rows
abbrev tIt (t : Addr) : Obj := { cls := .type "tuple_iterator", data := .fields #[.ref t, .int 0 0] }
abbrev tEn (i : Addr) : Obj := { cls := .type "enumerate", data := .fields #[.none, .bool false, .ref i, rawInt 0, .none, .none] }
theorem meets_enumT (l : Addr) (items : Array Value) (n : Nat) (dct : Option Addr) (sl : Array (Option Value)) :
    Meets (Builtin.«enumerate.__new__» ⟨[.type "enumerate", .ref l], []⟩) (fun _ R s => s.heap.get? l = some { cls := .type "tuple", dict := dct, data := .seq items n, slots := sl } ∧
      R (.ok (.ret (.ref (s.heap.push (tIt l)).objs.size))) { s with heap := (s.heap.push (tIt l)).push (tEn s.heap.objs.size) }) :=
  .of_wp fun prog w A R s h => by
    obtain ⟨hp, g, d, tk, os⟩ := s
    obtain ⟨hl, h⟩ := h
    have hsub := sub_enumerate
    have hT : Heap.IsTuple (Shared.heap ⟨hp, g, d, tk, os⟩) l items := ⟨_, hl, rfl, n, rfl⟩
    have q1 : ∀ {A' : Around} {E : Value → Shared → Prop} {Q : Value → Shared → Prop}, Q (.ref hp.objs.size) ⟨hp.push (tIt l), g, d, tk, os⟩ → wpAny (model prog w) A' (pyIter (.ref l)) Q E ⟨hp, g, d, tk, os⟩ := fun q => wpAny_pyIter_tuple hT q
    wp_walk using AutoSeq1.wpAny_loadPart' hl
    refine wpAny_stack_any fun st => wpAny_pure ?_
    split
    · rename_i c _ _ _ _ _
      cases (c == Value.type "enumerate")
      · wp_walk using AutoSeq1.wpAny_loadPart' hl, q1
        exact ⟨_, rfl, h⟩
      · wp_walk using AutoSeq1.wpAny_loadPart' hl, q1
        exact ⟨_, rfl, h⟩
    · wp_walk using AutoSeq1.wpAny_loadPart' hl, q1
      exact ⟨_, rfl, h⟩
theorem call_enumT {prog : Program} {w : World} {A : Around} {E : Value → Shared → Prop} {s : Shared} {l : Addr} {items : Array Value} {Q : Value → Shared → Prop} (hL : s.heap.IsTuple l items)
    (h : ∀ h', IsEnum h' (s.heap.objs.size + 1) s.heap.objs.size 0 .none → h'.IsTupleIter s.heap.objs.size l 0 → (∀ b o, s.heap.get? b = some o → h'.get? b = some o) → Q (.ref (s.heap.objs.size + 1)) { s with heap := h' }) :
    wpAny (model prog w) A (call (.type "enumerate") [.ref l]) Q E s := by
  obtain ⟨⟨c, dct, dt, sl⟩, hl, hc, n, hd⟩ := hL
  replace hc : c = .type "tuple" := hc
  replace hd : dt = .seq items n := hd
  subst hc hd
  refine callType_new F.called_enumerate (by decide) (F.typeCall_enumerate_1 _) (F.newCall_enumerate_1 _) (fun obj => F.args_object_init_2 obj _) F.entry_enumerate_new (meets_enumT l items n dct sl) ⟨hl, ?_⟩
  have hz : (s.heap.push (tIt l)).objs.size = s.heap.objs.size + 1 := Heap.size_push ..
  show _ ∧ _
  rw [hz]
  have he : IsEnum ((s.heap.push (tIt l)).push (tEn s.heap.objs.size)) (s.heap.objs.size + 1) s.heap.objs.size 0 .none := by
    have k := Heap.get?_push_size (s.heap.push (tIt l)) (o := tEn s.heap.objs.size) rfl
    rw [hz] at k
    exact k
  exact ⟨⟨_, he, rfl⟩, h _ he ⟨_, Heap.get?_push_of_some _ (Heap.get?_push_size _ rfl), rfl, rfl⟩ fun b o x => Heap.get?_push_of_some _ (Heap.get?_push_of_some _ x)⟩
/-- the tuple at a, each item in a new pair -/
def IteT (K : PySem.W.Frag) (a : Addr) : It :=
  ⟨fun i H => ∃ (xs : List V) (x : V), SqT K H a xs ∧ xs[i]? = some x, fun i H v H' => ∃ T x, v = .ref T ∧ H T = none ∧ H' = upd H T (.tup [.int (i : Nat), x]) ∧ ∀ xs, SqT K H a xs → xs[i]? = some x, fun i H => ∃ xs : List V, SqT K H a xs ∧ xs.length = i⟩
theorem turn_enumT {P : Program} {w : World} {K : PySem.W.Frag} {elts : List Expr} {kk : Nat} {tpos : Pos} (a e it : Addr) :
    Turn P w K (.Tuple elts kk tpos) (IteT K a) [e, it] e (fun i h => (∃ old, IsEnum h e it ((i : Nat) : Int) old) ∧ h.IsTupleIter it a i ∧ e ≠ it ∧ a ≠ it ∧ a ≠ e) where
  mem := by simp
  obj := fun i h st b hb => by
    obtain ⟨⟨old, he⟩, ⟨o, ho, hc, hd⟩, _⟩ := st
    have z : b = e ∨ b = it := by simpa using hb
    rcases z with z | z
    · rw [z]
      exact ⟨_, he, fun v q => nomatch q⟩
    · rw [z]
      exact ⟨o, ho, fun v q => by rw [hd] at q; cases q⟩
  keep := fun i h h' st k => by
    obtain ⟨⟨old, he⟩, hi, hne⟩ := st
    exact ⟨⟨old, k e (by simp) _ he⟩, hi.at fun o q => k it (by simp) o q, hne⟩
  item := by
    intro X hP hw hK hc i pins s σ H E I hf st hg
    subst hP hw hK
    obtain ⟨⟨old, he⟩, hit, hne, hna, hnb⟩ := st
    obtain ⟨xs, x, hq, hx⟩ := hg
    obtain ⟨its, rv, p, hz⟩ := I.tuple hq
    obtain ⟨u, hu, ru⟩ := rv.get hx
    have hel : e < s.heap.objs.size := Heap.lt_size he
    have hil : it < s.heap.objs.size := by
      obtain ⟨_, q, _⟩ := hit
      exact Heap.lt_size q
    have hlt : i < its.toArray.size := by
      rw [List.size_toArray]
      exact (List.getElem?_eq_some_iff.mp hu).1
    have dr : Draws X.prog X.w X.A.in1 it [it, a] its.toArray.size (fun i v => its.toArray[i]? = some v) (fun i h => h.IsTupleIter it a i ∧ h.IsTuple a its.toArray) := Draws.tuple (A := X.A.in1) (I.ok.hd hc) it a hna its.toArray
    refine wpAny_pyNext_enum_itemD dr he ⟨hit, p⟩ hlt hne (by simp [hne, hnb.symm]) fun y h' tk hy ho hst hT hsz hk => ?_
    have ey : y = u := by
      have h1 : its.toArray[i]? = some u := by simpa using hu
      rw [h1] at hy
      exact (Option.some.inj hy).symm
    subst ey
    refine ⟨_, rfl, wpAny_letOwnedTupleGo_enum (s := { s with heap := h', toks := tk + 1 }) ho fun h'' he' sb => ?_⟩
    have hT2 := (sb.2 _ (Nat.ne_of_gt hel)).trans hT
    have new : ObjOk X.prog X.w (upd H s.heap.objs.size (.tup [.int (i : Nat), x])) h'' s.heap.objs.size (.tup [.int (i : Nat), x]) := ⟨by show 2 ≤ sizeLine; decide, [.int i tk, y], .cons ⟨_, rfl⟩ (.cons ru .nil), ⟨_, hT2, rfl, _, rfl⟩⟩
    have I1 : Inv X pins σ (upd H s.heap.objs.size (.tup [.int (i : Nat), x])) { s with heap := h'', toks := tk + 1 } :=
      I.turnedNew (ch := [e, it]) (fun b ob hb q => (sb.2 b (fun z => hb (by simp [z]))).trans (hk b ob (fun z => hb (by simp [z])) (fun z => hb (by simp [z])) q)) hf (Nat.le_refl _) new
    refine ⟨.ref s.heap.objs.size, _, I1, rfl, ⟨_, x, rfl, I.hok.fresh (Nat.le_refl _), rfl, fun ys hy => by rw [I.tuple_inj hy hq]; exact hx⟩, ⟨⟨y, ?_⟩, hst.1.at fun o q => (sb.2 it hne.symm).trans q, hne, hna, hnb⟩, fun b hb => ?_⟩
    · rw [show ((i + 1 : Nat) : Int) = (i : Int) + 1 by omega]
      exact he'
    · have hb' : b < s.heap.objs.size := by
        have z : b = e ∨ b = it := by simpa using hb
        rcases z with z | z <;> rw [z]
        · exact hel
        · exact hil
      rw [upd_ne (Nat.ne_of_lt hb')]
      exact (hf b hb).1
  done := by
    intro X hP hw hK hc i pins s σ H E I hf st hg
    subst hP hw hK
    obtain ⟨⟨old, he⟩, hit, hne, hna, hnb⟩ := st
    obtain ⟨xs, hq, hx⟩ := hg
    obtain ⟨its, rv, p, hz⟩ := I.tuple hq
    obtain ⟨f0, f1, f2, f3, f4, f5⟩ := hf it (by simp)
    have hl : its.toArray.size = i := by
      rw [List.size_toArray, ← rv.length]
      exact hx
    have dr : Draws X.prog X.w X.A.in1 it [it, a] its.toArray.size (fun i v => its.toArray[i]? = some v) (fun i h => h.IsTupleIter it a i ∧ h.IsTuple a its.toArray) := Draws.tuple (A := X.A.in1) (I.ok.hd hc) it a hna its.toArray
    exact wpAny_pyNext_enum_endD dr he (by rw [hl]; exact ⟨hit, p⟩) fun h' eb => ⟨rfl, I.turned (t' := s.toks) (fun b o hb q => eb b o hb q) f0 f1 f3 f4 f5⟩
  self := fun A i s Q E st h => by
    obtain ⟨⟨_, he⟩, _⟩ := st
    exact wpAny_pyIter_enum he h
def iEnumT (K : PySem.W.Frag) (ta : TA) : TI := fun σ H R => ta σ H fun vs H1 => ∃ a xs, vs = [.ref a] ∧ SqT K H1 a xs ∧ R (IteT K a) H1
theorem pi_enumT {X : Cx} {e : Expr} {ta : TA} {p pos tpos : Pos} {elts : List Expr} {kk : Nat} (hg : Gl X "enumerate") (hm : X.mg "enumerate" = none) (ha : PA X [e] ta) (hs : starEach [e] X.env = [(false, eval e X.env)] := by rfl) :
    PI X (.Tuple elts kk tpos) (.Call (.Name "enumerate" p) [e] [] pos) (iEnumT X.K ta) := by
  refine ⟨fun pins s σ H R I h => ?_⟩
  refine Call_ (ld_blt I hg hm boot_enumerate (PyProof.Rows.callWith_type1 (thn (ha.run pos pins s σ H _ I h) fun us s1 ⟨vs, H1, I1, r1, q1⟩ => ?_) hs rfl))
  obtain ⟨a, xs, ex, hq, q⟩ := q1
  subst ex
  obtain ⟨u, rfl, ru⟩ := r1.one
  cases ru
  obtain ⟨its, rv, p', hz⟩ := I1.tuple hq
  have hal : a < s1.heap.objs.size := by
    obtain ⟨o, ho, _⟩ := p'
    exact Heap.lt_size ho
  refine call_enumT p' fun h' he hit hk => wpAny_pyIter_enum he ?_
  have I2 : Inv X pins σ H1 { s1 with heap := h' } := I1.kept (t' := s1.toks) hk
  refine ⟨s1.heap.objs.size + 1, [s1.heap.objs.size + 1, s1.heap.objs.size], _, _, H1, rfl, I2, turn_enumT a (s1.heap.objs.size + 1) s1.heap.objs.size, ⟨⟨.none, he⟩, hit, Nat.succ_ne_self _, Nat.ne_of_lt hal, Nat.ne_of_lt (Nat.lt_succ_of_lt hal)⟩, fun b hb => ?_, q⟩
  have hle : s1.heap.objs.size ≤ b := by
    have z : b = s1.heap.objs.size + 1 ∨ b = s1.heap.objs.size := by simpa using hb
    rcases z with z | z <;> rw [z]
    · exact Nat.le_add_right _ _
    · exact Nat.le_refl _
  exact I1.fpOk hle (I1.hok.fresh hle)
end
theorem for_enumT {K : PySem.W.Frag} {a : Addr} {xs : List V} {g : TG} {tb : TS} {D : Ends} {σ : L2.St} {H : Hp} (Pv : Nat → L2.St → Hp → Prop) (h0 : Pv 0 σ H) (hq : ∀ i σ H, Pv i σ H → SqT K H a xs)
    (hs : ∀ (i : Nat) (x : V) (T : Addr) (σ : L2.St) (H : Hp), xs[i]? = some x → Pv i σ H → H T = none → g (.ref T) σ (upd H T (.tup [.int (i : Nat), x])) fun σ2 H2 => tb { D with nx := Pv (i + 1), ct := Pv (i + 1), bk := D.nx } σ2 H2) (hd : ∀ σ H, Pv xs.length σ H → D.nx σ H) :
    ∃ W : Nat → Nat → L2.St → Hp → Prop, (∃ m, W 0 m σ H) ∧ ∀ i m σ H, W i m σ H →
      ((IteT K a).stop i H ∧ D.nx σ H) ∨ ((IteT K a).go i H ∧ ∃ N : L2.St → Hp → Prop, (∀ σ' H', N σ' H' → ∃ m', m' < m ∧ W (i + 1) m' σ' H') ∧ ∀ v H', (IteT K a).yld i H v H' → g v σ H' fun σ2 H2 => tb { D with nx := N, ct := N, bk := D.nx } σ2 H2) := by
  refine ⟨fun i m σ H => m = xs.length - i ∧ i ≤ xs.length ∧ Pv i σ H, ⟨xs.length, rfl, Nat.zero_le _, h0⟩, ?_⟩
  rintro i m σ H ⟨rfl, hi, p⟩
  have q := hq i σ H p
  by_cases hlt : i < xs.length
  · refine .inr ⟨⟨xs, xs[i], q, List.getElem?_eq_getElem hlt⟩, Pv (i + 1), fun σ' H' p' => ⟨xs.length - (i + 1), by omega, rfl, hlt, p'⟩, fun v H' y => ?_⟩
    obtain ⟨T, x', rfl, hT, rfl, f1⟩ := y
    exact hs i x' T σ H (f1 xs q) p hT
  · have e : i = xs.length := by omega
    subst e
    exact .inl ⟨⟨xs, q, rfl⟩, hd σ H p⟩
/-! ### repr of lists and tuples in one another, whatever repr is under way around them -/
section
open PySem.Spec PyProof.Rows
/-- things with their addresses -/
inductive AT where
  | leaf (d : PyData)
  | lst (a : Addr) (l : List AT)
  | tup (a : Addr) (l : List AT)
mutual
inductive Ap (K : PySem.W.Frag) (H : Hp) : V → AT → Prop
  | non : Ap K H .non (.leaf .none)
  | bl (b : Bool) : Ap K H (.bl b) (.leaf (.bool b))
  | int (i : Int) : Ap K H (.int i) (.leaf (.int i))
  | str (x : Str) : Ap K H (.str x) (.leaf (.str x))
  | lst {a : Addr} {xs : List V} {l : List AT} : SqL K H a xs → ApAll K H xs l → Ap K H (.ref a) (.lst a l)
  | tup {a : Addr} {xs : List V} {l : List AT} : SqT K H a xs → ApAll K H xs l → Ap K H (.ref a) (.tup a l)
inductive ApAll (K : PySem.W.Frag) (H : Hp) : List V → List AT → Prop
  | nil : ApAll K H [] []
  | cons {v : V} {vs : List V} {t : AT} {l : List AT} : Ap K H v t → ApAll K H vs l → ApAll K H (v :: vs) (t :: l)
end
/-- list.__repr__'s loop over this very list is under way -/
def loopF (self : Value) : Code × Pos → Bool := fun
  | (.builtin "list.__repr__.loop" ⟨v :: _, _⟩, _) => Builtin.List.listSameRef v self
  | _ => false
theorem loopF_pos (self : Value) (c : Code) (p : Pos) : loopF self (c, p) = loopF self (c, default) := by
  unfold loopF
  split
  · next v r k q heq =>
    cases heq
    rfl
  · next h =>
    split
    · next v r k q heq =>
      cases heq
      exact absurd rfl (h v r k p)
    · rfl
theorem loopF_off (self : Value) (c : Code) (p : Pos) (h : c.isGuard = false) : loopF self (c, p) = false := by
  unfold loopF
  split
  · next v r k q heq =>
    cases heq
    simp [Code.isGuard, guardIds] at h
  · rfl
def blkL (g : List Code) (b : Addr) : Bool := g.any fun c => loopF (.ref b) (c, default)
def blkT (g : List Code) (b : Addr) : Bool := g.any fun c => tupGuardF (.ref b) (c, default)
mutual
def AT.data : AT → PyData
  | .leaf d => d
  | .lst _ l => .list (AT.dataAll l)
  | .tup _ l => .tuple (AT.dataAll l)
def AT.dataAll : List AT → List PyData
  | [] => []
  | t :: l => AT.data t :: AT.dataAll l
end
mutual
def AT.txt (g : List Code) : AT → Str
  | .leaf d => d.shown
  | .lst _ [] => "[]"
  | .lst a (t :: l) => if blkL g a then "[...]" else listText (AT.txt g t :: AT.txtAll g l)
  | .tup a l => if blkT g a then "(...)" else tupleText (AT.txtAll g l)
def AT.txtAll (g : List Code) : List AT → List Str
  | [] => []
  | t :: l => AT.txt g t :: AT.txtAll g l
end
/-! how long it may come to be -/
mutual
def AT.wid : AT → Nat
  | .leaf d => d.shown.length
  | .lst _ l => 6 + AT.widAll l
  | .tup _ l => 6 + AT.widAll l
def AT.widAll : List AT → Nat
  | [] => 0
  | t :: l => AT.wid t + 2 + AT.widAll l
end
theorem txtAll_sum (g : List Code) : ∀ (l : List AT), (∀ t ∈ l, (AT.txt g t).length ≤ AT.wid t) → ((AT.txtAll g l).map (·.length)).sum + 2 * (AT.txtAll g l).length ≤ AT.widAll l
  | [], _ => by simp [AT.txtAll, AT.widAll]
  | t :: l, h => by
    have h1 := h t List.mem_cons_self
    have h2 := txtAll_sum g l fun u hu => h u (List.mem_cons_of_mem _ hu)
    simp only [AT.txtAll, AT.widAll, List.map_cons, List.sum_cons, List.length_cons]
    omega
mutual
theorem txt_wid (g : List Code) : ∀ t : AT, (AT.txt g t).length ≤ AT.wid t
  | .leaf d => by rw [AT.txt, AT.wid]; exact Nat.le_refl _
  | .lst a [] => by
    rw [AT.txt, AT.wid]
    have : (("[]" : String) : Str).length = 2 := rfl
    omega
  | .lst a (t :: l) => by
    rw [AT.txt, AT.wid]
    split
    · have : (("[...]" : String) : Str).length = 5 := rfl
      omega
    · have h := listText_len_le (AT.txt g t :: AT.txtAll g l)
      have h2 := txtAll_sum g (t :: l) (txt_widAll g (t :: l))
      rw [AT.txtAll] at h2
      omega
  | .tup a l => by
    rw [AT.txt, AT.wid]
    split
    · have : (("(...)" : String) : Str).length = 5 := rfl
      omega
    · have h := tupleText_len_le (AT.txtAll g l)
      have h2 := txtAll_sum g l (txt_widAll g l)
      omega
theorem txt_widAll (g : List Code) : ∀ l : List AT, ∀ t ∈ l, (AT.txt g t).length ≤ AT.wid t
  | [], _, h => nomatch h
  | u :: l, t, h => by
    rcases List.mem_cons.mp h with e | h
    · rw [e]
      exact txt_wid g u
    · exact txt_widAll g l t h
end
def Agr (g0 g : List Code) (as : List Addr) : Prop := ∀ b ∈ as, blkL g b = blkL g0 b ∧ blkT g b = blkT g0 b
theorem Agr.refl (g : List Code) (as : List Addr) : Agr g g as := fun _ _ => ⟨rfl, rfl⟩
theorem ref_beq {a b : Addr} (n : a ≠ b) : (Value.ref a == Value.ref b) = false := beq_eq_false_iff_ne.mpr fun e => n (Value.ref.inj e)
theorem Agr.cons {g0 g : List Code} {as : List Addr} {a : Addr} {id : String} {rest : List Value} {kw : List (Str × Value)} (h : Agr g0 g as) (n : a ∉ as) : Agr g0 (.builtin id ⟨.ref a :: rest, kw⟩ :: g) as := by
  intro b hb
  have ne : a ≠ b := fun e => n (e ▸ hb)
  obtain ⟨h1, h2⟩ := h b hb
  constructor
  · rw [← h1]
    unfold blkL
    rw [List.any_cons]
    have : loopF (.ref b) (Code.builtin id ⟨.ref a :: rest, kw⟩, default) = false := by
      unfold loopF
      split
      · next v r k q heq =>
        cases heq
        exact listSameRef_of_ne fun e => ne (Value.ref.inj e)
      · rfl
    rw [this, Bool.false_or]
  · rw [← h2]
    unfold blkT
    rw [List.any_cons]
    have : tupGuardF (.ref b) (Code.builtin id ⟨.ref a :: rest, kw⟩, default) = false := by
      simp only [tupGuardF, ref_beq ne, Bool.false_and]
    rw [this, Bool.false_or]
end
section
open PySem.Spec PyProof.Rows
open Sem (wp)
open Builtin Builtin.List
variable {prog : Program} {w : World} {g0 : List Code}
def ReprD (prog : Program) (w : World) (g0 : List Code) (as : List Addr) (h0 : Heap) (d : Nat) (x : Value) (t : Str) : Prop :=
  ∀ (n : Nat), n + t.length ≤ sizeLine → ∀ (A : Around) (g : List Code) (E : Value → Shared → Prop) (s : Shared) (Q : Str → Shared → Prop), A.guards = some g → Agr g0 g as → A.units + d < cLine →
    (∀ b o, h0.get? b = some o → s.heap.get? b = some o) → (∀ h' tk, (∀ b o, s.heap.get? b = some o → h'.get? b = some o) → Q t { s with heap := h', toks := tk }) → wpAny (model prog w) A (pyReprUnder n x) Q E s
theorem ReprD.leaf {x : Value} {t : Str} (h : ReprIs prog w x t) (as : List Addr) (h0 : Heap) (d : Nat) : ReprD prog w g0 as h0 d x t :=
  fun n hn A _ E s Q _ _ _ _ q => h n hn A E s Q fun tk => q s.heap tk fun _ _ e => e
theorem ReprD.wide {as bs : List Addr} {h0 : Heap} {d e : Nat} {x : Value} {t : Str} (h : ReprD prog w g0 as h0 d x t) (i : ∀ b ∈ as, b ∈ bs) (l : d ≤ e) : ReprD prog w g0 bs h0 e x t :=
  fun n hn A g E s Q hg ha hu hk q => h n hn A g E s Q hg (fun b hb => ha b (i b hb)) (by omega) hk q
/-- the loop of list.__repr__ -/
theorem loopD {A : Around} {R : Result → Shared → Prop} {a P : Addr} (hne : a ≠ P) {items : Array Value} {ts : List Str} {as : List Addr} {h0 : Heap} {d n : Nat} {g : List Code} (hg : A.guards = some g) (hag : Agr g0 g as)
    (hu : A.units + (d + 1) < cLine) (hna : a ∉ as) (hPf : h0.get? P = none) (hlen : ts.length = items.size)
    (hT : ∀ (i : Nat) (x : Value), items[i]? = some x → ∃ t, ts[i]? = some t ∧ ReprD prog w g0 as h0 d x t) (hsz : n + (listText ts).length ≤ sizeLine) :
    ∀ (k i : Nat) (s : Shared) (oa : Obj) (na : Nat) (acc : Array Value) (c : Nat) (done : List (Str × Tok)), items.size - i = k → i ≤ items.size → (∀ b o, h0.get? b = some o → s.heap.get? b = some o) →
      s.heap.get? a = some oa → oa.data = .seq items na → s.heap.get? P = some { cls := .type "list", dict := none, data := .seq acc c, slots := #[] } → acc.toList = strValues done → done.map (·.1) = ts.take i →
      (∀ h' u tk, (∀ b o, b ≠ P → s.heap.get? b = some o → h'.get? b = some o) → R (.ok (.ret (.str (listText ts) u))) { s with heap := h', toks := tk }) →
      codeAny (model prog w) A (.builtin "list.__repr__.loop" ⟨[.ref a, rawInt i, .ref P, rawInt ((n + piled (ts.take i) : Nat) : Int)], []⟩) R s := by
  have hX : (listText ts).length = (textFrom 0 "[" ts).length + 1 := by
    show ((textFrom 0 "[" ts) ++ ("]" : Str)).length = _
    rw [strLen_append]
    rfl
  obtain ⟨hL1, hL2, _⟩ := textFrom_len ts 0 "["
  rw [if_neg (Nat.lt_irrefl 0)] at hL1
  have hsz1 : items.size ≤ sizeLine := by omega
  have hp3 := piled_le_listText ts
  intro k
  induction k with
  | zero =>
    intro i s oa na acc c done hk hi hk0 ha hda hP hacc hdone hR
    have hin : i = items.size := by omega
    refine codeAny_builtin F.entry_list_repr_loop ?_
    show wpAny _ _ («list.__repr__.loop» ⟨[.ref a, .int i 0, .ref P, .int ((n + piled (ts.take i) : Nat) : Int) 0], []⟩) _ _ s
    rw [repr_loop_tree]
    refine wpAny_bind (wpAny_listItems ha hda ?_)
    have e0 : items[(i : Int).toNat]? = none := by simp [hin]
    simp only [e0]
    unfold reprEnd
    refine wpAny_bind (wpAny_listItems hP rfl ?_)
    rw [hacc, repr_fold]
    refine wpAny_bind (wpAny_pure ?_)
    have e1 : done.map (·.1) = ts := by rw [hdone, hin, ← hlen, List.take_length]
    rw [e1]
    exact wpAny_bind (wpAny_mkStr (wpAny_pure (hR s.heap _ _ fun _ _ _ e => e)) (show (listText ts).length ≤ sizeLine by omega))
  | succ k ih =>
    intro i s oa na acc c done hk hi hk0 ha hda hP hacc hdone hR
    have hlt : i < items.size := by omega
    obtain ⟨t, ht, hrep⟩ := hT i items[i] (by simp [hlt])
    have hp1 := piled_take_succ ht
    have hp2 := piled_take_le ts (i + 1)
    have ht2 := hL2 t (List.mem_of_getElem? ht)
    refine codeAny_builtin F.entry_list_repr_loop ?_
    show wpAny _ _ («list.__repr__.loop» ⟨[.ref a, .int i 0, .ref P, .int ((n + piled (ts.take i) : Nat) : Int) 0], []⟩) _ _ s
    rw [repr_loop_tree]
    refine wpAny_bind (wpAny_listItems ha hda ?_)
    have e0 : items[(i : Int).toNat]? = some items[i] := by simp [hlt]
    simp only [e0]
    rw [Int.toNat_natCast]
    refine wpAny_bind (wpAny_holding (hrep (n + piled (ts.take i) + 1) (by omega) _ _ _ _ _ (guards_under_guard (isGuard_list_loop _) hg) (hag.cons (a := a) hna) (by rw [units_under_list_loop]; omega) hk0 fun h' tk hkp => ?_))
    refine wpAny_bind (wpAny_mkStr ?_ (by omega))
    refine wpAny_bind ?_
    show wpAny _ _ (updateSeq P _) _ _ _
    have hasz : acc.size ≤ sizeLine := by
      have e1 : acc.toList.length = acc.size := by simp
      have e2 : (strValues done).length = (done.map (·.1)).length := by simp [strValues]
      rw [hdone, List.length_take] at e2
      rw [hacc] at e1
      omega
    refine wpAny_updateSeq (hkp _ _ hP) rfl (wpAny_pure ⟨F.quiet_list_repr_loop _, ?_⟩) hasz
    have f1 : ((i : Int) + 1) = ((i + 1 : Nat) : Int) := by omega
    have f2 : n + piled (ts.take i) + (t.length + 2) = n + piled (ts.take (i + 1)) := by omega
    rw [f1, f2]
    have out : ∀ {b : Addr}, b ≠ P → P ≠ b := fun z e => z e.symm
    refine ih (i + 1) _ oa na (acc.push (.str t tk)) _ (done ++ [(t, tk)]) (by omega) hlt (fun b o e => (Heap.get?_update_other _ _ (out fun z => by rw [z, hPf] at e; cases e)).trans (hkp _ _ (hk0 _ _ e)))
      ((Heap.get?_update_other _ _ (out hne)).trans (hkp _ _ ha)) hda (Heap.get?_update_self _ (hkp _ _ hP) rfl) (by simp [hacc, strValues]) (by simp [List.take_add_one, ht, hdone]) fun h'' u tk' hh => ?_
    exact hR h'' u tk' fun b o hb e => hh b o hb ((Heap.get?_update_other _ _ (out hb)).trans (hkp _ _ e))
end
section
open PySem.Spec PyProof.Rows
open Sem (wp)
open Builtin Builtin.List
variable {prog : Program} {w : World} {g0 : List Code}
abbrev finE (prog : Program) (w : World) (A : Around) (R : Result → Shared → Prop) : Fin → Shared → Prop := fun f s => match f with
  | .done v => R (.ok v) s
  | .again c => c.quiet = true ∧ codeAny (model prog w) A c R s
/-- the list is being shown already -/
theorem list_way {A : Around} {g : List Code} {c : Code} {a : Addr} {o : Obj} {x : Value} {l : List Value} {m n : Nat} {s : Shared} {Q : Fin → Shared → Prop} {E : Value → Shared → Prop} (hg : A.guards = some g) (hb : blkL g a = true)
    (ha : s.heap.get? a = some o) (hd : o.data = .seq (x :: l).toArray m) (h : ∀ u tk, Q (.done (.ret (.str "[...]" u))) { s with toks := tk }) : wpOwn (model prog w) A c (listReprAt n ⟨[.ref a], []⟩) Q E s := by
  intro Γ p hc hΓ
  have k : wpAny (model prog w) (A.under c) (do rule "list.__repr__.in-itself"; retStr "[...]") Q E s :=
    wpAny_bind (wpAny_rule (wpAny_bind (wpAny_mkStr (wpAny_pure (h _ _)) (by decide +kernel))))
  have k1 := k Γ p (hc ▸ hΓ.in)
  unfold listReprAt
  simp [slotArgs, listItems, seqItems?, Sem.wp_load_of (h := ha), hd, stack]
  show wp _ Γ (if (Γ.below.any (loopF (.ref a))) = true then _ else _) _ _ p s
  rw [if_pos]
  · exact k1
  · rw [any_eq_guards (loopF_off _) (loopF_pos _), hΓ.2.2.2.1 g hg]
    exact hb
theorem list_no {g : List Code} {a : Addr} (h : blkL g a = false) (v : Value) (rest : List Value) (kw : List (Str × Value)) (hm : Code.builtin "list.__repr__.loop" ⟨v :: rest, kw⟩ ∈ g) : listSameRef v (.ref a) = false := by
  have := List.any_eq_false.mp h _ hm
  simpa [loopF] using this
theorem list_at {as : List Addr} {h0 : Heap} {d : Nat} {a : Addr} {oa : Obj} {x : Value} {l : List Value} {na : Nat} {ts : List Str} (ha : h0.get? a = some oa) (hda : oa.data = .seq (x :: l).toArray na) (hna : a ∉ as)
    (hlen : ts.length = (x :: l).toArray.size) (hT : ∀ (i : Nat) (y : Value), (x :: l).toArray[i]? = some y → ∃ t, ts[i]? = some t ∧ ReprD prog w g0 as h0 d y t) {A : Around} {g : List Code} {s : Shared} {R : Result → Shared → Prop} {n : Nat} {id : String} {rest : List Value}
    (hpl : plainId id = true) (hg : A.guards = some g) (hag : Agr g0 g (a :: as)) (hu : A.units + (d + 1) < cLine) (hk0 : ∀ b o, h0.get? b = some o → s.heap.get? b = some o)
    (hR : ∀ h' u tk, (∀ b o, s.heap.get? b = some o → h'.get? b = some o) → R (.ok (.ret (.str (if blkL g0 a then "[...]" else listText ts) u))) { s with heap := h', toks := tk })
    (hsz : blkL g0 a = false → n + (listText ts).length ≤ sizeLine) : wpOwn (model prog w) A (.builtin id ⟨.ref a :: rest, []⟩) (listReprAt n ⟨[.ref a], []⟩) (finE prog w A R) (fun e s' => R (.error e) s') s := by
  have e := (hag a List.mem_cons_self).1
  cases hB : blkL g0 a with
  | true =>
    rw [hB] at e
    simp only [hB] at hR
    exact list_way hg e (hk0 _ _ ha) hda fun u tk => hR s.heap u tk fun _ _ z => z
  | false =>
    rw [hB] at e
    simp only [hB] at hR
    have hPf : h0.get? s.heap.objs.size = none := by
      cases q : h0.get? s.heap.objs.size with
      | none => rfl
      | some o => exact absurd (Heap.lt_size (hk0 _ _ q)) (Nat.lt_irrefl _)
    refine wpOwn_of_wpAny ?_
    rw [Around.under_plainId hpl]
    refine wpAny_list_repr_head (A := A.in1) hg (list_no e) (hk0 _ _ ha) hda ?_
    refine wpAny_bind (m := newList []) (wpAny_newObj_type (wpAny_pure ⟨F.quiet_list_repr_loop _, ?_⟩))
    refine loopD (P := s.heap.objs.size) (g0 := g0) (Nat.ne_of_lt (Heap.lt_size (hk0 _ _ ha))) hg (fun b hb => hag b (List.mem_cons_of_mem _ hb)) hu hna hPf hlen hT (hsz hB) _ 0 _ oa na #[] _ [] rfl (Nat.zero_le _)
      (fun b o z => Heap.get?_push_of_some _ (hk0 _ _ z)) (Heap.get?_push_of_some _ (hk0 _ _ ha)) hda (Heap.get?_push_size _ rfl) rfl (by simp) fun h' u tk hk => ?_
    exact hR h' u tk fun b o z => hk b o (Nat.ne_of_lt (Heap.lt_size z)) (Heap.get?_push_of_some _ z)
inductive ReprDs (prog : Program) (w : World) (g0 : List Code) (as : List Addr) (h0 : Heap) (d : Nat) : List Value → List Str → Prop
  | nil : ReprDs prog w g0 as h0 d [] []
  | cons {x : Value} {t : Str} {l : List Value} {ts : List Str} : ReprD prog w g0 as h0 d x t → ReprDs prog w g0 as h0 d l ts → ReprDs prog w g0 as h0 d (x :: l) (t :: ts)
theorem ReprDs.len {as : List Addr} {h0 : Heap} {d : Nat} : ∀ {l : List Value} {ts : List Str}, ReprDs prog w g0 as h0 d l ts → ts.length = l.length
  | _, _, .nil => rfl
  | _, _, .cons _ h => by rw [List.length_cons, List.length_cons, h.len]
theorem ReprDs.item {as : List Addr} {h0 : Heap} {d : Nat} : ∀ {l : List Value} {ts : List Str}, ReprDs prog w g0 as h0 d l ts → ∀ (i : Nat) (y : Value), l[i]? = some y → ∃ t, ts[i]? = some t ∧ ReprD prog w g0 as h0 d y t
  | _, _, .nil, i, y, e => by simp at e
  | _, _, .cons hx _, 0, y, e => by
    cases Option.some.inj e
    exact ⟨_, rfl, hx⟩
  | _, _, .cons _ hl, i + 1, y, e => hl.item i y e
theorem ReprDs.wide {as bs : List Addr} {h0 : Heap} {d e : Nat} (i : ∀ b ∈ as, b ∈ bs) (l : d ≤ e) : ∀ {vs : List Value} {ts : List Str}, ReprDs prog w g0 as h0 d vs ts → ReprDs prog w g0 bs h0 e vs ts
  | _, _, .nil => .nil
  | _, _, .cons hx hl => .cons (hx.wide i l) (hl.wide i l)
theorem tup_fold {A : Around} {E : Value → Shared → Prop} {as : List Addr} {h0 : Heap} {d : Nat} {g : List Code} (hg : A.guards = some g) (hag : Agr g0 g as) (hu : A.units + d < cLine) :
    ∀ (l : List Value) (ts : List Str) (acc : Array Str) (n : Nat) (s : Shared) (Q : (Array Str × Nat) → Shared → Prop), ReprDs prog w g0 as h0 d l ts → n + piled ts ≤ sizeLine → (∀ b o, h0.get? b = some o → s.heap.get? b = some o) →
      (∀ h' tk, (∀ b o, s.heap.get? b = some o → h'.get? b = some o) → Q ⟨acc ++ ts.toArray, n + piled ts⟩ { s with heap := h', toks := tk }) → wpAny (model prog w) A (forIn l (⟨acc, n⟩ : (Array Str × Nat)) tupBody) Q E s := by
  intro l
  induction l with
  | nil =>
    intro ts acc n s Q hT _ _ q
    cases hT
    have q0 := q s.heap s.toks fun _ _ e => e
    simp only [List.forIn_nil]
    exact wpAny_pure (by simpa [piled] using q0)
  | cons x l ih =>
    intro ts acc n s Q hT hn hk0 q
    cases hT with
    | cons hx hl =>
      rename_i t ts'
      rw [piled_cons] at hn
      rw [List.forIn_cons]
      refine wpAny_bind (wpAny_bind (hx (n + 1) (by omega) _ _ _ _ _ hg hag hu hk0 fun h' tk hk1 => wpAny_pure ?_))
      refine ih ts' (acc.push t) (n + (t.length + 2)) _ Q hl (by omega) (fun b o z => hk1 _ _ (hk0 _ _ z)) fun h'' tk' hk2 => ?_
      have q1 := q h'' tk' fun b o z => hk2 _ _ (hk1 _ _ z)
      rw [show n + piled (t :: ts') = n + (t.length + 2) + piled ts' by rw [piled_cons]; omega] at q1
      simpa using q1
theorem tup_at {as : List Addr} {h0 : Heap} {d : Nat} {a : Addr} {o : Obj} {items : Array Value} {na : Nat} {ts : List Str} (ha : h0.get? a = some o) (hd : o.data = .seq items na) (hna : a ∉ as) (hT : ReprDs prog w g0 as h0 d items.toList ts)
    {A : Around} {g : List Code} {s : Shared} {R : Result → Shared → Prop} {n : Nat} {id : String} {rest : List Value} (hcg : (Code.builtin id ⟨.ref a :: rest, []⟩).isGuard = true) (hcu : (A.under (.builtin id ⟨.ref a :: rest, []⟩)).units = A.units + 1)
    (hg : A.guards = some g) (hag : Agr g0 g (a :: as)) (hu : A.units + (d + 1) < cLine) (hk0 : ∀ b o, h0.get? b = some o → s.heap.get? b = some o)
    (hR : ∀ h' u tk, (∀ b o, s.heap.get? b = some o → h'.get? b = some o) → R (.ok (.ret (.str (if blkT g0 a then "(...)" else tupleText ts) u))) { s with heap := h', toks := tk })
    (hsz : blkT g0 a = false → n + (tupleText ts).length ≤ sizeLine) : wpOwn (model prog w) A (.builtin id ⟨.ref a :: rest, []⟩) (tupleReprAt n ⟨[.ref a], []⟩) (finE prog w A R) (fun e s' => R (.error e) s') s := by
  have e := (hag a List.mem_cons_self).2
  unfold blkT at e
  have hlen : ts.length = items.size := by simpa using hT.len
  have hp := piled_le_tupleText ts
  rw [tuple_repr_tree, tupleReprUnderWay_eq]
  refine wpOwn_bind (wpOwn_stackTailAny hg (tupGuardF_off _) (tupGuardF_pos _) ?_)
  rw [e]
  show wpOwn _ _ _ (if blkT g0 a = true then _ else _) _ _ _
  refine wpOwn_of_wpAny ?_
  cases hB : blkT g0 a with
  | true =>
    simp only [hB] at hR
    refine PySem.W.KFB.if_so rfl ?_
    exact wpAny_bind (wpAny_rule (wpAny_bind (wpAny_mkStr (wpAny_pure (hR s.heap _ _ fun _ _ z => z)) (by decide +kernel))))
  | false =>
    simp only [hB] at hR
    have hz := hsz hB
    refine PySem.W.KFB.if_not rfl ?_
    unfold tupleReprRest Builtin.Tuple.tupleItemsOf
    refine wpAny_bind (wpAny_bind (wpAny_seqItems (hk0 _ _ ha) hd (wpAny_pure ?_)))
    rw [← Array.forIn_toList]
    refine wpAny_bind (tup_fold (g0 := g0) (guards_under_guard hcg hg) (Agr.cons (a := a) (fun b hb => hag b (List.mem_cons_of_mem _ hb)) hna) (by rw [hcu]; omega) _ ts _ _ _ _ hT (by omega) hk0 fun h' tk hk1 => ?_)
    refine wpAny_bind (wpAny_mkStr (wpAny_pure ?_) (by simpa [tupleText, hlen] using (show (tupleText ts).length ≤ sizeLine by omega)))
    have q := hR h' tk (tk + 1) hk1
    simpa [tupleText, hlen] using q
end
section
open PySem.Spec PyProof.Rows
open Sem (wp)
open Builtin Builtin.List
variable {prog : Program} {w : World} {g0 : List Code}
theorem ReprD.lst {as : List Addr} {h0 : Heap} {d : Nat} {a : Addr} {oa : Obj} {x : Value} {l : List Value} {na : Nat} {ts : List Str} (ha : h0.get? a = some oa) (hc : oa.cls = .type "list") (hda : oa.data = .seq (x :: l).toArray na) (hna : a ∉ as)
    (hT : ReprDs prog w g0 as h0 d (x :: l) ts) : ReprD prog w g0 (a :: as) h0 (d + 1) (.ref a) (if blkL g0 a then "[...]" else listText ts) := by
  intro n hn A g E s Q hg hag hu hk q
  have hl : ts.length = (x :: l).toArray.size := by simpa using hT.len
  refine wpAny_pyReprUnder_ref (by omega) (wpAny_pyReprObjUnder_twin (twin := "list.__repr__.under") ⟨oa, hk _ _ ha, hc⟩ F.slot_list_repr.toG rfl (by omega) ?_)
  refine call_twin_own (Code.quiet_builtin _ (by decide +kernel)) F.entry_list_repr_under F.check_list_repr_under ⟨oa, hk _ _ ha, hc⟩ F.slot_list_repr.toG (F.args_list_repr_1 _) ?_
  refine list_at (R := callEnd _ E) ha hda hna hl (fun i y e => hT.item i y (by simpa using e)) F.plain_list_repr_under hg hag hu hk (fun h' u tk hk1 => ⟨⟨_, _, rfl⟩, _, _, rfl, q h' tk hk1⟩) fun hB => ?_
  rw [hB] at hn
  exact hn
theorem ReprD.bare {as : List Addr} {h0 : Heap} {d : Nat} {a : Addr} {oa : Obj} {na : Nat} (ha : h0.get? a = some oa) (hc : oa.cls = .type "list") (hda : oa.data = .seq #[] na) : ReprD prog w g0 as h0 d (.ref a) "[]" := by
  intro n hn A g E s Q _ _ hu hk q
  exact wpAny_pyReprUnder_ref (by omega) (wpAny_pyReprObjUnder_list_empty ⟨oa, hk _ _ ha, hc⟩ (by omega) (hk _ _ ha) hda ⟨_, _, rfl, q s.heap _ fun _ _ e => e⟩)
theorem ReprD.tup {as : List Addr} {h0 : Heap} {d : Nat} {a : Addr} {oa : Obj} {items : Array Value} {na : Nat} {ts : List Str} (ha : h0.get? a = some oa) (hc : oa.cls = .type "tuple") (hda : oa.data = .seq items na) (hna : a ∉ as)
    (hT : ReprDs prog w g0 as h0 d items.toList ts) : ReprD prog w g0 (a :: as) h0 (d + 1) (.ref a) (if blkT g0 a then "(...)" else tupleText ts) := by
  intro n hn A g E s Q hg hag hu hk q
  refine wpAny_pyReprUnder_ref (by omega) (wpAny_pyReprObjUnder_twin (twin := "tuple.__repr__.under") ⟨oa, hk _ _ ha, hc⟩ F.slot_tuple_repr rfl (by omega) ?_)
  refine call_twin_own (F.quiet_tuple_repr_under _) F.entry_tuple_repr_under F.check_tuple_repr_under ⟨oa, hk _ _ ha, hc⟩ F.slot_tuple_repr (F.args_tuple_repr_1 _) ?_
  refine tup_at (R := callEnd _ E) ha hda hna hT (isGuard_tuple_repr_under _) (units_under_tuple_repr_under _ _) hg hag hu hk (fun h' u tk hk1 => ⟨⟨_, _, rfl⟩, _, _, rfl, q h' tk hk1⟩) fun hB => ?_
  rw [hB] at hn
  exact hn
mutual
theorem Ap.dp {K : PySem.W.Frag} {H : Hp} : ∀ {v : V} {t : AT}, Ap K H v t → Dp K H v t.data
  | _, _, .non => .non
  | _, _, .bl b => .bl b
  | _, _, .int i => .int i
  | _, _, .str x => .str x
  | _, _, .lst h a => by rw [AT.data]; exact .lst h a.dp
  | _, _, .tup h a => by rw [AT.data]; exact .tup h a.dp
theorem ApAll.dp {K : PySem.W.Frag} {H : Hp} : ∀ {vs : List V} {l : List AT}, ApAll K H vs l → DpAll K H vs (AT.dataAll l)
  | _, _, .nil => by rw [AT.dataAll]; exact .nil
  | _, _, .cons h a => by rw [AT.dataAll]; exact .cons h.dp a.dp
end
mutual
theorem Ap.same {K : PySem.W.Frag} {H H' : Hp} (e : Same H H') : ∀ {v : V} {t : AT}, Ap K H v t → Ap K H' v t
  | _, _, .non => .non
  | _, _, .bl b => .bl b
  | _, _, .int i => .int i
  | _, _, .str x => .str x
  | _, _, .lst h a => .lst (e.seq h) (ApAll.same e a)
  | _, _, .tup h a => .tup (same_t e h) (ApAll.same e a)
theorem ApAll.same {K : PySem.W.Frag} {H H' : Hp} (e : Same H H') : ∀ {vs : List V} {l : List AT}, ApAll K H vs l → ApAll K H' vs l
  | _, _, .nil => .nil
  | _, _, .cons h a => .cons (Ap.same e h) (ApAll.same e a)
end
section
variable {X : Cx} {pins : List (Addr × Obj)} {σ : L2.St} {H : Hp} {s : Shared}
mutual
theorem repr_of (I : Inv X pins σ H s) : ∀ (t : AT) (v : V) (u : Value), Ap X.K H v t → RelV v u → t.data.showable = true → t.wid ≤ sizeLine → ∃ bs, ReadAtMost s.heap t.data.depth bs ∧ ReprD X.prog X.w g0 bs s.heap t.data.depth u (t.txt g0)
  | .leaf d, v, u, h, r, hs, hw => by
    refine ⟨[], (fun _ z => nomatch z), ?_⟩
    rw [AT.txt]
    rw [AT.wid] at hw
    cases h with
    | non =>
      cases r
      exact .leaf ReprIs.none _ _ _
    | bl b =>
      cases r
      exact .leaf (ReprIs.bool b) _ _ _
    | int i =>
      obtain ⟨k, rfl⟩ := r
      exact .leaf (ReprIs.int k (by simpa [AT.data, PyData.showable] using hs)) _ _ _
    | str x =>
      obtain ⟨k, rfl⟩ := r
      exact .leaf (ReprIs.str x k (by simpa only [PyData.shown] using hw)) _ _ _
  | .lst a [], v, u, h, r, hs, hw => by
    cases h with
    | lst hq ha =>
      cases ha
      cases r
      obtain ⟨its, rv, ⟨o, n, ho, hc, _, hd⟩, _⟩ := I.list hq
      cases rv
      rw [AT.txt]
      exact ⟨[], (fun _ z => nomatch z), ReprD.bare ho hc hd⟩
  | .lst a (t :: l), v, u, h, r, hs, hw => by
    obtain ⟨as, hR⟩ := Dp.reads I _ v u h.dp r
    cases h with
    | lst hq ha =>
      cases r
      obtain ⟨its, rv, ⟨o, n, ho, hc, _, hd⟩, _⟩ := I.list hq
      rw [AT.data, PyData.showable] at hs
      rw [AT.wid] at hw
      obtain ⟨bs, hb, hk⟩ := repr_ofAll I (t :: l) _ its ha rv hs (by omega)
      rw [AT.data] at hR
      have hna : a ∉ bs := not_mem_of_deeper hR (by simp only [PyData.depth]; omega) hb
      refine ⟨a :: bs, ?_, ?_⟩
      · rw [AT.data]
        exact ReadAtMost.cons hR (by simp only [PyData.depth]; omega) hb
      · rw [AT.txt, AT.data, PyData.depth]
        cases ha with
        | cons h1 h2 =>
          cases rv with
          | cons r1 r2 =>
            rw [AT.txtAll] at hk
            exact .lst ho hc hd hna hk
  | .tup a l, v, u, h, r, hs, hw => by
    obtain ⟨as, hR⟩ := Dp.reads I _ v u h.dp r
    cases h with
    | tup hq ha =>
      cases r
      obtain ⟨its, rv, ⟨o, ho, hc, n, hd⟩, _⟩ := I.tuple hq
      rw [AT.data, PyData.showable] at hs
      rw [AT.wid] at hw
      obtain ⟨bs, hb, hk⟩ := repr_ofAll I l _ its ha rv hs (by omega)
      rw [AT.data] at hR
      have hna : a ∉ bs := not_mem_of_deeper hR (by simp only [PyData.depth]; omega) hb
      refine ⟨a :: bs, ?_, ?_⟩
      · rw [AT.data]
        exact ReadAtMost.cons hR (by simp only [PyData.depth]; omega) hb
      · rw [AT.txt, AT.data, PyData.depth]
        exact .tup ho hc hd hna (by simpa using hk)
theorem repr_ofAll (I : Inv X pins σ H s) : ∀ (l : List AT) (vs : List V) (us : List Value), ApAll X.K H vs l → Vals vs us → PyData.showableAll (AT.dataAll l) = true → AT.widAll l ≤ sizeLine → ∃ bs, ReadAtMost s.heap (PyData.depthAll (AT.dataAll l)) bs ∧ ReprDs X.prog X.w g0 bs s.heap (PyData.depthAll (AT.dataAll l)) us (AT.txtAll g0 l)
  | [], _, _, h, r, _, _ => by
    cases h
    cases r
    exact ⟨[], (fun _ z => nomatch z), by rw [AT.txtAll]; exact .nil⟩
  | t :: l, _, _, h, r, hs, hw => by
    cases h with
    | cons h1 h2 =>
      cases r with
      | cons r1 r2 =>
        have hs' : t.data.showable = true ∧ PyData.showableAll (AT.dataAll l) = true := by simpa [AT.dataAll, PyData.showableAll] using hs
        rw [AT.widAll] at hw
        obtain ⟨b1, k1, m1⟩ := repr_of I t _ _ h1 r1 hs'.1 (by omega)
        obtain ⟨b2, k2, m2⟩ := repr_ofAll I l _ _ h2 r2 hs'.2 (by omega)
        rw [AT.dataAll, AT.txtAll, PyData.depthAll]
        exact ⟨b1 ++ b2, (k1.mono (Nat.le_max_left _ _)).append (k2.mono (Nat.le_max_right _ _)), .cons (m1.wide (fun b hb => List.mem_append_left _ hb) (Nat.le_max_left _ _)) (m2.wide (fun b hb => List.mem_append_right _ hb) (Nat.le_max_right _ _))⟩
end
end
end
section
open PySem.Spec PyProof.Rows
variable {X : Cx}
def gdX (X : Cx) (g : List Code) : Cx := { X with A := { X.A with guards := some g } }
theorem gd_inv {pins : List (Addr × Obj)} {σ : L2.St} {H : Hp} {s : Shared} {g : List Code} (I : Inv X pins σ H s) : Inv (gdX X g) pins σ H s :=
  ⟨⟨I.ok.mod, I.ok.kind, I.ok.glob, I.ok.blt, I.ok.above, I.ok.inj, I.ok.has, I.ok.cab, I.ok.hd, I.ok.frames, I.ok.stk, I.ok.exf, I.ok.bs, I.ok.bsz, I.ok.noex, I.ok.exfs, I.ok.funs, I.ok.frf⟩, I.os, I.bare, I.base, I.loc, I.cell, I.free, I.freeC, I.pin, I.hok, I.len⟩
theorem ungd_inv {pins : List (Addr × Obj)} {σ : L2.St} {H : Hp} {s : Shared} {g : List Code} (I : Inv (gdX X g) pins σ H s) : Inv X pins σ H s :=
  ⟨⟨I.ok.mod, I.ok.kind, I.ok.glob, I.ok.blt, I.ok.above, I.ok.inj, I.ok.has, I.ok.cab, I.ok.hd, I.ok.frames, I.ok.stk, I.ok.exf, I.ok.bs, I.ok.bsz, I.ok.noex, I.ok.exfs, I.ok.funs, I.ok.frf⟩, I.os, I.bare, I.base, I.loc, I.cell, I.free, I.freeC, I.pin, I.hok, I.len⟩
theorem gd_in {Γ : PySem.Ctx} {A : Around} (h : Γ.In A) : Γ.In { A with guards := some (Γ.code.guards ++ guardsOf Γ.below) } :=
  ⟨h.1, h.2.1, h.2.2.1, fun g hg => Option.some.inj hg, h.2.2.2.2⟩
theorem gd_room {k : Nat} {g : List Code} {A : Around} (h : Room k A) : Room k { A with guards := some g } := ⟨h.hd, h.dp, h.un⟩
/-- a block, for each list of what is being shown around it -/
theorem pss_gd {b : List Stmt} {t : List Code → TS} (h : ∀ g, PSs (gdX X g) b (t g)) : PSs X b (fun D σ H => ∀ g, t g D σ H) := by
  refine ⟨fun pins s σ H D I q Γ p hΓ => ?_⟩
  have k := (h (Γ.code.guards ++ guardsOf Γ.below)).run pins s σ H D (gd_inv I) (q _)
  refine (wpAny_mono k (fun f s' z => ?_) fun e s' z => z) Γ p (gd_in hΓ)
  cases f with
  | next =>
    obtain ⟨σ', H', J, z⟩ := z
    exact ⟨σ', H', ungd_inv J, z⟩
  | brk =>
    obtain ⟨σ', H', J, z⟩ := z
    exact ⟨σ', H', ungd_inv J, z⟩
  | cont =>
    obtain ⟨σ', H', J, z⟩ := z
    exact ⟨σ', H', ungd_inv J, z⟩
  | ret u =>
    obtain ⟨v, σ', H', J, r, z⟩ := z
    exact ⟨v, σ', H', ungd_inv J, r, z⟩
def rRepr (K : PySem.W.Frag) (g : List Code) : List V → Hp → VK → Prop := fun xs H Q => ∃ (v : V) (t : AT), xs = [v] ∧ Ap K H v t ∧ t.data.showable = true ∧ t.wid ≤ sizeLine ∧ t.data.depth ≤ 40 ∧ Q (.str (t.txt g)) H
theorem call_reprA {g : List Code} (hg : X.A.guards = some g) (hu : X.A.units + 64 < cLine) : CallR X (.builtin "repr") (rRepr X.K g) := by
  intro pins s σ H xs us Q I r h
  obtain ⟨v, t, rfl, ha, hs, hw, hd, q⟩ := h
  obtain ⟨u, rfl, ru⟩ := r.one
  have fin : ∀ (h' : Heap) (k tk : Tok), (∀ b o, s.heap.get? b = some o → h'.get? b = some o) → EP X pins σ Q (.str (t.txt g) k) { s with heap := h', toks := tk } := fun h' k tk hk => ⟨.str _, H, I.kept hk, ⟨_, rfl⟩, q⟩
  have fin0 : EP X pins σ Q (.str (t.txt g) s.toks) { s with toks := s.toks + 1 } := fin s.heap _ _ fun _ _ e => e
  cases t with
  | leaf d =>
    rw [AT.txt] at fin0
    rw [AT.wid] at hw
    cases ha with
    | non =>
      cases ru
      exact PySem.P.repr_of_none fin0
    | bl b =>
      cases ru
      exact PySem.P.repr_of_bool fin0
    | int i =>
      obtain ⟨k, rfl⟩ := ru
      exact PySem.P.repr_of_int (by simpa [AT.data, PyData.showable] using hs) fin0
    | str x =>
      obtain ⟨k, rfl⟩ := ru
      exact PySem.P.repr_of_str fin0 (by simpa only [PyData.shown] using hw)
  | lst a l =>
    have ha0 := ha
    obtain ⟨as, hR⟩ := Dp.reads I _ v u ha.dp ru
    cases ha with
    | lst hq hl =>
      cases ru
      obtain ⟨its, rv, ⟨o, n, ho, hc, _, hdt⟩, _⟩ := I.list hq
      refine call_repr_slot (by omega) ⟨o, ho, hc⟩ F.slot_list_repr.toG ?_
      cases l with
      | nil =>
        cases hl
        cases rv
        rw [AT.txt] at fin
        exact call_list_repr_empty ⟨o, ho, hc⟩ ho hdt ⟨_, _, rfl, fin s.heap _ _ fun _ _ e => e⟩
      | cons t l =>
        rw [AT.data, PyData.showable] at hs
        rw [AT.wid] at hw
        rw [AT.data, PyData.depth] at hd
        obtain ⟨bs, hb, hk⟩ := repr_ofAll (g0 := g) I (t :: l) _ its hl rv hs (by omega)
        rw [AT.data] at hR
        have hna : a ∉ bs := not_mem_of_deeper hR (by simp only [PyData.depth]; omega) hb
        cases hl with
        | cons h1 h2 =>
          cases rv with
          | cons r1 r2 =>
            rw [AT.txtAll] at hk
            rw [AT.txt] at fin
            have hz := txt_wid g (AT.lst a (t :: l))
            rw [AT.txt, AT.wid] at hz
            refine wpAny_call (codeAny_call_builtin_own (Code.quiet_builtin _ (by decide +kernel)) F.entry_list_repr (F.slot_list_repr.toG.check _ _ _ _ _ _ _ _ ⟨o, ho, hc⟩ (F.args_list_repr_1 _) ?_))
            refine list_at (R := callEnd _ _) (n := 0) ho hdt hna (by simpa using hk.len) (fun i y e => hk.item i y (by simpa using e)) F.slot_list_repr.plain hg (Agr.refl _ _) (by show X.A.units + 1 + _ < _; omega) (fun _ _ e => e) (fun h' u tk hk1 => ⟨_, _, rfl, fin h' u tk hk1⟩) fun hB => ?_
            rw [hB] at hz
            have hz2 : (listText (AT.txt g t :: AT.txtAll g l)).length ≤ 6 + AT.widAll (t :: l) := hz
            omega
  | tup a l =>
    obtain ⟨as, hR⟩ := Dp.reads I _ v u ha.dp ru
    cases ha with
    | tup hq hl =>
      cases ru
      obtain ⟨its, rv, ⟨o, ho, hc, n, hdt⟩, _⟩ := I.tuple hq
      refine call_repr_slot (by omega) ⟨o, ho, hc⟩ F.slot_tuple_repr ?_
      rw [AT.data, PyData.showable] at hs
      rw [AT.wid] at hw
      rw [AT.data, PyData.depth] at hd
      obtain ⟨bs, hb, hk⟩ := repr_ofAll (g0 := g) I l _ its hl rv hs (by omega)
      rw [AT.data] at hR
      have hna : a ∉ bs := not_mem_of_deeper hR (by simp only [PyData.depth]; omega) hb
      rw [AT.txt] at fin
      have hz := txt_wid g (AT.tup a l)
      rw [AT.txt, AT.wid] at hz
      refine wpAny_call (codeAny_call_builtin_own (Code.quiet_builtin _ (by decide +kernel)) F.entry_tuple_repr (F.slot_tuple_repr.check _ _ _ _ _ _ _ _ ⟨o, ho, hc⟩ (F.args_tuple_repr_1 _) ?_))
      refine tup_at (R := callEnd _ _) (n := 0) ho hdt hna (by simpa using hk) (isGuard_tuple_repr _) (units_under_tuple_repr _ _) hg (Agr.refl _ _) (by show X.A.units + 1 + _ < _; omega) (fun _ _ e => e) (fun h' u tk hk1 => ⟨_, _, rfl, fin h' u tk hk1⟩) fun hB => ?_
      rw [hB] at hz
      have hz2 : (tupleText (AT.txtAll g l)).length ≤ 6 + AT.widAll l := hz
      omega
end
/-! ### repr, where none is under way: by what the thing is -/
mutual
def dw : PyData → Nat
  | .list xs => 6 + dwAll xs
  | .tuple xs => 6 + dwAll xs
  | d => d.shown.length
def dwAll : List PyData → Nat
  | [] => 0
  | x :: xs => dw x + 2 + dwAll xs
end
section
open PySem.Spec PyProof.Rows
mutual
theorem dp_ap {K : PySem.W.Frag} {H : Hp} : ∀ {v : V} {d : PyData}, Dp K H v d → ∃ t : AT, Ap K H v t ∧ t.data = d ∧ t.wid = dw d ∧ t.txt [] = d.shown
  | _, _, .non => ⟨.leaf .none, .non, by rw [AT.data], by rw [AT.wid, dw] <;> nofun, by rw [AT.txt]⟩
  | _, _, .bl b => ⟨.leaf (.bool b), .bl b, by rw [AT.data], by rw [AT.wid, dw] <;> nofun, by rw [AT.txt]⟩
  | _, _, .int i => ⟨.leaf (.int i), .int i, by rw [AT.data], by rw [AT.wid, dw] <;> nofun, by rw [AT.txt]⟩
  | _, _, .str x => ⟨.leaf (.str x), .str x, by rw [AT.data], by rw [AT.wid, dw] <;> nofun, by rw [AT.txt]⟩
  | _, _, .lst (a := a) h q => by
    obtain ⟨l, h1, h2, h3, h4⟩ := dp_apAll q
    refine ⟨.lst a l, .lst h h1, by rw [AT.data, h2], by rw [AT.wid, dw, h3], ?_⟩
    rw [PyData.shown, ← h4]
    cases l with
    | nil =>
      rw [AT.txt, AT.txtAll]
      exact listText_nil.symm
    | cons t l =>
      rw [AT.txt, AT.txtAll]
      rfl
  | _, _, .tup (a := a) h q => by
    obtain ⟨l, h1, h2, h3, h4⟩ := dp_apAll q
    refine ⟨.tup a l, .tup h h1, by rw [AT.data, h2], by rw [AT.wid, dw, h3], ?_⟩
    rw [PyData.shown, ← h4, AT.txt]
    rfl
theorem dp_apAll {K : PySem.W.Frag} {H : Hp} : ∀ {vs : List V} {ds : List PyData}, DpAll K H vs ds → ∃ l : List AT, ApAll K H vs l ∧ AT.dataAll l = ds ∧ AT.widAll l = dwAll ds ∧ AT.txtAll [] l = PyData.shownAll ds
  | _, _, .nil => ⟨[], .nil, by rw [AT.dataAll], by rw [AT.widAll, dwAll], by rw [AT.txtAll, PyData.shownAll]⟩
  | _, _, .cons h q => by
    obtain ⟨t, a1, a2, a3, a4⟩ := dp_ap h
    obtain ⟨l, b1, b2, b3, b4⟩ := dp_apAll q
    exact ⟨t :: l, .cons a1 b1, by rw [AT.dataAll, a2, b2], by rw [AT.widAll, dwAll, a3, b3], by rw [AT.txtAll, PyData.shownAll, a4, b4]⟩
end
structure Shn (d : PyData) : Prop where
  s : d.showable = true
  w : dw d ≤ sizeLine
  d : d.depth ≤ 40
def rRepG (K : PySem.W.Frag) : List V → Hp → VK → Prop := fun xs H Q => ∃ (v : V) (d : PyData), xs = [v] ∧ Dp K H v d ∧ Shn d ∧ Q (.str d.shown) H
theorem call_reprG {X : Cx} (hg : X.A.guards = some []) (hu : X.A.units + 64 < cLine) : CallR X (.builtin "repr") (rRepG X.K) := by
  intro pins s σ H xs us Q I r h
  obtain ⟨v, d, rfl, hd, hs, q⟩ := h
  obtain ⟨t, h1, h2, h3, h4⟩ := dp_ap hd
  refine call_reprA hg hu pins s σ H _ us Q I r ⟨v, t, rfl, h1, by rw [h2]; exact hs.s, by rw [h3]; exact hs.w, by rw [h2]; exact hs.d, ?_⟩
  rw [h4]
  exact q
end
theorem dw_ints : ∀ {ns : List Int}, (∀ x ∈ ns, -1000000 ≤ x ∧ x ≤ 1000000) → PyData.showableAll (ns.map PyData.int) = true ∧ dwAll (ns.map PyData.int) ≤ 15 * ns.length ∧ PyData.depthAll (ns.map PyData.int) = 0
  | [], _ => ⟨by rw [List.map_nil, PyData.showableAll], by rw [List.map_nil, dwAll]; exact Nat.le_refl _, by rw [List.map_nil, PyData.depthAll]⟩
  | x :: r, h => by
    obtain ⟨a, b, c⟩ := dw_ints fun y hy => h y (List.mem_cons_of_mem _ hy)
    have hx := h x List.mem_cons_self
    have h1 : PyData.showable (.int x) = true := by
      rw [PyData.showable]
      refine decide_eq_true ?_
      have h1 : x.natAbs < 2 ^ 20 := by
        have : (2 : Nat) ^ 20 = 1048576 := by decide
        omega
      by_cases c : x.natAbs = 0
      · rw [c]
        decide
      · exact Nat.lt_trans ((Nat.log2_lt c).mpr h1) (by decide)
    have h2 : (PyData.shown (.int x)).length ≤ 13 := PyData.shown_int_le2 (by omega) (by omega)
    refine ⟨?_, ?_, ?_⟩
    · rw [List.map_cons, PyData.showableAll, h1, a]
      rfl
    · rw [List.map_cons, dwAll, List.length_cons]
      have : dw (.int x) = (PyData.shown (.int x)).length := by rw [dw] <;> nofun
      omega
    · rw [List.map_cons, PyData.depthAll, c, PyData.depth]
      rfl
theorem dw_rows : ∀ {ls : List (List Int)}, (∀ l ∈ ls, l.length ≤ 1000 ∧ ∀ x ∈ l, -1000000 ≤ x ∧ x ≤ 1000000) → PyData.showableAll (ls.map fun l => .list (l.map PyData.int)) = true ∧ dwAll (ls.map fun l => .list (l.map PyData.int)) ≤ 15100 * ls.length ∧ PyData.depthAll (ls.map fun l => .list (l.map PyData.int)) ≤ 1
  | [], _ => ⟨by rw [List.map_nil, PyData.showableAll], by rw [List.map_nil, dwAll]; exact Nat.le_refl _, by rw [List.map_nil, PyData.depthAll]; exact Nat.zero_le _⟩
  | x :: r, h => by
    obtain ⟨a, b, c⟩ := dw_rows fun y hy => h y (List.mem_cons_of_mem _ hy)
    obtain ⟨hl, hx⟩ := h x List.mem_cons_self
    obtain ⟨a1, b1, c1⟩ := dw_ints hx
    refine ⟨?_, ?_, ?_⟩
    · rw [List.map_cons, PyData.showableAll, PyData.showable, a1, a]
      rfl
    · rw [List.map_cons, dwAll, dw, List.length_cons]
      omega
    · rw [List.map_cons, PyData.depthAll, PyData.depth, c1]
      exact Nat.max_le.mpr ⟨by omega, c⟩
theorem shn_rows {ls : List (List Int)} (h : ∀ l ∈ ls, l.length ≤ 1000 ∧ ∀ x ∈ l, -1000000 ≤ x ∧ x ≤ 1000000) (k : ls.length ≤ 100) : Shn (.list (ls.map fun l => .list (l.map PyData.int))) := by
  obtain ⟨a, b, c⟩ := dw_rows h
  have hz : sizeLine = 16777216 := by decide
  refine ⟨?_, ?_, ?_⟩
  · rw [PyData.showable]
    exact a
  · rw [dw]
    omega
  · rw [PyData.depth]
    omega
/-! ### defs that are called while nothing is being shown -/
section
open PySem.Spec PyProof.Rows
/-- a def's promise where no repr is under way -/
structure FnG (P : Program) (w : World) (K : PySem.W.Frag) (mg : Str → Option Value) (base : Heap) (CX : CXT) (k : Nat) (f : Addr) (fd : FuncData) (ps : List Str) (sp : Sp) : Prop where
  len : ∀ vs H Q E, sp vs H Q E → vs.length = ps.length
  run : ∀ (A : Around) (outer : List Env) (s : Shared) (H : Hp) (args : Args) (us : List Value) (vs : List V) (Q : VK) (E : XK), A.guards = some [] → Room k A → Env0 P w K mg base A outer s H → BindsTo s fd args (ps.zip us) → Vals vs us → sp vs H Q E →
    codeAny (model P w) A (.call (.ref f) args) (CR CX outer P w H s Q E) s
variable {P : Program} {w : World} {K : PySem.W.Frag} {mg : Str → Option Value} {base : Heap} {CX : CXT} {k : Nat} {f : Addr} {fd : FuncData} {N ps : List Str} {sp : Sp}
theorem FnG.of (F : FnOk P w K mg base CX k f fd ps sp) : FnG P w K mg base CX k f fd ps sp := ⟨F.len, fun A outer s H args us vs Q E _ => F.run A outer s H args us vs Q E⟩
theorem okG {x qual : Str} {st : Stmt} (F : Fun K x qual st f fd) (S : FnScope N ps (defScope st)) (len : ∀ vs H Q E, sp vs H Q E → vs.length = ps.length)
    (body : ∀ (cdv : Value) (A : Around) (outer : List Env) (s : Shared) (H : Hp) (vs : List V) (Q : VK) (E : XK), A.guards = some [] → Room k (A.deeper (envOfC qual (defScope st) s.heap.objs.size f cdv)) → sp vs H Q E →
      ∃ t, PSs (cxOf CX0 P w K mg base N qual (defScope st) f cdv A outer s H E).nox (defBody st) t ∧ t { nx := fun _ H' => Q .non H', rt := Q } (L2.start N vs) H) : FnG P w K mg base CX0 (k + 1) f fd ps sp := by
  obtain ⟨oc, od, kV, doc, pm, an, cdv, ct, osl, rfl, lk, hcd⟩ := F.ex
  refine ⟨len, fun A outer s H args us vs Q E hgd hr e0 hb r hsp => ?_⟩
  have keeps : ∀ b o, base.get? b = some o → s.heap.get? b = some o := fun b o e => (e0.bs b o e).1
  have KX : K.In s.heap := e0.mod.kin.keeps keeps
  have kinds : ∀ y ∈ ps.zip us, (defScope st).names.lookup y.1 = some .local ∨ ((defScope st).names.lookup y.1 = some .cell ∧ ((cellsFrom (s.heap.objs.size + 1) (defScope st).names []).lookup y.1).isSome = true) := by
    rintro ⟨n, v⟩ hy
    rcases S.par n (List.of_mem_zip hy).1 with q | q
    · exact .inl q
    · exact .inr ⟨q, PySem.W.cellsFrom_some _ _ _ (.inl q)⟩
  refine codeAny_call_function hr.depth (KX _ _ lk) rfl S.co S.gen rfl (PySem.W.codeRec_of KX hcd) (hb _ _ _ _ (wpAny_newFunctionEnv_cells S.kind kinds fun env he s1 x => ?_))
  subst he
  refine ⟨(e0.mod.nolimit.keeps keeps).keeps x.toInCall.keep, codeAny_func ?_⟩
  obtain ⟨t, ht, hq⟩ := body cdv A outer s H vs Q E hgd (hr.deeper _) hsp
  have I := inv_start (CX := CX0) (E := E) S hr.hd e0 (len _ _ _ _ hsp) r x
  refine wpAny_mono (ht.nox.run [] s1 (L2.start N vs) H _ I hq) (fun fl s' z => ?_) fun e s' z => z
  cases fl with
  | ret u =>
    obtain ⟨v, σ', H', J, rv, z⟩ := z
    exact ⟨v, H', J.os, J.bare, J.base, J.hok, rv, z⟩
  | next =>
    obtain ⟨σ', H', J, z⟩ := z
    exact ⟨V.non, H', J.os, J.bare, J.base, J.hok, rfl, z⟩
  | brk =>
    obtain ⟨_, _, _, z⟩ := z
    exact z.elim
  | cont =>
    obtain ⟨_, _, _, z⟩ := z
    exact z.elim
variable {X : Cx} {dvs : List V} {ds : List Value} {E : XK} {x : Str} {p pos : Pos} {e : Expr} {es : List Expr} {t : TA}
theorem pe_callG (F : FnG X.prog X.w X.K X.mg X.base CX k f fd ps sp) (gd : X.A.guards = some []) (hr : Room k X.A) (hg : Gl X x) (hm : X.mg x = some (.ref f)) (hk : PySem.W.keepIn X.K (.ref f) = true) (hb : Binds X.K fd ps ds) (hd : Vals dvs ds) (hx : Passes CX X E) (ha : PA X (e :: es) t)
    (hdb : (x == ("__debug__" : Str)) = false := by decide) (he : starEach (e :: es) X.env = (false, eval e X.env) :: starEach es X.env := by rfl) (hpl : (backTo pos (starEach es X.env)).any (·.1) = false := by rfl) : PE X (.Call (.Name x p) (e :: es) [] pos) (tCall sp dvs E t) := by
  refine ⟨fun pins s σ H Q I h => wpAny_Call_Name_kw (ld_glob I hg hm ?_ hdb)⟩
  refine PySem.W.callWith_K (h₀ := X.base) I.ok.mod.kin hk (thn (ha.run pos pins s σ H _ I h) fun us s1 ⟨vs, H1, J, r, q⟩ => ⟨J.kIn, ?_⟩) he hpl
  have r2 : Vals (vs ++ dvs) (us ++ ds) := r.append hd
  refine wpAny_call (codeAny_mono (F.run X.A X.stack s1 H1 ⟨us, []⟩ (us ++ ds) (vs ++ dvs) Q E gd hr J.env0 (hb s1 us J.kIn (by rw [← r2.length]; exact F.len _ _ _ _ q)) r2 q) fun z s' hz => ?_)
  cases z with
  | error u => exact hx pins σ H1 s1 u s' J hz
  | ok fl =>
    cases fl with
    | ret u => exact J.after hz
    | next => exact hz.elim
    | brk => exact hz.elim
    | cont => exact hz.elim
end
section
open PySem.Spec PyProof.Rows
/-- the law's own call: nothing is being shown around it -/
theorem law_callG {P : Program} {w : World} {K : PySem.W.Frag} {mg mb : Str → Option Value} {k : Nat} {fa a : Addr} {fd : FuncData} {x : Str} {sp : Sp} {s1 : Shared} {vs : List Value} {ns : List Int} (KX : K.In s1.heap) (hns : s1.heap.Ns mainGlobals mg) (hb : s1.heap.Ns builtinsNs mb)
    (hbb : ∀ x : Str, x ≠ "__name__" → mb x = bootBuiltins x) (hlim : s1.heap.NoLimit) (hg : s1.gens = #[]) (ha : s1.heap.get? a = some { cls := .type "list", data := .seq vs.toArray }) (hi : IntsAre vs ns) (hl : ns.length ≤ sizeLine) (hr : Room k callerA)
    (F : ∀ base : Heap, K.In base → base.Ns mainGlobals mg → FnG P w K mg base CX0 k fa fd [x] sp) (hbind : ∀ (s : Shared) (u : Value), BindsTo s fd ⟨[u], []⟩ [(x, u)]) (hsp : ∀ H : Hp, Only H → SqL K H a (ns.map V.int) → sp [.ref a] H (fun v _ => v = .bl true) fun _ _ _ => False)
    : codeAny (model P w) callerA (.call (.ref fa) ⟨[.ref a], []⟩) (fun r s' => r = .ok (.ret (.bool true)) ∧ OldK s1.heap s'.heap ∧ s'.os = s1.os ∧ AllBare s'.gens) s1 := by
  have rv := vals_ints hi
  have lv := hi.length
  have main : ∀ H : Hp, Only H → SqL K H a (ns.map V.int) → HOk P w H s1.heap → (∀ b u, H b = some u → b = a) → (∀ u, H a = some u → K.lookup a = none) →
      codeAny (model P w) callerA (.call (.ref fa) ⟨[.ref a], []⟩) (fun r s' => r = .ok (.ret (.bool true)) ∧ OldK s1.heap s'.heap ∧ s'.os = s1.os ∧ AllBare s'.gens) s1 := by
    intro H hO hS hok hA hK
    have isn : ∀ {b : Addr}, b ≠ a → H b = none := fun {b} n => by
      cases q : H b with
      | none => rfl
      | some u => exact absurd (hA b u q) n
    have bn : ∀ {b : Addr} {m : Str → Option Value}, s1.heap.Ns b m → (hidT s1.heap H).Ns b m := by
      rintro b m ⟨o, es, ep, e, d, r⟩
      refine ⟨o, es, ep, hidT_get e (isn fun z => ?_), d, r⟩
      rw [z, ha] at e
      cases e
      cases d
    have bK : K.In (hidT s1.heap H) := fun b o e => hidT_get (KX b o e) (by
      cases q : H b with
      | none => rfl
      | some u =>
        have z := hA b u q
        subst z
        rw [hK u q] at e
        cases e)
    have lm : (hidT s1.heap H).NoLimit := by
      obtain ⟨mc, h1, h2⟩ := hlim
      exact ⟨mc, bn h1, h2⟩
    have e0 : Env0 P w K mg (hidT s1.heap H) callerA [] s1 H := ⟨rfl, ⟨bK, bn hns, ⟨mb, bn hb, hbb⟩, lm⟩, fun b o e => of_hidT e, Nat.le_of_eq (hidT_size _ _), trivial, (fun b z => nomatch z), hok, .of_eq hg⟩
    refine codeAny_mono ((F _ bK (bn hns)).run callerA [] s1 H ⟨[.ref a], []⟩ [.ref a] [.ref a] _ _ rfl hr e0 (hbind s1 (.ref a)) (.cons rfl .nil) (hsp H hO hS)) fun r s' h => ?_
    cases r with
    | error e => exact False.elim h
    | ok fl =>
      cases fl with
      | next => exact False.elim h
      | brk => exact False.elim h
      | cont => exact False.elim h
      | ret u =>
        obtain ⟨v, H', os, bare, un, hok', r', q⟩ := h
        have qv : v = .bl true := q
        subst qv
        obtain rfl : u = Value.bool true := r'
        refine ⟨rfl, OldK.of_keep fun b o e => ?_, os, bare⟩
        cases q : H b with
        | none => exact un.keep b o e q (fun z => nomatch z) (fun z => nomatch z)
        | some u =>
          rcases hO b with z | ⟨ob, xs, z⟩
          · rw [z] at q
            cases q
          · obtain ⟨e1, _⟩ := hok b _ z
            obtain ⟨e2, _⟩ := hok' b _ (un.frzs b ob _ z)
            rw [e1] at e
            cases e
            exact e2
  cases hk : K.lookup a with
  | some o =>
    have e := (KX a o hk).symm.trans ha
    cases e
    exact main (fun _ => none) (fun _ => .inl rfl) (.inr ⟨_, vs.toArray, _, hk, rfl, rfl, rfl, by rw [List.size_toArray, lv]; exact hl, by simpa using rv⟩) (fun b u z => nomatch z) (fun b u z => nomatch z) fun u z => nomatch z
  | none =>
    have gA : ∀ b u, (if b = a then some (HO.frz { cls := .type "list", data := .seq vs.toArray } (.lst (ns.map V.int))) else none) = some u → b = a ∧ u = HO.frz { cls := .type "list", data := .seq vs.toArray } (.lst (ns.map V.int)) := by
      intro b u z
      by_cases c : b = a
      · rw [if_pos c] at z
        exact ⟨c, (Option.some.inj z).symm⟩
      · rw [if_neg c] at z
        cases z
    refine main (fun b => if b = a then some (.frz { cls := .type "list", data := .seq vs.toArray } (.lst (ns.map V.int))) else none) (fun b => ?_) (.inl (.inr ⟨{ cls := .type "list", data := .seq vs.toArray }, if_pos rfl⟩)) (fun b u z => ?_) (fun b u z => (gA b u z).1) fun _ _ => hk
    · by_cases c : b = a
      · exact .inr ⟨_, _, if_pos c⟩
      · exact .inl (if_neg c)
    · obtain ⟨rfl, rfl⟩ := gA b u z
      exact ⟨ha, by rw [List.length_map]; exact hl, vs, _, rv, ha⟩
theorem walk_ofG {l : PySem.W.OpenLaw} {n k : Nat} {q : Program} {loose : List Str} {XP : (Str → Option Value) → Heap → Prop} {YP : World → Heap → Prop} {d : DefRec} {K : Params → PySem.W.Frag} {sp : World → Sp} {x : Str} (hn : l.most = some n) (hn2 : n ≤ sizeLine) (hdf : d.params.defaults = []) (hr : Room k callerA)
    (hY : ∀ (w : World) (h : Heap), YP w h → (K w.params).In h)
    (F : ∀ (w : World) (mg : Str → Option Value) (fa : Addr) (h : Heap), (K w.params).In h → h.Ns mainGlobals mg → mg d.name = some (.ref fa) → ∃ fd : FuncData, (∀ (s : Shared) (u : Value), BindsTo s fd ⟨[u], []⟩ [(x, u)]) ∧ ∀ base : Heap, (K w.params).In base → base.Ns mainGlobals mg → FnG l.prog w (K w.params) mg base CX0 k fa fd [x] (sp w))
    (hsp : ∀ (w : World) (H : Hp) (a : Addr) (ns : List Int), ns.length ≤ n → Only H → SqL (K w.params) H a (ns.map V.int) → sp w [.ref a] H (fun v _ => v = .bl true) fun _ _ _ => False) : PySem.W.WalkO q loose XP YP l.row.toRowW d [] (fun f vs => PySem.call f vs) := by
  refine Att.attach_call hn hdf fun w s₀ s1 mg mb fa o pm cd doc a vs ns G Y ho hd hcd hmg hobj hints hlen hg => ?_
  obtain ⟨fd, hb, hF⟩ := F w mg fa _ (hY w _ Y) G.T.g hmg
  exact law_callG (hY w _ Y) G.T.g G.T.b G.T.builtins G.T.nolimit hg hobj hints (Nat.le_trans hlen hn2) hr hF hb fun H hO hS => hsp w H a ns hlen hO hS
end
theorem ned_ints {K : PySem.W.Frag} {H : Hp} {a b : Addr} {ns ms : List Int} {Q : VK} (ha : SqL K H a (ns.map V.int)) (hb : SqL K H b (ms.map V.int)) (q : Q (.bl (!decide (ns = ms))) H) : rNeD K (.ref a) (.ref b) H Q := by
  refine ⟨_, _, .lst ha (dp_ints ns), .lst hb (dp_ints ms), PySem.W.ke_shaped_ints ns, PySem.W.ke_shaped_ints ms, ?_⟩
  have e : PyData.eqv (.list (ns.map PyData.int)) (.list (ms.map PyData.int)) = decide (ns = ms) := by
    rw [PyData.eqv]
    exact eqv_ints ns ms
  rw [e]
  exact q
/-! ### long division of rows, as the program walks it -/
def subAt (start : Nat) (top : Int) (bs : List Int) (r : List Int) : Nat → List Int
  | 0 => r
  | i + 1 => (subAt start top bs r i).set (start + i) ((subAt start top bs r i).getD (start + i) 0 - top * bs.getD i 0)
theorem subAt_len {start : Nat} {top : Int} {bs r : List Int} {i : Nat} : (subAt start top bs r i).length = r.length := by
  induction i with
  | zero => rfl
  | succ i ih => rw [subAt, List.length_set, ih]
def dvS (bs : List Int) (x : List Int × List Int) : List Int × List Int :=
  (subAt (x.1.length - 1 - (bs.length - 1)) (x.1.getD (x.1.length - 1) 0) bs x.1.dropLast (bs.length - 1), x.2 ++ [x.1.getD (x.1.length - 1) 0])
def dvN (bs : List Int) (row : List Int) : Nat → List Int × List Int
  | 0 => (row, [])
  | n + 1 => dvS bs (dvN bs row n)
theorem dvN_len {bs row : List Int} {n : Nat} : (dvN bs row n).1.length = row.length - n ∧ (dvN bs row n).2.length = n := by
  induction n with
  | zero => exact ⟨rfl, rfl⟩
  | succ n ih =>
    rw [dvN, dvS]
    refine ⟨?_, ?_⟩
    · show (subAt _ _ _ _ _).length = _
      rw [subAt_len, List.length_dropLast, ih.1]
      omega
    · show List.length (_ ++ _) = _
      rw [List.length_append, ih.2]
      rfl
theorem at_nat {xs : List V} {v : V} {i : Int} {j : Nat} (h : xs[j]? = some v) (e : i = (j : Int)) : atI xs i = some v := at_of (j := j) (by omega) (by rw [← h])
theorem at_map {ns : List Int} {i : Int} {j : Nat} (h : j < ns.length) (e : i = (j : Int)) : atI (ns.map V.int) i = some (.int (ns.getD j 0)) := by
  refine at_nat ?_ e
  rw [List.getElem?_map, List.getD_eq_getElem?_getD, List.getElem?_eq_getElem h]
  rfl
theorem ixn_of {n j : Nat} {i : Int} (h : j < n) (e : i = (j : Int)) : ixN n i = some j := by
  subst e
  unfold ixN
  simp [h]
theorem rep_len {n : Nat} {v : V} : (List.replicate n [v]).flatten.length = n := by
  induction n with
  | zero => rfl
  | succ n ih =>
    rw [List.replicate_succ, List.flatten_cons, List.length_append, ih]
    show 1 + n = n + 1
    omega
/-- the share of row by bs -/
def dvQ (bs row : List Int) : List Int := (dvN bs row (row.length - (bs.length - 1))).2.reverse
/-- the rest of row by bs -/
def dvR (bs row : List Int) : List Int := (dvN bs row (row.length - (bs.length - 1))).1 ++ List.replicate (bs.length - 1 - (dvN bs row (row.length - (bs.length - 1))).1.length) 0
theorem rep_flat2 {n : Nat} {v : V} : (List.replicate n [v]).flatten = List.replicate n v := by
  induction n with
  | zero => rfl
  | succ n ih =>
    rw [List.replicate_succ, List.flatten_cons, ih]
    rfl
section
open PySem.Spec PyProof.Rows
variable {P : Program} {w : World} {K : PySem.W.Frag} {mg : Str → Option Value} {base : Heap}
theorem fnsub {CX : CXT} {k : Nat} {f : Addr} {fd : FuncData} {ps : List Str} {sp sp1 : Sp} (G1 : FnOk P w K mg base CX k f fd ps sp1) (h : ∀ vs H Q E, sp vs H Q E → sp1 vs H Q E) : FnOk P w K mg base CX k f fd ps sp :=
  ⟨fun vs H Q E x => G1.len vs H Q E (h vs H Q E x), fun A outer s H args us vs Q E hr e0 hb r x => G1.run A outer s H args us vs Q E hr e0 hb r (h vs H Q E x)⟩
end
abbrev s_divided : Stmt := top 11
abbrev N_divided : List Str := ["row", "by", "degree", "rest", "falling", "top", "start", "at"]
abbrev P_divided : List Str := ["row", "by"]
theorem sc_divided : FnScope N_divided P_divided (defScope s_divided) := ⟨rfl, rfl, rfl, by decide +kernel, rfl, by decide +kernel, by decide +kernel⟩
def spDvd (K : PySem.W.Frag) : Sp := fun vs H Q _ => ∃ (a b : Addr) (row bs : List Int), vs = [.ref a, .ref b] ∧ SqL K H a (row.map V.int) ∧ SqL K H b (bs.map V.int) ∧ 1 ≤ bs.length ∧ bs.length ≤ 1000 ∧ row.length ≤ 1000 ∧ (∀ x ∈ bs, -1000000 ≤ x ∧ x ≤ 1000000) ∧
  ∀ t q z H', H q = none → Same H H' → SqT K H' t [.ref q, .ref z] → H' q = some (.lst ((dvQ bs row).map V.int)) → Q (.ref t) H'
def spDvd2 (K : PySem.W.Frag) : Sp := fun vs H Q _ => ∃ (a b : Addr) (row bs : List Int), vs = [.ref a, .ref b] ∧ SqL K H a (row.map V.int) ∧ (SqL K H b (bs.map V.int) ∨ SqT K H b (bs.map V.int)) ∧ 1 ≤ bs.length ∧ bs.length ≤ 1000 ∧ row.length ≤ 1000 ∧ (∀ x ∈ bs, -1000000 ≤ x ∧ x ≤ 1000000) ∧
  ∀ t q z H', H q = none → Same H H' → SqT K H' t [.ref q, .ref z] → H' q = some (.lst ((dvQ bs row).map V.int)) → H z = none → H' z = some (.lst ((dvR bs row).map V.int)) → Q (.ref t) H'
section
variable {P : Program} {w : World} {K : PySem.W.Frag} {mg : Str → Option Value} {base : Heap}
theorem ok_divided2 {f : Addr} {fd : FuncData} {k : Nat} (F : Fun K "divided" "divided" s_divided f fd) (T : Blt mg) : FnOk P w K mg base CX0 (k + 1) f fd P_divided (spDvd2 K) := by
  have nd := sc_divided.nd
  refine F.ok sc_divided (fun vs H Q E h => ?_) (fun cdv A outer s H vs Q E hr h => ?_)
  · obtain ⟨a, b, row, bs, rfl, _⟩ := h
    rfl
  · obtain ⟨a, b, row, bs, rfl, ha, hb, b1, b2, r1, hbb, q⟩ := h
    refine ⟨_, (pss_cons (ps_set (i := 2) nd rfl (Or.inl rfl) (pe_op op_sub (pe_callB (r := rLenQ K) call_len_seq (by rfl) T.b_len (by decide +kernel) (pa_cons (pv 1) pa_nil)) (pe_int)))
      (pss_cons (ps_set (i := 3) nd rfl (Or.inl rfl) (pe_callTy call_list_of (by rfl) T.b_list (by decide +kernel) (pa_cons (pv 0) pa_nil)))
      (pss_cons (ps_set (i := 4) nd rfl (Or.inl rfl) (pe_lst pa_nil))
      (pss_cons (ps_while PassesOwn.never (pt_cmpR op_gt (pe_callB (r := rLenQ K) call_len_seq (by rfl) T.b_len (by decide +kernel) (pa_cons (pv 3) pa_nil)) (pv 2) (nomark _))
      (pss_cons (ps_set (i := 5) nd rfl (Or.inl rfl) (pe_bm0 PySem.F.plainAttrs_list PySem.F.slot_list_pop PySem.F.type_list_pop mt_pop (pv 3)))
      (pss_cons (ps_expr (pe_bm PySem.F.plainAttrs_list PySem.F.slot_list_append PySem.F.type_list_append mt_append (pv 4) (pa_cons (pv 5) pa_nil)))
      (pss_cons (ps_set (i := 6) nd rfl (Or.inl rfl) (pe_op op_sub (pe_callB (r := rLenQ K) call_len_seq (by rfl) T.b_len (by decide +kernel) (pa_cons (pv 3) pa_nil)) (pv 2)))
      (pss_one (ps_for PassesOwn.never rfl (pi_range1 (by rfl) T.b_range (pa_cons (pv 2) pa_nil)) (pg_name (i := 7) nd rfl (Or.inl rfl))
      (pss_one (ps_augS (pv 3) (pe_op op_add (pv 6) (pv 7)) (get_list (X := _)) (pe_op op_mul (pv 5) (pe_ix (r := rIxQ K) ix_seq (pv 1) (pv 7) (fun _ _ => rfl))) ip_sub set_list))))))))
      (pss_one (ps_ret (pe_tup (pa_cons (pe_revL (pv 4)) (pa_cons (pe_op op_cat (pv 3) (pe_op op_rep (pe_lst (pa_cons (pe_int) pa_nil)) (pe_op op_sub (pv 2) (pe_callB (r := rLenQ K) call_len_seq (by rfl) T.b_len (by decide +kernel) (pa_cons (pv 3) pa_nil))))) pa_nil))))))))), ?_⟩
    walk_at "ev"
    intro l1 hl1
    generalize hG : upd _ l1 _ = H1
    obtain ⟨sm1, hq1⟩ := newO hG hl1
    clear hG
    walk_at "ev"
    intro l2 hl2
    generalize hG : upd _ l2 _ = H2
    obtain ⟨sm2, hq2⟩ := newO hG hl2
    clear hG
    have n12 : l1 ≠ l2 := ne_of_none hq1 hl2
    have f2 : H l2 = none := sm1.free hl2
    walk_at "ev"
    refine ⟨fun m σ H' => ∃ (n : Nat) (s5 s6 s7 : Option V), σ = [some (.ref a), some (.ref b), some (.int (((bs.map V.int).length : Int) - 1)), some (.ref l1), some (.ref l2), s5, s6, s7] ∧ m = row.length - n ∧ n ≤ row.length - (bs.length - 1) ∧ Same H H' ∧ H' l1 = some (.lst ((dvN bs row n).1.map V.int)) ∧ H' l2 = some (.lst ((dvN bs row n).2.map V.int)), ⟨_, 0, none, none, none, rfl, rfl, Nat.zero_le _, sm1.trans sm2, sm2 _ _ hq1, hq2⟩, ?_⟩
    rintro m σ H3 ⟨n, s5, s6, s7, rfl, rfl, hn, sm3, h1, h2⟩
    obtain ⟨e1, e2⟩ := dvN_len (bs := bs) (row := row) (n := n)
    have hL1 := SqL.of (K := K) h1
    walk_at "ev"
    refine ite2 (fun c => ?_) (fun c => ?_)
    · have c1 := of_decide_eq_true c
      simp only [List.length_map, e1] at c1
      refine ⟨_, holdN, ?_⟩
      have hy : ((dvN bs row n).1.map V.int)[((dvN bs row n).1.map V.int).length - 1]? = some (.int ((dvN bs row n).1.getD ((dvN bs row n).1.length - 1) 0)) := by
        rw [List.getElem?_map, List.length_map, List.getD_eq_getElem?_getD, List.getElem?_eq_getElem (by omega)]
        rfl
      have etop : ∃ top, (dvN bs row n).1.getD ((dvN bs row n).1.length - 1) 0 = top := ⟨_, rfl⟩
      obtain ⟨top, htop⟩ := etop
      rw [htop] at hy
      walk_at "ev"
      generalize hG : upd _ l1 _ = H4
      obtain ⟨k4, hq4⟩ := mutO hG
      have sm4 : Same H H4 := by rw [← hG]; exact same_mut sm3 hl1
      clear hG
      have h24 := k4 _ _ n12.symm h2
      have h14 : upd H4 l2 (.lst ((dvN bs row n).2.map V.int ++ [.int top])) l1 = some (.lst ((dvN bs row n).1.map V.int).dropLast) := by
        rw [upd_ne n12]
        exact hq4
      have hL5 := SqL.of (K := K) h14
      walk_at "ev"
      generalize hG : upd H4 l2 _ = H5
      have sm5 : Same H H5 := by rw [← hG]; exact same_mut sm4 f2
      have h25 := (mutO hG).2
      rw [hG] at h14
      clear hG hL5
      have edl : ((dvN bs row n).1.map V.int).dropLast = (dvN bs row n).1.dropLast.map V.int := by
        rw [List.map_dropLast]
      rw [edl] at h14
      refine for_range (lo := 0) (n := (((bs.map V.int).length : Int) - 1).toNat) (fun i σ H' => Hold (∃ s7, σ = [some (.ref a), some (.ref b), some (.int (((bs.map V.int).length : Int) - 1)), some (.ref l1), some (.ref l2), some (.int top), some (.int (((((dvN bs row n).1.map V.int).dropLast).length : Int) - (((bs.map V.int).length : Int) - 1))), s7] ∧ Same H H' ∧ H' l1 = some (.lst ((subAt ((dvN bs row n).1.length - 1 - (bs.length - 1)) top bs (dvN bs row n).1.dropLast i).map V.int)) ∧ H' l2 = some (.lst ((dvN bs row n).2.map V.int ++ [.int top])))) (.mk ⟨_, rfl, sm5, h14, h25⟩) ?_ ?_
      · intro i σ H6 hi hP
        obtain ⟨s7, rfl, sm6, h16, h26⟩ := hP.un
        have hi1 : i < bs.length - 1 := by
          rw [List.length_map] at hi
          omega
        have hb6 := sq_same sm6 hb
        have hL6 := SqL.of (K := K) h16
        have hsl := subAt_len (start := (dvN bs row n).1.length - 1 - (bs.length - 1)) (top := top) (bs := bs) (r := (dvN bs row n).1.dropLast) (i := i)
        rw [List.length_dropLast] at hsl
        have eix : ((((dvN bs row n).1.map V.int).dropLast).length : Int) - (((bs.map V.int).length : Int) - 1) + (0 + (i : Int)) = (((dvN bs row n).1.length - 1 - (bs.length - 1) + i : Nat) : Int) := by
          rw [List.length_dropLast, List.length_map, List.length_map]
          omega
        have hlt : (dvN bs row n).1.length - 1 - (bs.length - 1) + i < (dvN bs row n).1.length - 1 := by omega
        have at1 : atI ((subAt ((dvN bs row n).1.length - 1 - (bs.length - 1)) top bs (dvN bs row n).1.dropLast i).map V.int) (((((dvN bs row n).1.map V.int).dropLast).length : Int) - (((bs.map V.int).length : Int) - 1) + (0 + (i : Int))) = some (.int ((subAt ((dvN bs row n).1.length - 1 - (bs.length - 1)) top bs (dvN bs row n).1.dropLast i).getD ((dvN bs row n).1.length - 1 - (bs.length - 1) + i) 0)) := by
          refine at_nat ?_ eix
          rw [List.getElem?_map, List.getD_eq_getElem?_getD, List.getElem?_eq_getElem (by omega)]
          rfl
        have hix : ixN ((subAt ((dvN bs row n).1.length - 1 - (bs.length - 1)) top bs (dvN bs row n).1.dropLast i).map V.int).length (((((dvN bs row n).1.map V.int).dropLast).length : Int) - (((bs.map V.int).length : Int) - 1) + (0 + (i : Int))) = some ((dvN bs row n).1.length - 1 - (bs.length - 1) + i) := by
          exact ixn_of (by rw [List.length_map]; omega) eix
        have at2 : atI (bs.map V.int) (0 + (i : Int)) = some (.int (bs.getD i 0)) := by
          refine at_nat (j := i) ?_ (by omega)
          rw [List.getElem?_map, List.getD_eq_getElem?_getD, List.getElem?_eq_getElem (by omega)]
          rfl
        have hbi : -1000000 ≤ bs.getD i 0 ∧ bs.getD i 0 ≤ 1000000 := by
          rw [List.getD_eq_getElem?_getD, List.getElem?_eq_getElem (by omega)]
          exact hbb _ (List.getElem_mem _)
        have cm : CMul top (bs.getD i 0) := .inr ⟨by omega, by omega⟩
        walk_at "ev"
        refine .mk ⟨_, rfl, same_mut sm6 hl1, ?_, ?_⟩
        · rw [upd_same, subAt, List.map_set]
        · rw [upd_ne n12.symm]
          exact h26
      · intro σ H6 hP
        obtain ⟨s7, rfl, sm6, h16, h26⟩ := hP.un
        have edg : (((bs.map V.int).length : Int) - 1).toNat = bs.length - 1 := by
          rw [List.length_map]
          omega
        rw [edg] at h16
        refine .mk ⟨row.length - (n + 1), by omega, n + 1, _, _, _, rfl, rfl, by omega, sm6, ?_, ?_⟩
        · rw [h16, dvN, dvS, htop]
        · rw [h26, dvN, dvS, htop]
          show _ = some (HO.lst (List.map _ (_ ++ _)))
          rw [List.map_append]
          rfl
    · have c1 : ¬ _ := fun z => c (decide_eq_true z)
      simp only [List.length_map, e1] at c1
      have hL2 := SqL.of (K := K) h2
      have en : n = row.length - (bs.length - 1) := by omega
      walk_at "ev"
      intro q1 hq
      generalize hG : upd _ q1 _ = H4
      obtain ⟨sm4, hq4⟩ := newO hG hq
      clear hG
      have hL4 := sm4.seq hL1
      walk_at "ev"
      intro l5 hl5
      generalize hG : upd _ l5 _ = H5
      obtain ⟨sm5, hq5⟩ := newO hG hl5
      clear hG
      have hL5 := sm5.seq hL4
      have z1 : ([V.int 0] : List V).length * ((((bs.map V.int).length : Int) - 1) - (((dvN bs row n).1.map V.int).length : Int)).toNat ≤ sizeLine := szl (by rw [List.length_map, List.length_map]; show 1 * _ ≤ 60000; omega)
      have z2 : -(2 ^ 63) ≤ (((bs.map V.int).length : Int) - 1) - (((dvN bs row n).1.map V.int).length : Int) := by rw [List.length_map, List.length_map]; omega
      have z3 : (((bs.map V.int).length : Int) - 1) - (((dvN bs row n).1.map V.int).length : Int) < 2 ^ 63 := by rw [List.length_map, List.length_map]; omega
      walk_at "ev"
      intro l6 hl6
      generalize hG : upd _ l6 _ = H6
      obtain ⟨sm6, hq6⟩ := newO hG hl6
      clear hG
      have h16 := (sm4.trans (sm5.trans sm6)) _ _ h1
      have z4 : ((dvN bs row n).1.map V.int).length + (List.replicate ((((bs.map V.int).length : Int) - 1) - (((dvN bs row n).1.map V.int).length : Int)).toNat [V.int 0]).flatten.length ≤ sizeLine := szl (by
        rw [rep_len, List.length_map, List.length_map]
        show _ ≤ 60000
        omega)
      walk_at "ev"
      intro l7 hl7
      generalize hG : upd _ l7 _ = H7
      obtain ⟨sm7, hq7⟩ := newO hG hl7
      clear hG
      walk_at "ev"
      intro t8 ht8
      generalize hG : upd _ t8 _ = H8
      obtain ⟨sm8, hq8⟩ := newO hG ht8
      clear hG
      have s48 := sm5.trans (sm6.trans (sm7.trans sm8))
      refine q t8 q1 l7 H8 (sm3.free hq) (sm3.trans (sm4.trans s48)) (SqT.of hq8) ?_ ((sm3.trans (sm4.trans (sm5.trans sm6))).free hl7) ?_
      · rw [s48 _ _ hq4, dvQ, ← en, List.map_reverse]
      · rw [sm8 _ _ hq7, dvR, ← en, List.map_append, rep_flat2, List.map_replicate, List.length_map, List.length_map]
        congr 4
        omega
theorem ok_divided {f : Addr} {fd : FuncData} {k : Nat} (F : Fun K "divided" "divided" s_divided f fd) (T : Blt mg) : FnOk P w K mg base CX0 (k + 1) f fd P_divided (spDvd K) :=
  fnsub (ok_divided2 F T) fun vs H Q E ⟨a, b, row, bs, h1, h2, h3, h4, h5, h6, h7, q⟩ => ⟨a, b, row, bs, h1, h2, .inl h3, h4, h5, h6, h7, fun t y z H' e1 e2 e3 e4 _ _ => q t y z H' e1 e2 e3 e4⟩
end
/-! ### wheels to thirty, by a table -/
def WT : List (List Int) := [[], [-1, 1], [1, 1], [1, 1, 1], [1, 0, 1], [1, 1, 1, 1, 1], [1, -1, 1], [1, 1, 1, 1, 1, 1, 1], [1, 0, 0, 0, 1], [1, 0, 0, 1, 0, 0, 1], [1, -1, 1, -1, 1], [1, 1, 1, 1, 1, 1, 1, 1, 1, 1, 1], [1, 0, -1, 0, 1], [1, 1, 1, 1, 1, 1, 1, 1, 1, 1, 1, 1, 1], [1, -1, 1, -1, 1, -1, 1], [1, -1, 0, 1, -1, 1, 0, -1, 1], [1, 0, 0, 0, 0, 0, 0, 0, 1], [1, 1, 1, 1, 1, 1, 1, 1, 1, 1, 1, 1, 1, 1, 1, 1, 1], [1, 0, 0, -1, 0, 0, 1], [1, 1, 1, 1, 1, 1, 1, 1, 1, 1, 1, 1, 1, 1, 1, 1, 1, 1, 1], [1, 0, -1, 0, 1, 0, -1, 0, 1], [1, -1, 0, 1, -1, 0, 1, 0, -1, 1, 0, -1, 1], [1, -1, 1, -1, 1, -1, 1, -1, 1, -1, 1], [1, 1, 1, 1, 1, 1, 1, 1, 1, 1, 1, 1, 1, 1, 1, 1, 1, 1, 1, 1, 1, 1, 1], [1, 0, 0, 0, -1, 0, 0, 0, 1], [1, 0, 0, 0, 0, 1, 0, 0, 0, 0, 1, 0, 0, 0, 0, 1, 0, 0, 0, 0, 1], [1, -1, 1, -1, 1, -1, 1, -1, 1, -1, 1, -1, 1], [1, 0, 0, 0, 0, 0, 0, 0, 0, 1, 0, 0, 0, 0, 0, 0, 0, 0, 1], [1, 0, -1, 0, 1, 0, -1, 0, 1, 0, -1, 0, 1], [1, 1, 1, 1, 1, 1, 1, 1, 1, 1, 1, 1, 1, 1, 1, 1, 1, 1, 1, 1, 1, 1, 1, 1, 1, 1, 1, 1, 1], [1, 1, 0, -1, -1, -1, 0, 1, 1]]
def whl (n : Nat) : List Int := WT.getD n []
def pdv (n : Nat) : List Nat := (List.range' 1 (n - 1)).filter fun d => decide (n % d = 0)
def whS (n : Nat) : List Int := [-1] ++ List.replicate (n - 1) 0 ++ [1]
theorem whl_ok : ∀ n < 31, 1 ≤ n → (pdv n).foldl (fun t d => dvQ (whl d) t) (whS n) = whl n := by decide +kernel
theorem whl_len : ∀ n < 31, 1 ≤ n → 1 ≤ (whl n).length ∧ (whl n).length ≤ 31 := by decide +kernel
theorem whl_bnd : ∀ n < 31, ∀ x ∈ whl n, -1000000 ≤ x ∧ x ≤ 1000000 := by decide +kernel
theorem dvQ_len {bs row : List Int} : (dvQ bs row).length ≤ row.length := by
  unfold dvQ
  rw [List.length_reverse, dvN_len.2]
  omega
theorem pdv_dv {n : Nat} (h : 1 ≤ n) : IsDv (n : Int) ((pdv n ++ [n]).map Int.ofNat) := by
  refine ⟨?_, fun k => ?_⟩
  · rw [List.pairwise_map, List.pairwise_append]
    refine ⟨?_, List.pairwise_singleton _ _, fun x hx y hy => ?_⟩
    · refine (List.Pairwise.filter _ (List.pairwise_lt_range' (s := 1) (n := n - 1))).imp fun {x y} z => ?_
      exact Int.ofNat_lt.mpr z
    · have h1 := (List.mem_filter.mp hx).1
      rw [List.mem_range'_1] at h1
      rw [List.mem_singleton.mp hy]
      exact Int.ofNat_lt.mpr (by omega)
  · rw [List.mem_map]
    constructor
    · rintro ⟨x, hx, rfl⟩
      rcases List.mem_append.mp hx with z | z
      · obtain ⟨h1, h2⟩ := List.mem_filter.mp z
        rw [List.mem_range'_1] at h1
        exact ⟨Int.ofNat_le.mpr h1.1, Int.ofNat_dvd.mpr (Nat.dvd_of_mod_eq_zero (of_decide_eq_true h2))⟩
      · rw [List.mem_singleton.mp z]
        exact ⟨Int.ofNat_le.mpr h, Int.dvd_refl _⟩
    · rintro ⟨h1, h2⟩
      obtain ⟨m, rfl⟩ := Int.eq_ofNat_of_zero_le (show 0 ≤ k by omega)
      have h3 : m ∣ n := Int.ofNat_dvd.mp h2
      have h4 := Nat.le_of_dvd (by omega) h3
      refine ⟨m, List.mem_append.mpr ?_, rfl⟩
      by_cases c : m = n
      · exact .inr (by rw [c]; exact List.mem_singleton.mpr rfl)
      · refine .inl (List.mem_filter.mpr ⟨?_, decide_eq_true (Nat.mod_eq_zero_of_dvd h3)⟩)
        rw [List.mem_range'_1]
        omega
theorem rep_flat {n : Nat} {v : V} : (List.replicate n [v]).flatten = List.replicate n v := by
  induction n with
  | zero => rfl
  | succ n ih =>
    rw [List.replicate_succ, List.flatten_cons, ih]
    rfl
theorem cut_last {xs : List V} {v : V} : cutV (xs ++ [v]) none (some (-1)) = xs := by
  unfold cutV
  have e : HT.sIx (xs ++ [v]).length (xs ++ [v]).length (some (-1)) = xs.length := by
    simp [HT.sIx]
    try omega
  have e0 : HT.sIx (xs ++ [v]).length 0 none = 0 := by simp [HT.sIx]
  rw [e, e0, List.drop_zero, Nat.sub_zero, List.take_left]
abbrev s_wheel : Stmt := top 13
abbrev N_wheel : List Str := ["order", "told", "divisor"]
abbrev P_wheel : List Str := ["order"]
theorem sc_wheel : FnScope N_wheel P_wheel (defScope s_wheel) := ⟨rfl, rfl, rfl, by decide +kernel, rfl, by decide +kernel, by decide +kernel⟩
def spWheel (j : Nat) : Sp := fun vs H Q _ => ∃ (n : Nat), vs = [.int (n : Int)] ∧ 1 ≤ n ∧ n < 31 ∧ n < 2 ^ j ∧ ∀ l H', H l = none → Same H H' → H' l = some (.lst ((whl n).map V.int)) → Q (.ref l) H'
section
variable {P : Program} {w : World} {K : PySem.W.Frag} {mg : Str → Option Value} {base : Heap}
theorem wheel_step {f f1 f2 : Addr} {fd d1 d2 : FuncData} {j : Nat} (D_wheel : Df K mg "wheel" s_wheel P_wheel f fd) (T : Blt mg) (D_divisors : Df K mg "divisors" s_divisors P_divisors f1 d1) (D_divided : Df K mg "divided" s_divided P_divided f2 d2)
    (G_wheel : FnOk P w K mg base CX0 (j + 1) f fd P_wheel (spWheel j)) : FnOk P w K mg base CX0 (j + 2) f fd P_wheel (spWheel (j + 1)) := by
  have F := D_wheel.F
  have G_divisors : FnOk P w K mg base CX0 1 f1 d1 P_divisors spDiv := ok_divisors D_divisors.F T
  have G_divided : FnOk P w K mg base CX0 1 f2 d2 P_divided (spDvd K) := ok_divided D_divided.F T
  have nd := sc_wheel.nd
  refine F.ok sc_wheel (fun vs H Q E h => ?_) (fun cdv A outer s H vs Q E hr h => ?_)
  · obtain ⟨n, rfl, _⟩ := h
    rfl
  · obtain ⟨n, rfl, n1, n31, nj, q⟩ := h
    refine ⟨_, (pss_cons (ps_set (i := 1) nd rfl (Or.inl rfl) (pe_op op_cat (pe_op op_cat (pe_lst (pa_cons (pe_un un_neg (pe_int)) pa_nil)) (pe_op op_rep (pe_lst (pa_cons (pe_int) pa_nil)) (pe_op op_sub (pv 0) (pe_int)))) (pe_lst (pa_cons (pe_int) pa_nil))))
      (pss_cons (ps_for PassesOwn.never rfl (pi_list (pe_slice (r := rSlL K) sl_list (pe_call G_divisors (hr.mono (by omega)) (by rfl) D_divisors.g D_divisors.F.kp D_divisors.b .nil pass0 (pa_cons (pv 0) pa_nil)) po_none (po_some (pe_un un_neg (pe_int))))) (pg_name (i := 2) nd rfl (Or.inl rfl))
      (pss_one (ps_set (i := 1) nd rfl (Or.inl rfl) (pe_ix (r := rIxT K) ix_tup (pe_call G_divided (hr.mono (by omega)) (by rfl) D_divided.g D_divided.F.kp D_divided.b .nil pass0 (pa_cons (pv 1) (pa_cons (pe_call G_wheel (hr.mono (by omega)) (by rfl) D_wheel.g D_wheel.F.kp D_wheel.b .nil pass0 (pa_cons (pv 2) pa_nil)) pa_nil))) (pe_int) (fun _ _ => rfl)))))
      (pss_one (ps_ret (pv 1))))), ?_⟩
    walk_at "ev"
    intro l1 hl1
    generalize hG : upd _ l1 _ = H1
    obtain ⟨sm1, hq1⟩ := newO hG hl1
    clear hG
    walk_at "ev"
    intro l2 hl2
    generalize hG : upd _ l2 _ = H2
    obtain ⟨sm2, hq2⟩ := newO hG hl2
    clear hG
    have z1 : ([V.int 0] : List V).length * ((n : Int) - 1).toNat ≤ sizeLine := szl (by show 1 * _ ≤ 60000; omega)
    walk_at "ev"
    intro l3 hl3
    generalize hG : upd _ l3 _ = H3
    obtain ⟨sm3, hq3⟩ := newO hG hl3
    clear hG
    have h13 := (sm2.trans sm3) _ _ hq1
    have z2 : ([(fun i => V.int (-i)) 1] : List V).length + (List.replicate ((n : Int) - 1).toNat [V.int 0]).flatten.length ≤ sizeLine := szl (by rw [rep_len]; show 1 + _ ≤ 60000; omega)
    walk_at "ev"
    intro l4 hl4
    generalize hG : upd _ l4 _ = H4
    obtain ⟨sm4, hq4⟩ := newO hG hl4
    clear hG
    walk_at "ev"
    intro l5 hl5
    generalize hG : upd _ l5 _ = H5
    obtain ⟨sm5, hq5⟩ := newO hG hl5
    clear hG
    have h45 := sm5 _ _ hq4
    have z3 : ([(fun i => V.int (-i)) 1] ++ (List.replicate ((n : Int) - 1).toNat [V.int 0]).flatten).length + ([V.int 1] : List V).length ≤ sizeLine := szl (by rw [List.length_append, rep_len]; show 1 + _ + 1 ≤ 60000; omega)
    walk_at "ev"
    intro l6 hl6
    generalize hG : upd _ l6 _ = H6
    obtain ⟨sm6, hq6⟩ := newO hG hl6
    clear hG
    have ew : [(fun i => V.int (-i)) 1] ++ (List.replicate ((n : Int) - 1).toNat [V.int 0]).flatten ++ [V.int 1] = (whS n).map V.int := by
      unfold whS
      rw [List.map_append, List.map_append, show ((n : Int) - 1).toNat = n - 1 by omega, List.map_replicate, rep_flat]
      rfl
    rw [ew] at hq6
    have s06 := sm1.trans (sm2.trans (sm3.trans (sm4.trans (sm5.trans sm6))))
    have f6 : H l6 = none := (sm1.trans (sm2.trans (sm3.trans (sm4.trans sm5)))).free hl6
    walk_at "ev"
    intro ds l7 H7 hdv hl7 sm7 hq7
    have eds := hdv.uniq (pdv_dv n1)
    subst eds
    have hL7 := SqL.of (K := K) hq7
    walk_at "ev"
    intro l8 hl8
    generalize hG : upd _ l8 _ = H8
    obtain ⟨sm8, hq8⟩ := newO hG hl8
    clear hG
    have ec : cutV (((pdv n ++ [n]).map Int.ofNat).map V.int) none (some (-1)) = (pdv n).map fun (d : Nat) => V.int (d : Int) := by
      rw [List.map_map, List.map_append]
      exact cut_last
    have hq8' : H8 l8 = some (.lst ((pdv n).map fun (d : Nat) => V.int (d : Int))) := by
      rw [hq8, ← ec]
    clear hq8
    have s08 := s06.trans (sm7.trans sm8)
    have f8 : H l8 = none := (s06.trans sm7).free hl8
    refine ⟨l8, rfl, ⟨_, SqL.of hq8'⟩, ?_⟩
    refine for_list (K := K) (a := l8) (xs := (pdv n).map fun (d : Nat) => V.int (d : Int)) (fun i σ H' => Hold (∃ (lt : Addr) (s2 : Option V), σ = [some (.int (n : Int)), some (.ref lt), s2] ∧ H lt = none ∧ Same H H' ∧ H' l8 = some (.lst ((pdv n).map fun (d : Nat) => V.int (d : Int))) ∧ (((pdv n).take i).foldl (fun t d => dvQ (whl d) t) (whS n)).length ≤ 1000 ∧ H' lt = some (.lst ((((pdv n).take i).foldl (fun t d => dvQ (whl d) t) (whS n)).map V.int)))) (.mk ⟨l6, _, rfl, f6, s08, hq8', ?_, (sm7.trans sm8) _ _ hq6⟩) ?_ ?_ ?_
    · show (whS n).length ≤ 1000
      unfold whS
      rw [List.length_append, List.length_append, List.length_replicate]
      show 1 + (n - 1) + 1 ≤ 1000
      omega
    · intro i σ Hx hi hP
      obtain ⟨lt, s2, rfl, ft, smx, hx8, hlen, hxt⟩ := hP.un
      exact SqL.of hx8
    · intro i v σ Hx hv hP
      obtain ⟨lt, s2, rfl, ft, smx, hx8, hlen, hxt⟩ := hP.un
      rw [List.getElem?_map] at hv
      obtain ⟨d, hd, ev⟩ := Option.map_eq_some_iff.mp hv
      subst ev
      obtain ⟨hd1, hd2⟩ := List.mem_filter.mp (List.mem_of_getElem? hd)
      rw [List.mem_range'_1] at hd1
      have hd3 := of_decide_eq_true hd2
      have hdn : 2 * d ≤ n := by
        obtain ⟨c, hc⟩ := Nat.dvd_of_mod_eq_zero hd3
        have c2 : 2 ≤ c := by
          apply Nat.le_of_not_lt
          intro z
          have : c = 0 ∨ c = 1 := by omega
          rcases this with z | z <;> subst z <;> omega
        have := Nat.mul_le_mul_left d c2
        omega
      have hdj : d < 2 ^ j := by
        rw [Nat.pow_succ] at nj
        omega
      have hd31 : d < 31 := by omega
      have hd0 : 1 ≤ d := hd1.1
      have hLt := SqL.of (K := K) hxt
      obtain ⟨wl1, wl2⟩ := whl_len d hd31 hd0
      have wl3 : (whl d).length ≤ 1000 := by omega
      have wb := whl_bnd d hd31
      walk_at "ev"
      intro lw H9 hlw sm9 hq9
      have hLw := SqL.of (K := K) hq9
      have hLt9 := sm9.seq hLt
      have et : ((pdv n).take (i + 1)).foldl (fun t d => dvQ (whl d) t) (whS n) = dvQ (whl d) (((pdv n).take i).foldl (fun t d => dvQ (whl d) t) (whS n)) := by
        rw [List.take_succ, hd, List.foldl_append]
        rfl
      have el := dvQ_len (bs := whl d) (row := ((pdv n).take i).foldl (fun t d => dvQ (whl d) t) (whS n))
      walk_at "ev"
      intro t10 q10 z10 H10 hq sm10 hT hq10
      have at0 : atI [V.ref q10, V.ref z10] 0 = some (.ref q10) := rfl
      walk_at "ev"
      refine .mk ⟨q10, _, rfl, (smx.trans sm9).free hq, smx.trans (sm9.trans sm10), (sm9.trans sm10) _ _ hx8, ?_, ?_⟩
      · rw [et]
        omega
      · rw [et]
        exact hq10
    · intro σ Hx hP
      obtain ⟨lt, s2, rfl, ft, smx, hx8, hlen, hxt⟩ := hP.un
      rw [List.length_map, List.take_length, whl_ok n n31 n1] at hxt
      walk_at "ev"
      exact q lt Hx ft smx hxt
theorem ok_wheel {f f1 f2 : Addr} {fd d1 d2 : FuncData} (D_wheel : Df K mg "wheel" s_wheel P_wheel f fd) (T : Blt mg) (D_divisors : Df K mg "divisors" s_divisors P_divisors f1 d1) (D_divided : Df K mg "divided" s_divided P_divided f2 d2) : ∀ j : Nat, FnOk P w K mg base CX0 (j + 1) f fd P_wheel (spWheel j)
  | 0 => ⟨fun _ _ _ _ ⟨n, _, h1, _, h2, _⟩ => absurd h2 (by rw [Nat.pow_zero]; omega), fun _ _ _ _ _ _ _ _ _ _ _ _ _ ⟨n, _, h1, _, h2, _⟩ => absurd h2 (by rw [Nat.pow_zero]; omega)⟩
  | j + 1 => wheel_step D_wheel T D_divisors D_divided (ok_wheel D_wheel T D_divisors D_divided j)
end
/-! ### the law's own dividing -/
def ldN (bs row : List Int) : Nat → List Int × List Int
  | 0 => (row, [])
  | n + 1 => (subAt (row.length - bs.length - n) ((ldN bs row n).1.getD (row.length - bs.length - n + bs.length - 1) 0) bs (ldN bs row n).1 bs.length, (ldN bs row n).2 ++ [(ldN bs row n).1.getD (row.length - bs.length - n + bs.length - 1) 0])
theorem ldN_len {bs row : List Int} {n : Nat} : (ldN bs row n).1.length = row.length ∧ (ldN bs row n).2.length = n := by
  induction n with
  | zero => exact ⟨rfl, rfl⟩
  | succ n ih =>
    rw [ldN]
    refine ⟨?_, ?_⟩
    · show (subAt _ _ _ _ _).length = _
      rw [subAt_len, ih.1]
    · show List.length (_ ++ _) = _
      rw [List.length_append, ih.2]
      rfl
def ldQ (bs row : List Int) : List Int := (ldN bs row (row.length + 1 - bs.length)).2.reverse
theorem ldQ_len {bs row : List Int} (h : 1 ≤ bs.length) : (ldQ bs row).length ≤ row.length := by
  unfold ldQ
  rw [List.length_reverse, ldN_len.2]
  omega
abbrev s__law_divided : Stmt := top 20
abbrev N__law_divided : List Str := ["_law_top", "_law_low", "_law_rest", "_law_found", "_law_place", "_law_many", "_law_spot", "_law_number"]
abbrev P__law_divided : List Str := ["_law_top", "_law_low"]
theorem sc__law_divided : FnScope N__law_divided P__law_divided (defScope s__law_divided) := ⟨rfl, rfl, rfl, by decide +kernel, rfl, by decide +kernel, by decide +kernel⟩
def spLdv (K : PySem.W.Frag) : Sp := fun vs H Q _ => ∃ (a b : Addr) (row bs : List Int), vs = [.ref a, .ref b] ∧ SqL K H a (row.map V.int) ∧ SqL K H b (bs.map V.int) ∧ 1 ≤ bs.length ∧ bs.length ≤ 1000 ∧ row.length ≤ 1000 ∧ (∀ x ∈ bs, -1000000 ≤ x ∧ x ≤ 1000000) ∧
  ∀ q H', H q = none → Same H H' → H' q = some (.lst ((ldQ bs row).map V.int)) → Q (.ref q) H'
section
variable {P : Program} {w : World} {K : PySem.W.Frag} {mg : Str → Option Value} {base : Heap}
theorem ok_ldv {f : Addr} {fd : FuncData} {k : Nat} (F : Fun K "_law_divided" "_law_divided" s__law_divided f fd) (T : Blt mg) : FnOk P w K mg base CX0 (k + 1) f fd P__law_divided (spLdv K) := by
  have nd := sc__law_divided.nd
  refine F.ok sc__law_divided (fun vs H Q E h => ?_) (fun cdv A outer s H vs Q E hr h => ?_)
  · obtain ⟨a, b, row, bs, rfl, _⟩ := h
    rfl
  · obtain ⟨a, b, row, bs, rfl, ha, hb, b1, b2, r1, hbb, q⟩ := h
    refine ⟨_, (pss_cons (ps_par (i := 2) (j := 3) (by rfl) nd rfl rfl (by decide) rfl rfl (pa_cons (pe_callTy call_list_of (by rfl) T.b_list (by decide +kernel) (pa_cons (pv 0) pa_nil)) (pa_cons (pe_lst pa_nil) pa_nil)) (by rfl))
      (pss_cons (ps_for PassesOwn.never rfl (pi_range3 (by rfl) T.b_range (pa_cons (pe_op op_sub (pe_callB (r := rLenQ K) call_len_seq (by rfl) T.b_len (by decide +kernel) (pa_cons (pv 0) pa_nil)) (pe_callB (r := rLenQ K) call_len_seq (by rfl) T.b_len (by decide +kernel) (pa_cons (pv 1) pa_nil))) (pa_cons (pe_un un_neg (pe_int)) (pa_cons (pe_un un_neg (pe_int)) pa_nil)))) (pg_name (i := 4) nd rfl (Or.inl rfl))
      (pss_cons (ps_set (i := 5) nd rfl (Or.inl rfl) (pe_ix (r := rIxL K) ix_list (pv 2) (pe_op op_sub (pe_op op_add (pv 4) (pe_callB (r := rLenQ K) call_len_seq (by rfl) T.b_len (by decide +kernel) (pa_cons (pv 1) pa_nil))) (pe_int)) (fun _ _ => rfl)))
      (pss_cons (ps_expr (pe_bm PySem.F.plainAttrs_list PySem.F.slot_list_append PySem.F.type_list_append mt_append (pv 3) (pa_cons (pv 5) pa_nil)))
      (pss_one (ps_for PassesOwn.never rfl (pi_enum (by rfl) T.b_enumerate (pa_cons (pv 1) pa_nil)) (pg_tup (by rfl) (pgs_cons (pg_name (i := 6) nd rfl (Or.inl rfl)) (pgs_cons (pg_name (i := 7) nd rfl (Or.inl rfl)) pgs_nil)))
      (pss_one (ps_asg (pe_op op_sub (pe_ix (r := rIxL K) ix_list (pv 2) (pe_op op_add (pv 4) (pv 6)) (fun _ _ => rfl)) (pe_op op_mul (pv 5) (pv 7))) (pg_sub (pv 2) (pe_op op_add (pv 4) (pv 6)) set_list))))))))
      (pss_one (ps_ret (pe_revL (pv 3)))))), ?_⟩
    walk_at "ev"
    intro l1 hl1
    generalize hG : upd _ l1 _ = H1
    obtain ⟨sm1, hq1⟩ := newO hG hl1
    clear hG
    walk_at "ev"
    intro l2 hl2
    generalize hG : upd _ l2 _ = H2
    obtain ⟨sm2, hq2⟩ := newO hG hl2
    clear hG
    have n12 : l1 ≠ l2 := ne_of_none hq1 hl2
    have f2 : H l2 = none := sm1.free hl2
    have sm02 := sm1.trans sm2
    have ha2 := sm02.seq ha
    have hb2 := sm02.seq hb
    have rg : RgC (((row.map V.int).length : Int) - ((bs.map V.int).length : Int)) (-1) (-1) ((((row.map V.int).length : Int) - ((bs.map V.int).length : Int)) - (-1)).toNat := RgC.neg (by rw [List.length_map, List.length_map]; omega) (by rw [List.length_map, List.length_map]; omega) (by decide) (by decide)
    walk_at "ev"
    have en : ((((row.map V.int).length : Int) - ((bs.map V.int).length : Int)) - (-1)).toNat = row.length + 1 - bs.length := by
      rw [List.length_map, List.length_map]
      omega
    refine for_rangeC (lo := _) (c := _) (n := _) (fun n σ H' => Hold (∃ (s4 s5 s6 s7 : Option V), σ = [some (.ref a), some (.ref b), some (.ref l1), some (.ref l2), s4, s5, s6, s7] ∧ Same H H' ∧ H' l1 = some (.lst ((ldN bs row n).1.map V.int)) ∧ H' l2 = some (.lst ((ldN bs row n).2.map V.int)))) (.mk ⟨none, none, none, none, rfl, sm02, sm2 _ _ hq1, hq2⟩) ?_ ?_
    · intro n σ H3 hn hP
      obtain ⟨s4, s5, s6, s7, rfl, sm3, h1, h2⟩ := hP.un
      rw [en] at hn
      obtain ⟨e1, e2⟩ := ldN_len (bs := bs) (row := row) (n := n)
      have hL1 := SqL.of (K := K) h1
      have hb3 := sm3.seq hb
      have epl : (((row.map V.int).length : Int) - ((bs.map V.int).length : Int)) + (n : Nat) * (-1) = ((row.length - bs.length - n : Nat) : Int) := by
        rw [List.length_map, List.length_map]
        omega
      rw [epl]
      have at1 : atI ((ldN bs row n).1.map V.int) (((row.length - bs.length - n : Nat) : Int) + ((bs.map V.int).length : Int) - 1) = some (.int ((ldN bs row n).1.getD (row.length - bs.length - n + bs.length - 1) 0)) := at_map (by omega) (by rw [List.length_map]; omega)
      obtain ⟨top, htop⟩ : ∃ top, (ldN bs row n).1.getD (row.length - bs.length - n + bs.length - 1) 0 = top := ⟨_, rfl⟩
      rw [htop] at at1
      walk_at "ev"
      generalize hG : upd _ l2 _ = H4
      obtain ⟨k4, hq4⟩ := mutO hG
      have sm4 : Same H H4 := by rw [← hG]; exact same_mut sm3 f2
      clear hG
      have h14 := k4 _ _ n12 h1
      have hb4 := sm4.seq hb
      refine ⟨hb4, for_enumL (K := K) (a := b) (xs := bs.map V.int) (fun i σ H' => Hold (∃ (s6 s7 : Option V), σ = [some (.ref a), some (.ref b), some (.ref l1), some (.ref l2), some (.int ((row.length - bs.length - n : Nat) : Int)), some (.int top), s6, s7] ∧ Same H H' ∧ H' l1 = some (.lst ((subAt (row.length - bs.length - n) top bs (ldN bs row n).1 i).map V.int)) ∧ H' l2 = some (.lst ((ldN bs row n).2.map V.int ++ [.int top])))) (.mk ⟨_, _, rfl, sm4, h14, hq4⟩) ?_ ?_ ?_⟩
      · intro i σ H5 hP
        obtain ⟨s6, s7, rfl, sm5, h15, h25⟩ := hP.un
        exact sm5.seq hb
      · intro i v T' σ H5 hv hP hT
        obtain ⟨s6, s7, rfl, sm5, h15, h25⟩ := hP.un
        rw [List.getElem?_map] at hv
        obtain ⟨x, hx, ev⟩ := Option.map_eq_some_iff.mp hv
        subst ev
        have hil : i < bs.length := (List.getElem?_eq_some_iff.mp hx).1
        have exi : bs.getD i 0 = x := by rw [List.getD_eq_getElem?_getD, hx]; rfl
        have hxb := hbb x (List.mem_of_getElem? hx)
        generalize hG : upd _ T' _ = H6
        obtain ⟨sm6, hq6⟩ := newO hG hT
        clear hG
        have hT6 : SqT K H6 T' [.int (i : Nat), .int x] := SqT.of hq6
        have h16 := sm6 _ _ h15
        have hL6 := SqL.of (K := K) h16
        have hsl := subAt_len (start := row.length - bs.length - n) (top := top) (bs := bs) (r := (ldN bs row n).1) (i := i)
        have at2 : atI ((subAt (row.length - bs.length - n) top bs (ldN bs row n).1 i).map V.int) (((row.length - bs.length - n : Nat) : Int) + (i : Nat)) = some (.int ((subAt (row.length - bs.length - n) top bs (ldN bs row n).1 i).getD (row.length - bs.length - n + i) 0)) := at_map (by omega) (by omega)
        have hix : ixN ((subAt (row.length - bs.length - n) top bs (ldN bs row n).1 i).map V.int).length (((row.length - bs.length - n : Nat) : Int) + (i : Nat)) = some (row.length - bs.length - n + i) := ixn_of (by rw [List.length_map]; omega) (by omega)
        have cm : CMul top x := .inr ⟨by omega, by omega⟩
        walk_at "ev"
        refine .mk ⟨_, _, rfl, same_mut (sm5.trans sm6) hl1, ?_, ?_⟩
        · rw [upd_same, subAt, List.map_set, exi]
        · rw [upd_ne n12.symm]
          exact sm6 _ _ h25
      · intro σ H5 hP
        obtain ⟨s6, s7, rfl, sm5, h15, h25⟩ := hP.un
        rw [List.length_map] at h15
        refine .mk ⟨_, _, _, _, rfl, sm5, ?_, ?_⟩
        · rw [h15, ldN, htop]
        · rw [h25, ldN, htop, List.map_append]
          rfl
    · intro σ H3 hP
      obtain ⟨s4, s5, s6, s7, rfl, sm3, h1, h2⟩ := hP.un
      rw [en] at h2
      have hL2 := SqL.of (K := K) h2
      walk_at "ev"
      intro q1 hq
      generalize hG : upd _ q1 _ = H4
      obtain ⟨sm4, hq4⟩ := newO hG hq
      clear hG
      refine q q1 H4 (sm3.free hq) (sm3.trans sm4) ?_
      rw [hq4, ldQ, List.map_reverse]
end
theorem owl_ok : ∀ n < 31, 1 ≤ n → (pdv n).foldl (fun t d => ldQ (whl d) t) (whS n) = whl n := by decide +kernel
theorem pdv_step {n i : Nat} (h : i < n - 1) : (List.range' 1 (i + 1)).filter (fun d => decide (n % d = 0)) = (List.range' 1 i).filter (fun d => decide (n % d = 0)) ++ (if n % (1 + i) = 0 then [1 + i] else []) := by
  rw [List.range'_concat, List.filter_append, Nat.one_mul]
  congr 1
  by_cases c : n % (1 + i) = 0
  · rw [if_pos c]
    simp [c]
  · rw [if_neg c]
    simp [c]
abbrev s__law_own_wheel : Stmt := top 21
abbrev N__law_own_wheel : List Str := ["_law_number", "_law_found", "_law_part"]
abbrev P__law_own_wheel : List Str := ["_law_number"]
theorem sc__law_own_wheel : FnScope N__law_own_wheel P__law_own_wheel (defScope s__law_own_wheel) := ⟨rfl, rfl, rfl, by decide +kernel, rfl, by decide +kernel, by decide +kernel⟩
section
variable {P : Program} {w : World} {K : PySem.W.Frag} {mg : Str → Option Value} {base : Heap}
theorem own_step {f f2 : Addr} {fd d2 : FuncData} {j : Nat} (D__law_own_wheel : Df K mg "_law_own_wheel" s__law_own_wheel P__law_own_wheel f fd) (T : Blt mg) (D__law_divided : Df K mg "_law_divided" s__law_divided P__law_divided f2 d2)
    (G__law_own_wheel : FnOk P w K mg base CX0 (j + 1) f fd P__law_own_wheel (spWheel j)) : FnOk P w K mg base CX0 (j + 2) f fd P__law_own_wheel (spWheel (j + 1)) := by
  have F := D__law_own_wheel.F
  have G__law_divided : FnOk P w K mg base CX0 1 f2 d2 P__law_divided (spLdv K) := ok_ldv D__law_divided.F T
  have nd := sc__law_own_wheel.nd
  refine F.ok sc__law_own_wheel (fun vs H Q E h => ?_) (fun cdv A outer s H vs Q E hr h => ?_)
  · obtain ⟨n, rfl, _⟩ := h
    rfl
  · obtain ⟨n, rfl, n1, n31, nj, q⟩ := h
    refine ⟨_, (pss_cons (ps_set (i := 1) nd rfl (Or.inl rfl) (pe_op op_cat (pe_op op_cat (pe_lst (pa_cons (pe_un un_neg (pe_int)) pa_nil)) (pe_op op_rep (pe_lst (pa_cons (pe_int) pa_nil)) (pe_op op_sub (pv 0) (pe_int)))) (pe_lst (pa_cons (pe_int) pa_nil))))
      (pss_cons (ps_for PassesOwn.never rfl (pi_range2 (by rfl) T.b_range (pa_cons (pe_int) (pa_cons (pv 0) pa_nil))) (pg_name (i := 2) nd rfl (Or.inl rfl))
      (pss_one (ps_if (pt_cmpR op_eq (pe_op op_mod (pv 0) (pv 2)) (pe_int) (nomark _)) (pss_one (ps_set (i := 1) nd rfl (Or.inl rfl) (pe_call G__law_divided (hr.mono (by omega)) (by rfl) D__law_divided.g D__law_divided.F.kp D__law_divided.b .nil pass0 (pa_cons (pv 1) (pa_cons (pe_call G__law_own_wheel (hr.mono (by omega)) (by rfl) D__law_own_wheel.g D__law_own_wheel.F.kp D__law_own_wheel.b .nil pass0 (pa_cons (pv 2) pa_nil)) pa_nil))))) pss_nil)))
      (pss_one (ps_ret (pv 1))))), ?_⟩
    walk_at "ev"
    intro l1 hl1
    generalize hG : upd _ l1 _ = H1
    obtain ⟨sm1, hq1⟩ := newO hG hl1
    clear hG
    walk_at "ev"
    intro l2 hl2
    generalize hG : upd _ l2 _ = H2
    obtain ⟨sm2, hq2⟩ := newO hG hl2
    clear hG
    have z1 : ([V.int 0] : List V).length * ((n : Int) - 1).toNat ≤ sizeLine := szl (by show 1 * _ ≤ 60000; omega)
    walk_at "ev"
    intro l3 hl3
    generalize hG : upd _ l3 _ = H3
    obtain ⟨sm3, hq3⟩ := newO hG hl3
    clear hG
    have h13 := (sm2.trans sm3) _ _ hq1
    have z2 : ([(fun i => V.int (-i)) 1] : List V).length + (List.replicate ((n : Int) - 1).toNat [V.int 0]).flatten.length ≤ sizeLine := szl (by rw [rep_len]; show 1 + _ ≤ 60000; omega)
    walk_at "ev"
    intro l4 hl4
    generalize hG : upd _ l4 _ = H4
    obtain ⟨sm4, hq4⟩ := newO hG hl4
    clear hG
    walk_at "ev"
    intro l5 hl5
    generalize hG : upd _ l5 _ = H5
    obtain ⟨sm5, hq5⟩ := newO hG hl5
    clear hG
    have h45 := sm5 _ _ hq4
    have z3 : ([(fun i => V.int (-i)) 1] ++ (List.replicate ((n : Int) - 1).toNat [V.int 0]).flatten).length + ([V.int 1] : List V).length ≤ sizeLine := szl (by rw [List.length_append, rep_len]; show 1 + _ + 1 ≤ 60000; omega)
    walk_at "ev"
    intro l6 hl6
    generalize hG : upd _ l6 _ = H6
    obtain ⟨sm6, hq6⟩ := newO hG hl6
    clear hG
    have ew : [(fun i => V.int (-i)) 1] ++ (List.replicate ((n : Int) - 1).toNat [V.int 0]).flatten ++ [V.int 1] = (whS n).map V.int := by
      unfold whS
      rw [List.map_append, List.map_append, show ((n : Int) - 1).toNat = n - 1 by omega, List.map_replicate, rep_flat]
      rfl
    rw [ew] at hq6
    have s06 := sm1.trans (sm2.trans (sm3.trans (sm4.trans (sm5.trans sm6))))
    have f6 : H l6 = none := (sm1.trans (sm2.trans (sm3.trans (sm4.trans sm5)))).free hl6
    walk_at "ev"
    refine for_range (lo := 1) (n := _) (fun i σ H' => Hold (∃ (lt : Addr) (s2 : Option V), σ = [some (.int (n : Int)), some (.ref lt), s2] ∧ H lt = none ∧ Same H H' ∧ ((((List.range' 1 i).filter fun d => decide (n % d = 0))).foldl (fun t d => ldQ (whl d) t) (whS n)).length ≤ 1000 ∧ H' lt = some (.lst (((((List.range' 1 i).filter fun d => decide (n % d = 0))).foldl (fun t d => ldQ (whl d) t) (whS n)).map V.int)))) (.mk ⟨l6, _, rfl, f6, s06, ?_, hq6⟩) ?_ ?_
    · show (whS n).length ≤ 1000
      unfold whS
      rw [List.length_append, List.length_append, List.length_replicate]
      show 1 + (n - 1) + 1 ≤ 1000
      omega
    · intro i σ Hx hi hP
      obtain ⟨lt, s2, rfl, ft, smx, hlen, hxt⟩ := hP.un
      have hi1 : i < n - 1 := by omega
      have hst := pdv_step hi1
      have ei : (1 : Int) + (i : Nat) = ((1 + i : Nat) : Int) := by omega
      rw [ei]
      walk_at "ev"
      refine ite2 (fun c => ?_) (fun c => ?_)
      · have c1 : n % (1 + i) = 0 := by
          have := V.int.inj (of_decide_eq_true c)
          omega
        rw [if_pos c1] at hst
        have hdn : 2 * (1 + i) ≤ n := by
          obtain ⟨m, hc⟩ := Nat.dvd_of_mod_eq_zero c1
          have c2 : 2 ≤ m := by
            apply Nat.le_of_not_lt
            intro z
            have : m = 0 ∨ m = 1 := by omega
            rcases this with z | z <;> subst z <;> omega
          have := Nat.mul_le_mul_left (1 + i) c2
          omega
        have hdj : 1 + i < 2 ^ j := by
          rw [Nat.pow_succ] at nj
          omega
        have hd31 : 1 + i < 31 := by omega
        have hd0 : 1 ≤ 1 + i := by omega
        have hLt := SqL.of (K := K) hxt
        obtain ⟨wl1, wl2⟩ := whl_len (1 + i) hd31 hd0
        have wl3 : (whl (1 + i)).length ≤ 1000 := by omega
        have wb := whl_bnd (1 + i) hd31
        walk_at "ev"
        intro lw H9 hlw sm9 hq9
        have hLw := SqL.of (K := K) hq9
        have hLt9 := sm9.seq hLt
        have el := ldQ_len (bs := whl (1 + i)) (row := ((List.range' 1 i).filter fun d => decide (n % d = 0)).foldl (fun t d => ldQ (whl d) t) (whS n)) wl1
        walk_at "ev"
        intro q10 H10 hq sm10 hq10
        refine .mk ⟨q10, _, rfl, (smx.trans sm9).free hq, smx.trans (sm9.trans sm10), ?_, ?_⟩
        · rw [hst, List.foldl_append]
          show (ldQ _ _).length ≤ 1000
          omega
        · rw [hst, List.foldl_append]
          exact hq10
      · have c1 : ¬ n % (1 + i) = 0 := fun z => c (decide_eq_true (congrArg V.int (by omega)))
        rw [if_neg c1, List.append_nil] at hst
        walk_at "ev"
        refine .mk ⟨lt, _, rfl, ft, smx, ?_, ?_⟩
        · rw [hst]
          exact hlen
        · rw [hst]
          exact hxt
    · intro σ Hx hP
      obtain ⟨lt, s2, rfl, ft, smx, hlen, hxt⟩ := hP.un
      have en : ((n : Int) - 1).toNat = n - 1 := by omega
      rw [en] at hxt
      have hk := owl_ok n n31 n1
      unfold pdv at hk
      rw [hk] at hxt
      walk_at "ev"
      exact q lt Hx ft smx hxt
theorem ok_own {f f2 : Addr} {fd d2 : FuncData} (D__law_own_wheel : Df K mg "_law_own_wheel" s__law_own_wheel P__law_own_wheel f fd) (T : Blt mg) (D__law_divided : Df K mg "_law_divided" s__law_divided P__law_divided f2 d2) : ∀ j : Nat, FnOk P w K mg base CX0 (j + 1) f fd P__law_own_wheel (spWheel j)
  | 0 => ⟨fun _ _ _ _ ⟨n, _, h1, _, h2, _⟩ => absurd h2 (by rw [Nat.pow_zero]; omega), fun _ _ _ _ _ _ _ _ _ _ _ _ _ ⟨n, _, h1, _, h2, _⟩ => absurd h2 (by rw [Nat.pow_zero]; omega)⟩
  | j + 1 => own_step D__law_own_wheel T D__law_divided (ok_own D__law_own_wheel T D__law_divided j)
end
/-! ### the law's own multiplying -/
def addAt (start : Nat) (top : Int) (bs : List Int) (r : List Int) : Nat → List Int
  | 0 => r
  | i + 1 => (addAt start top bs r i).set (start + i) ((addAt start top bs r i).getD (start + i) 0 + top * bs.getD i 0)
theorem addAt_len {start : Nat} {top : Int} {bs r : List Int} {i : Nat} : (addAt start top bs r i).length = r.length := by
  induction i with
  | zero => rfl
  | succ i ih => rw [addAt, List.length_set, ih]
def pmN (one two : List Int) : Nat → List Int
  | 0 => List.replicate (one.length + two.length - 1) 0
  | n + 1 => addAt n (one.getD n 0) two (pmN one two n) two.length
theorem pmN_len {one two : List Int} {n : Nat} : (pmN one two n).length = one.length + two.length - 1 := by
  induction n with
  | zero => rw [pmN, List.length_replicate]
  | succ n ih => rw [pmN, addAt_len, ih]
def pmul (one two : List Int) : List Int := pmN one two one.length
abbrev s__law_poly_times : Stmt := top 25
abbrev N__law_poly_times : List Str := ["_law_one", "_law_two", "_law_found", "_law_place", "_law_a", "_law_spot", "_law_b"]
abbrev P__law_poly_times : List Str := ["_law_one", "_law_two"]
theorem sc__law_poly_times : FnScope N__law_poly_times P__law_poly_times (defScope s__law_poly_times) := ⟨rfl, rfl, rfl, by decide +kernel, rfl, by decide +kernel, by decide +kernel⟩
def spPolyT (K : PySem.W.Frag) : Sp := fun vs H Q _ => ∃ (a b : Addr) (one two : List Int), vs = [.ref a, .ref b] ∧ SqT K H a (one.map V.int) ∧ SqT K H b (two.map V.int) ∧ 1 ≤ two.length ∧ two.length ≤ 1000 ∧ one.length ≤ 1000 ∧ (∀ x ∈ one, x.natAbs < 2 ^ 400) ∧ (∀ x ∈ two, x.natAbs < 2 ^ 400) ∧
  ∀ q H', H q = none → Same H H' → H' q = some (.lst ((pmul one two).map V.int)) → Q (.ref q) H'
section
variable {P : Program} {w : World} {K : PySem.W.Frag} {mg : Str → Option Value} {base : Heap}
theorem ok_polyT {f : Addr} {fd : FuncData} {k : Nat} (F : Fun K "_law_poly_times" "_law_poly_times" s__law_poly_times f fd) (T : Blt mg) : FnOk P w K mg base CX0 (k + 1) f fd P__law_poly_times (spPolyT K) := by
  have nd := sc__law_poly_times.nd
  refine F.ok sc__law_poly_times (fun vs H Q E h => ?_) (fun cdv A outer s H vs Q E hr h => ?_)
  · obtain ⟨a, b, one, two, rfl, _⟩ := h
    rfl
  · obtain ⟨a, b, one, two, rfl, ha, hb, b1, b2, r1, hbo, hbb, q⟩ := h
    refine ⟨_, (pss_cons (ps_set (i := 2) nd rfl (Or.inl rfl) (pe_op op_rep (pe_lst (pa_cons (pe_int) pa_nil)) (pe_op op_sub (pe_op op_add (pe_callB (r := rLenQ K) call_len_seq (by rfl) T.b_len (by decide +kernel) (pa_cons (pv 0) pa_nil)) (pe_callB (r := rLenQ K) call_len_seq (by rfl) T.b_len (by decide +kernel) (pa_cons (pv 1) pa_nil))) (pe_int))))
      (pss_cons (ps_for PassesOwn.never rfl (pi_enumT (by rfl) T.b_enumerate (pa_cons (pv 0) pa_nil)) (pg_tup (by rfl) (pgs_cons (pg_name (i := 3) nd rfl (Or.inl rfl)) (pgs_cons (pg_name (i := 4) nd rfl (Or.inl rfl)) pgs_nil)))
      (pss_one (ps_for PassesOwn.never rfl (pi_enumT (by rfl) T.b_enumerate (pa_cons (pv 1) pa_nil)) (pg_tup (by rfl) (pgs_cons (pg_name (i := 5) nd rfl (Or.inl rfl)) (pgs_cons (pg_name (i := 6) nd rfl (Or.inl rfl)) pgs_nil)))
      (pss_one (ps_asg (pe_op op_add (pe_ix (r := rIxL K) ix_list (pv 2) (pe_op op_add (pv 3) (pv 5)) (fun _ _ => rfl)) (pe_op op_mulW (pv 4) (pv 6))) (pg_sub (pv 2) (pe_op op_add (pv 3) (pv 5)) set_list))))))
      (pss_one (ps_ret (pv 2))))), ?_⟩
    have z2 : -(2 ^ 63) ≤ ((one.map V.int).length : Int) + ((two.map V.int).length : Int) - 1 := by rw [List.length_map, List.length_map]; omega
    have z3 : ((one.map V.int).length : Int) + ((two.map V.int).length : Int) - 1 < 2 ^ 63 := by rw [List.length_map, List.length_map]; omega
    have z1 : ([V.int 0] : List V).length * (((one.map V.int).length : Int) + ((two.map V.int).length : Int) - 1).toNat ≤ sizeLine := szl (by rw [List.length_map, List.length_map]; show 1 * _ ≤ 60000; omega)
    walk_at "ev"
    intro l0 hl0
    generalize hG : upd _ l0 _ = H0
    obtain ⟨sm0, hq0⟩ := newO hG hl0
    clear hG
    have ha0 := same_t sm0 ha
    have hb0 := same_t sm0 hb
    walk_at "ev"
    intro l1 hl1
    generalize hG : upd _ l1 _ = H1
    obtain ⟨sm1, hq1⟩ := newO hG hl1
    clear hG
    have en : (((one.map V.int).length : Int) + ((two.map V.int).length : Int) - 1).toNat = one.length + two.length - 1 := by
      rw [List.length_map, List.length_map]
      omega
    have hq1' : H1 l1 = some (.lst ((pmN one two 0).map V.int)) := by
      rw [hq1, pmN, en, rep_flat, List.map_replicate]
    clear hq1
    have sm01 := sm0.trans sm1
    have ha1 := same_t sm01 ha
    have f1 : H l1 = none := sm0.free hl1
    walk_at "ev"
    refine for_enumT (K := K) (a := a) (xs := one.map V.int) (fun n σ H' => Hold (∃ (s3 s4 s5 s6 : Option V), σ = [some (.ref a), some (.ref b), some (.ref l1), s3, s4, s5, s6] ∧ Same H H' ∧ H' l1 = some (.lst ((pmN one two n).map V.int)))) (.mk ⟨none, none, none, none, rfl, sm01, hq1'⟩) ?_ ?_ ?_
    · intro i σ H5 hP
      obtain ⟨s3, s4, s5, s6, rfl, sm5, h15⟩ := hP.un
      exact same_t sm5 ha
    · intro n v T' σ H5 hv hP hT
      obtain ⟨s3, s4, s5, s6, rfl, sm5, h15⟩ := hP.un
      rw [List.getElem?_map] at hv
      obtain ⟨top, hx, ev⟩ := Option.map_eq_some_iff.mp hv
      subst ev
      have hnl : n < one.length := (List.getElem?_eq_some_iff.mp hx).1
      have exn : one.getD n 0 = top := by rw [List.getD_eq_getElem?_getD, hx]; rfl
      generalize hG : upd _ T' _ = H6
      obtain ⟨sm6, hq6⟩ := newO hG hT
      clear hG
      have hT6 : SqT K H6 T' [.int (n : Nat), .int top] := SqT.of hq6
      have h16 := sm6 _ _ h15
      have sm06 := sm5.trans sm6
      have hb6 := same_t sm06 hb
      walk_at "ev"
      refine for_enumT (K := K) (a := b) (xs := two.map V.int) (fun i σ H' => Hold (∃ (s5 s6 : Option V), σ = [some (.ref a), some (.ref b), some (.ref l1), some (.int (n : Nat)), some (.int top), s5, s6] ∧ Same H H' ∧ H' l1 = some (.lst ((addAt n top two (pmN one two n) i).map V.int)))) (.mk ⟨_, _, rfl, sm06, h16⟩) ?_ ?_ ?_
      · intro i σ H7 hP
        obtain ⟨s5, s6, rfl, sm7, h17⟩ := hP.un
        exact same_t sm7 hb
      · intro i v T2 σ H7 hv hP hT2
        obtain ⟨s5, s6, rfl, sm7, h17⟩ := hP.un
        rw [List.getElem?_map] at hv
        obtain ⟨x, hx2, ev⟩ := Option.map_eq_some_iff.mp hv
        subst ev
        have hil : i < two.length := (List.getElem?_eq_some_iff.mp hx2).1
        have exi : two.getD i 0 = x := by rw [List.getD_eq_getElem?_getD, hx2]; rfl
        have hxb := hbb x (List.mem_of_getElem? hx2)
        generalize hG : upd _ T2 _ = H8
        obtain ⟨sm8, hq8⟩ := newO hG hT2
        clear hG
        have hT8 : SqT K H8 T2 [.int (i : Nat), .int x] := SqT.of hq8
        have h18 := sm8 _ _ h17
        have hL8 := SqL.of (K := K) h18
        have hsl := addAt_len (start := n) (top := top) (bs := two) (r := pmN one two n) (i := i)
        rw [pmN_len] at hsl
        have at2 : atI ((addAt n top two (pmN one two n) i).map V.int) ((n : Nat) + (i : Nat)) = some (.int ((addAt n top two (pmN one two n) i).getD (n + i) 0)) := at_map (by omega) (by omega)
        have hix : ixN ((addAt n top two (pmN one two n) i).map V.int).length ((n : Nat) + (i : Nat)) = some (n + i) := ixn_of (by rw [List.length_map]; omega) (by omega)
        have cm : CMulW top x := wide_mul (hbo top (List.mem_of_getElem? hx)) hxb (by decide) (by decide) (by decide)
        walk_at "ev"
        refine .mk ⟨_, _, rfl, same_mut (sm7.trans sm8) f1, ?_⟩
        rw [upd_same, addAt, List.map_set, exi]
      · intro σ H7 hP
        obtain ⟨s5, s6, rfl, sm7, h17⟩ := hP.un
        rw [List.length_map] at h17
        refine .mk ⟨_, _, _, _, rfl, sm7, ?_⟩
        rw [h17, pmN, exn]
    · intro σ H5 hP
      obtain ⟨s3, s4, s5, s6, rfl, sm5, h15⟩ := hP.un
      rw [List.length_map] at h15
      walk_at "ev"
      exact q l1 H5 f1 sm5 h15
end
theorem set_same {l : List Int} {k : Nat} (h : k < l.length) : l.set k (l.getD k 0) = l := by
  rw [List.getD_eq_getElem?_getD, List.getElem?_eq_getElem h]
  exact List.set_getElem_self h
theorem addAt_zero {start : Nat} {bs r : List Int} : ∀ {i : Nat}, start + i ≤ r.length → addAt start 0 bs r i = r
  | 0, _ => rfl
  | i + 1, h => by
    rw [addAt, addAt_zero (by omega), Int.zero_mul, Int.add_zero]
    exact set_same (by omega)
abbrev s_multiplied : Stmt := top 12
abbrev N_multiplied : List Str := ["one", "other", "told", "at", "part", "place", "worth"]
abbrev P_multiplied : List Str := ["one", "other"]
theorem sc_multiplied : FnScope N_multiplied P_multiplied (defScope s_multiplied) := ⟨rfl, rfl, rfl, by decide +kernel, rfl, by decide +kernel, by decide +kernel⟩
def spMulT (K : PySem.W.Frag) : Sp := fun vs H Q _ => ∃ (a b : Addr) (one two : List Int), vs = [.ref a, .ref b] ∧ SqT K H a (one.map V.int) ∧ SqT K H b (two.map V.int) ∧ 1 ≤ two.length ∧ two.length ≤ 1000 ∧ one.length ≤ 1000 ∧ (∀ x ∈ one, x.natAbs < 2 ^ 400) ∧ (∀ x ∈ two, x.natAbs < 2 ^ 400) ∧
  ∀ q H', H q = none → Same H H' → H' q = some (.lst ((pmul one two).map V.int)) → Q (.ref q) H'
section
variable {P : Program} {w : World} {K : PySem.W.Frag} {mg : Str → Option Value} {base : Heap}
theorem ok_mulT {f : Addr} {fd : FuncData} {k : Nat} (F : Fun K "multiplied" "multiplied" s_multiplied f fd) (T : Blt mg) : FnOk P w K mg base CX0 (k + 1) f fd P_multiplied (spMulT K) := by
  have nd := sc_multiplied.nd
  refine F.ok sc_multiplied (fun vs H Q E h => ?_) (fun cdv A outer s H vs Q E hr h => ?_)
  · obtain ⟨a, b, one, two, rfl, _⟩ := h
    rfl
  · obtain ⟨a, b, one, two, rfl, ha, hb, b1, b2, r1, hbo, hbb, q⟩ := h
    refine ⟨_, (pss_cons (ps_set (i := 2) nd rfl (Or.inl rfl) (pe_op op_rep (pe_lst (pa_cons (pe_int) pa_nil)) (pe_op op_sub (pe_op op_add (pe_callB (r := rLenQ K) call_len_seq (by rfl) T.b_len (by decide +kernel) (pa_cons (pv 0) pa_nil)) (pe_callB (r := rLenQ K) call_len_seq (by rfl) T.b_len (by decide +kernel) (pa_cons (pv 1) pa_nil))) (pe_int))))
      (pss_cons (ps_for PassesOwn.never rfl (pi_enumT (by rfl) T.b_enumerate (pa_cons (pv 0) pa_nil)) (pg_tup (by rfl) (pgs_cons (pg_name (i := 3) nd rfl (Or.inl rfl)) (pgs_cons (pg_name (i := 4) nd rfl (Or.inl rfl)) pgs_nil)))
      (pss_one (ps_if (pt_cmpR op_ne (pv 4) (pe_int) (nomark _)) (pss_one (ps_for PassesOwn.never rfl (pi_enumT (by rfl) T.b_enumerate (pa_cons (pv 1) pa_nil)) (pg_tup (by rfl) (pgs_cons (pg_name (i := 5) nd rfl (Or.inl rfl)) (pgs_cons (pg_name (i := 6) nd rfl (Or.inl rfl)) pgs_nil)))
      (pss_one (ps_augS (pv 2) (pe_op op_add (pv 3) (pv 5)) (get_list (X := _)) (pe_op op_mulW (pv 4) (pv 6)) ip_add set_list)))) pss_nil)))
      (pss_one (ps_ret (pv 2))))), ?_⟩
    have z2 : -(2 ^ 63) ≤ ((one.map V.int).length : Int) + ((two.map V.int).length : Int) - 1 := by rw [List.length_map, List.length_map]; omega
    have z3 : ((one.map V.int).length : Int) + ((two.map V.int).length : Int) - 1 < 2 ^ 63 := by rw [List.length_map, List.length_map]; omega
    have z1 : ([V.int 0] : List V).length * (((one.map V.int).length : Int) + ((two.map V.int).length : Int) - 1).toNat ≤ sizeLine := szl (by rw [List.length_map, List.length_map]; show 1 * _ ≤ 60000; omega)
    walk_at "ev"
    intro l0 hl0
    generalize hG : upd _ l0 _ = H0
    obtain ⟨sm0, hq0⟩ := newO hG hl0
    clear hG
    have ha0 := same_t sm0 ha
    have hb0 := same_t sm0 hb
    walk_at "ev"
    intro l1 hl1
    generalize hG : upd _ l1 _ = H1
    obtain ⟨sm1, hq1⟩ := newO hG hl1
    clear hG
    have en : (((one.map V.int).length : Int) + ((two.map V.int).length : Int) - 1).toNat = one.length + two.length - 1 := by
      rw [List.length_map, List.length_map]
      omega
    have hq1' : H1 l1 = some (.lst ((pmN one two 0).map V.int)) := by
      rw [hq1, pmN, en, rep_flat, List.map_replicate]
    clear hq1
    have sm01 := sm0.trans sm1
    have ha1 := same_t sm01 ha
    have f1 : H l1 = none := sm0.free hl1
    walk_at "ev"
    refine for_enumT (K := K) (a := a) (xs := one.map V.int) (fun n σ H' => Hold (∃ (s3 s4 s5 s6 : Option V), σ = [some (.ref a), some (.ref b), some (.ref l1), s3, s4, s5, s6] ∧ Same H H' ∧ H' l1 = some (.lst ((pmN one two n).map V.int)))) (.mk ⟨none, none, none, none, rfl, sm01, hq1'⟩) ?_ ?_ ?_
    · intro i σ H5 hP
      obtain ⟨s3, s4, s5, s6, rfl, sm5, h15⟩ := hP.un
      exact same_t sm5 ha
    · intro n v T' σ H5 hv hP hT
      obtain ⟨s3, s4, s5, s6, rfl, sm5, h15⟩ := hP.un
      rw [List.getElem?_map] at hv
      obtain ⟨top, hx, ev⟩ := Option.map_eq_some_iff.mp hv
      subst ev
      have hnl : n < one.length := (List.getElem?_eq_some_iff.mp hx).1
      have exn : one.getD n 0 = top := by rw [List.getD_eq_getElem?_getD, hx]; rfl
      generalize hG : upd _ T' _ = H6
      obtain ⟨sm6, hq6⟩ := newO hG hT
      clear hG
      have hT6 : SqT K H6 T' [.int (n : Nat), .int top] := SqT.of hq6
      have h16 := sm6 _ _ h15
      have sm06 := sm5.trans sm6
      have hb6 := same_t sm06 hb
      walk_at "ev"
      by_cases c0 : top = 0
      · subst c0
        refine iteFe rfl ?_
        walk_at "ev"
        refine .mk ⟨_, _, _, _, rfl, sm06, ?_⟩
        rw [h16, pmN, exn, addAt_zero (by rw [pmN_len]; omega)]
      refine iteTe (by simp [c0]) ?_
      walk_at "ev"
      refine for_enumT (K := K) (a := b) (xs := two.map V.int) (fun i σ H' => Hold (∃ (s5 s6 : Option V), σ = [some (.ref a), some (.ref b), some (.ref l1), some (.int (n : Nat)), some (.int top), s5, s6] ∧ Same H H' ∧ H' l1 = some (.lst ((addAt n top two (pmN one two n) i).map V.int)))) (.mk ⟨_, _, rfl, sm06, h16⟩) ?_ ?_ ?_
      · intro i σ H7 hP
        obtain ⟨s5, s6, rfl, sm7, h17⟩ := hP.un
        exact same_t sm7 hb
      · intro i v T2 σ H7 hv hP hT2
        obtain ⟨s5, s6, rfl, sm7, h17⟩ := hP.un
        rw [List.getElem?_map] at hv
        obtain ⟨x, hx2, ev⟩ := Option.map_eq_some_iff.mp hv
        subst ev
        have hil : i < two.length := (List.getElem?_eq_some_iff.mp hx2).1
        have exi : two.getD i 0 = x := by rw [List.getD_eq_getElem?_getD, hx2]; rfl
        have hxb := hbb x (List.mem_of_getElem? hx2)
        generalize hG : upd _ T2 _ = H8
        obtain ⟨sm8, hq8⟩ := newO hG hT2
        clear hG
        have hT8 : SqT K H8 T2 [.int (i : Nat), .int x] := SqT.of hq8
        have h18 := sm8 _ _ h17
        have hL8 := SqL.of (K := K) h18
        have hsl := addAt_len (start := n) (top := top) (bs := two) (r := pmN one two n) (i := i)
        rw [pmN_len] at hsl
        have at2 : atI ((addAt n top two (pmN one two n) i).map V.int) ((n : Nat) + (i : Nat)) = some (.int ((addAt n top two (pmN one two n) i).getD (n + i) 0)) := at_map (by omega) (by omega)
        have hix : ixN ((addAt n top two (pmN one two n) i).map V.int).length ((n : Nat) + (i : Nat)) = some (n + i) := ixn_of (by rw [List.length_map]; omega) (by omega)
        have cm : CMulW top x := wide_mul (hbo top (List.mem_of_getElem? hx)) hxb (by decide) (by decide) (by decide)
        walk_at "ev"
        refine .mk ⟨_, _, rfl, same_mut (sm7.trans sm8) f1, ?_⟩
        rw [upd_same, addAt, List.map_set, exi]
      · intro σ H7 hP
        obtain ⟨s5, s6, rfl, sm7, h17⟩ := hP.un
        rw [List.length_map] at h17
        refine .mk ⟨_, _, _, _, rfl, sm7, ?_⟩
        rw [h17, pmN, exn]
    · intro σ H5 hP
      obtain ⟨s3, s4, s5, s6, rfl, sm5, h15⟩ := hP.un
      rw [List.length_map] at h15
      walk_at "ev"
      exact q l1 H5 f1 sm5 h15
end
/-! ### the rest, as the law walks it -/
def lrN (bs row : List Int) : Nat → List Int
  | 0 => row
  | n + 1 => subAt (row.length - 1 - n - (bs.length - 1)) ((lrN bs row n).getD (row.length - 1 - n) 0) bs (lrN bs row n) bs.length
theorem lrN_len {bs row : List Int} : ∀ n : Nat, (lrN bs row n).length = row.length
  | 0 => rfl
  | n + 1 => by rw [lrN, subAt_len, lrN_len n]
def lrR (bs row : List Int) : List Int := ((lrN bs row (row.length - (bs.length - 1))) ++ List.replicate (bs.length - 1) 0).take (bs.length - 1)
theorem getD_app {x y : List Int} {k : Nat} (h : k < x.length) : (x ++ y).getD k 0 = x.getD k 0 := by
  rw [List.getD_eq_getElem?_getD, List.getD_eq_getElem?_getD, List.getElem?_append_left h]
theorem subAt_app {start : Nat} {top : Int} {bs x y : List Int} : ∀ {i : Nat}, start + i ≤ x.length → subAt start top bs (x ++ y) i = subAt start top bs x i ++ y
  | 0, _ => rfl
  | i + 1, h => by
    have ih := subAt_app (start := start) (top := top) (bs := bs) (x := x) (y := y) (i := i) (by omega)
    have hl := subAt_len (start := start) (top := top) (bs := bs) (r := x) (i := i)
    rw [subAt, subAt, ih, getD_app (by omega), List.set_append_left _ _ (by omega)]
theorem lr_dv {bs row : List Int} (h1 : 1 ≤ bs.length) (h2 : bs.getD (bs.length - 1) 0 = 1) : ∀ n : Nat, n ≤ row.length - (bs.length - 1) → lrN bs row n = (dvN bs row n).1 ++ List.replicate n 0
  | 0, _ => by
    rw [lrN, dvN]
    exact (List.append_nil row).symm
  | n + 1, hn => by
    have ih := lr_dv (row := row) h1 h2 n (by omega)
    obtain ⟨e1, _⟩ := dvN_len (bs := bs) (row := row) (n := n)
    rw [lrN, ih, dvN, dvS, show bs.length = bs.length - 1 + 1 by omega, subAt]
    generalize hr : (dvN bs row n).1 = r at *
    have hrl : r.length = row.length - n := e1
    have hr0 : r ≠ [] := fun z => by rw [z, List.length_nil] at hrl; omega
    obtain ⟨top, htop⟩ : ∃ top, r.getD (r.length - 1) 0 = top := ⟨_, rfl⟩
    have es : r = r.dropLast ++ [top] := by
      have h := List.dropLast_concat_getLast hr0
      rw [← htop, List.getD_eq_getElem?_getD, List.getElem?_eq_getElem (by omega)]
      show r = r.dropLast ++ [r[r.length - 1]]
      rw [← List.getLast_eq_getElem hr0]
      exact h.symm
    have hpl : row.length - 1 - n = r.length - 1 := by omega
    have hdl : r.dropLast.length = r.length - 1 := List.length_dropLast
    rw [show bs.length - 1 + 1 - 1 = bs.length - 1 by omega, hpl, getD_app (by omega), htop]
    show (subAt (r.length - 1 - (bs.length - 1)) top bs (r ++ List.replicate n 0) (bs.length - 1)).set (r.length - 1 - (bs.length - 1) + (bs.length - 1)) ((subAt (r.length - 1 - (bs.length - 1)) top bs (r ++ List.replicate n 0) (bs.length - 1)).getD (r.length - 1 - (bs.length - 1) + (bs.length - 1)) 0 - top * bs.getD (bs.length - 1) 0) = subAt (r.length - 1 - (bs.length - 1)) top bs r.dropLast (bs.length - 1) ++ List.replicate (n + 1) 0
    have e2 : r ++ List.replicate n 0 = r.dropLast ++ ([top] ++ List.replicate n 0) := by
      rw [← List.append_assoc, ← es]
    rw [e2, subAt_app (by omega), show r.length - 1 - (bs.length - 1) + (bs.length - 1) = r.length - 1 by omega, h2, Int.mul_one]
    have hsl := subAt_len (start := r.length - 1 - (bs.length - 1)) (top := top) (bs := bs) (r := r.dropLast) (i := bs.length - 1)
    generalize hZ : subAt (r.length - 1 - (bs.length - 1)) top bs r.dropLast (bs.length - 1) = Z at *
    rw [List.set_append_right _ _ (by omega), show r.length - 1 - Z.length = 0 by omega, List.getD_eq_getElem?_getD, List.getElem?_append_right (by omega), show r.length - 1 - Z.length = 0 by omega]
    show Z ++ (top - top) :: List.replicate n 0 = Z ++ List.replicate (n + 1) 0
    rw [Int.sub_self]
    rfl
theorem lrR_eq {bs row : List Int} (h1 : 1 ≤ bs.length) (h2 : bs.getD (bs.length - 1) 0 = 1) : lrR bs row = dvR bs row := by
  unfold lrR dvR
  rw [lr_dv h1 h2 _ (Nat.le_refl _)]
  obtain ⟨e1, _⟩ := dvN_len (bs := bs) (row := row) (n := row.length - (bs.length - 1))
  generalize (dvN bs row (row.length - (bs.length - 1))).1 = r at *
  rw [List.append_assoc, List.replicate_append_replicate, List.take_append, List.take_of_length_le (by omega), List.take_replicate]
  congr 2
  omega
/-! ### how great they get -/
def Bd (A : Nat) (l : List Int) : Prop := ∀ x ∈ l, x.natAbs ≤ A
theorem Bd.up {A B : Nat} {l : List Int} (h : Bd A l) (e : A ≤ B) : Bd B l := fun x hx => Nat.le_trans (h x hx) e
theorem Bd.getD {A : Nat} {l : List Int} (h : Bd A l) (k : Nat) : (l.getD k 0).natAbs ≤ A := by
  rw [List.getD_eq_getElem?_getD]
  cases e : l[k]? with
  | none => exact Nat.zero_le _
  | some x => exact h x (List.mem_of_getElem? e)
theorem Bd.set {A : Nat} {l : List Int} {k : Nat} {v : Int} (h : Bd A l) (hv : v.natAbs ≤ A) : Bd A (l.set k v) := fun x hx => by
  rcases List.mem_or_eq_of_mem_set hx with z | z
  · exact h x z
  · rw [z]
    exact hv
/-- places from where on all is yet as it was -/
theorem subAt_bd {A : Nat} {start : Nat} {top : Int} {bs r : List Int} (hr : Bd A r) (hb : Bd 1 bs) (ht : top.natAbs ≤ A) : ∀ i : Nat, Bd (2 * A) (subAt start top bs r i) ∧ ∀ k, start + i ≤ k → (subAt start top bs r i).getD k 0 = r.getD k 0
  | 0 => ⟨hr.up (by omega), fun k _ => rfl⟩
  | i + 1 => by
    obtain ⟨a, b⟩ := subAt_bd (start := start) hr hb ht i
    refine ⟨?_, fun k hk => ?_⟩
    · rw [subAt]
      refine a.set ?_
      rw [b (start + i) (Nat.le_refl _)]
      have h1 := hr.getD (start + i)
      have h2 := hb.getD i
      have h3 : (top * bs.getD i 0).natAbs ≤ A := by
        rw [Int.natAbs_mul]
        exact Nat.le_trans (Nat.mul_le_mul ht h2) (by omega)
      omega
    · rw [subAt, ← b k (by omega), List.getD_eq_getElem?_getD, List.getElem?_set_ne (by omega), ← List.getD_eq_getElem?_getD]
theorem dvN_bd {A : Nat} {bs row : List Int} (hr : Bd A row) (hb : Bd 1 bs) : ∀ n : Nat, Bd (A * 2 ^ n) (dvN bs row n).1
  | 0 => by rw [Nat.pow_zero, Nat.mul_one]; exact hr
  | n + 1 => by
    have ih := dvN_bd hr hb n
    rw [dvN, dvS]
    have e : A * 2 ^ (n + 1) = 2 * (A * 2 ^ n) := by rw [Nat.pow_succ, Nat.mul_comm 2, Nat.mul_assoc]
    rw [e]
    exact (subAt_bd (fun x hx => ih x ((List.dropLast_sublist _).subset hx)) hb (ih.getD _) _).1
theorem dvR_bd {A : Nat} {bs row : List Int} (hr : Bd A row) (hb : Bd 1 bs) : Bd (A * 2 ^ row.length) (dvR bs row) := fun x hx => by
  unfold dvR at hx
  rcases List.mem_append.mp hx with z | z
  · exact Nat.le_trans (dvN_bd hr hb _ x z) (Nat.mul_le_mul_left A (Nat.pow_le_pow_right (by decide) (by omega)))
  · rw [(List.mem_replicate.mp z).2]
    exact Nat.zero_le _
theorem dvR_len {bs row : List Int} : (dvR bs row).length = bs.length - 1 := by
  unfold dvR
  obtain ⟨e1, _⟩ := dvN_len (bs := bs) (row := row) (n := row.length - (bs.length - 1))
  rw [List.length_append, List.length_replicate]
  omega
theorem addAt_bd {A B C : Nat} {start : Nat} {top : Int} {bs r : List Int} (hr : Bd C r) (hb : Bd B bs) (ht : top.natAbs ≤ A) : ∀ i : Nat, Bd (C + A * B) (addAt start top bs r i) ∧ ∀ k, start + i ≤ k → (addAt start top bs r i).getD k 0 = r.getD k 0
  | 0 => ⟨hr.up (by omega), fun k _ => rfl⟩
  | i + 1 => by
    obtain ⟨a, b⟩ := addAt_bd (start := start) hr hb ht i
    refine ⟨?_, fun k hk => ?_⟩
    · rw [addAt]
      refine a.set ?_
      rw [b (start + i) (Nat.le_refl _)]
      have h1 := hr.getD (start + i)
      have h2 := hb.getD i
      have h3 : (top * bs.getD i 0).natAbs ≤ A * B := by
        rw [Int.natAbs_mul]
        exact Nat.mul_le_mul ht h2
      omega
    · rw [addAt, ← b k (by omega), List.getD_eq_getElem?_getD, List.getElem?_set_ne (by omega), ← List.getD_eq_getElem?_getD]
theorem pmN_bd {A B : Nat} {one two : List Int} (ha : Bd A one) (hb : Bd B two) : ∀ n : Nat, Bd (n * (A * B)) (pmN one two n)
  | 0 => fun x hx => by
    rw [pmN] at hx
    rw [(List.mem_replicate.mp hx).2]
    exact Nat.zero_le _
  | n + 1 => by
    rw [pmN, Nat.succ_mul]
    exact (addAt_bd (pmN_bd ha hb n) hb (ha.getD n) _).1
theorem pmul_bd {A B : Nat} {one two : List Int} (ha : Bd A one) (hb : Bd B two) : Bd (one.length * (A * B)) (pmul one two) := pmN_bd ha hb _
theorem pmul_len {one two : List Int} : (pmul one two).length = one.length + two.length - 1 := pmN_len
/-! ### either way about -/
def isum (f : Nat → Int) : Nat → Int
  | 0 => 0
  | n + 1 => isum f n + f n
theorem isum_congr {f g : Nat → Int} : ∀ {n : Nat}, (∀ i < n, f i = g i) → isum f n = isum g n
  | 0, _ => rfl
  | n + 1, h => by rw [isum, isum, isum_congr fun i hi => h i (by omega), h n (by omega)]
theorem isum_add {f g : Nat → Int} : ∀ {n : Nat}, isum (fun i => f i + g i) n = isum f n + isum g n
  | 0 => rfl
  | n + 1 => by
    rw [isum, isum, isum, isum_add]
    omega
theorem isum_zero : ∀ {n : Nat}, isum (fun _ => 0) n = 0
  | 0 => rfl
  | n + 1 => by rw [isum, isum_zero]; rfl
theorem isum_comm {f : Nat → Nat → Int} {m : Nat} : ∀ {n : Nat}, isum (fun i => isum (fun j => f i j) m) n = isum (fun j => isum (fun i => f i j) n) m
  | 0 => by rw [isum]; exact (isum_zero (n := m)).symm
  | n + 1 => by
    rw [isum, isum_comm (n := n), ← isum_add]
    exact isum_congr fun j _ => rfl
theorem addAt_get {start : Nat} {top : Int} {bs r : List Int} : ∀ {i : Nat}, start + i ≤ r.length → ∀ k, (addAt start top bs r i).getD k 0 = r.getD k 0 + isum (fun j => if start + j = k then top * bs.getD j 0 else 0) i
  | 0, _, k => by
    rw [addAt, isum]
    omega
  | i + 1, h, k => by
    have ih := addAt_get (top := top) (bs := bs) (i := i) (r := r) (start := start) (by omega)
    have hl := addAt_len (start := start) (top := top) (bs := bs) (r := r) (i := i)
    rw [addAt, isum]
    by_cases c : start + i = k
    · subst c
      rw [if_pos rfl, List.getD_eq_getElem?_getD, List.getElem?_set_self (by omega)]
      show _ + _ = _
      rw [ih]
      omega
    · rw [if_neg c, List.getD_eq_getElem?_getD, List.getElem?_set_ne c, ← List.getD_eq_getElem?_getD, ih]
      omega
theorem pmN_get {one two : List Int} (h2 : 1 ≤ two.length) : ∀ {n : Nat}, n ≤ one.length → ∀ k, (pmN one two n).getD k 0 = isum (fun i => isum (fun j => if i + j = k then one.getD i 0 * two.getD j 0 else 0) two.length) n
  | 0, _, k => by
    rw [pmN, isum, List.getD_eq_getElem?_getD]
    by_cases c : k < one.length + two.length - 1
    · rw [List.getElem?_replicate, if_pos c]
      rfl
    · rw [List.getElem?_replicate, if_neg c]
      rfl
  | n + 1, h, k => by
    rw [pmN, addAt_get (by rw [pmN_len]; omega), pmN_get h2 (by omega), isum]
theorem pmul_comm {one two : List Int} (h1 : 1 ≤ one.length) (h2 : 1 ≤ two.length) : pmul one two = pmul two one := by
  have e : ∀ k, (pmul one two).getD k 0 = (pmul two one).getD k 0 := fun k => by
    unfold pmul
    rw [pmN_get h2 (Nat.le_refl _), pmN_get h1 (Nat.le_refl _), isum_comm]
    refine isum_congr fun j _ => isum_congr fun i _ => ?_
    rw [Nat.add_comm i j, Int.mul_comm]
  have l1 : (pmul one two).length = (pmul two one).length := by rw [pmul_len, pmul_len, Nat.add_comm]
  refine List.ext_getElem l1 fun k a b => ?_
  have := e k
  rw [List.getD_eq_getElem?_getD, List.getD_eq_getElem?_getD, List.getElem?_eq_getElem a, List.getElem?_eq_getElem b] at this
  exact this
abbrev s__law_rest_by : Stmt := top 22
abbrev N__law_rest_by : List Str := ["_law_ring", "_law_numbers", "_law_rest", "_law_many", "_law_place", "_law_top", "_law_spot", "_law_number", "_law_at"]
abbrev P__law_rest_by : List Str := ["_law_ring", "_law_numbers"]
theorem sc__law_rest_by : FnScope N__law_rest_by P__law_rest_by (defScope s__law_rest_by) := ⟨rfl, rfl, rfl, by decide +kernel, rfl, by decide +kernel, by decide +kernel⟩
def spRest (K : PySem.W.Frag) : Sp := fun vs H Q _ => ∃ (a b : Addr) (bs row : List Int), vs = [.ref b, .ref a] ∧ SqL K H b (bs.map V.int) ∧ SqL K H a (row.map V.int) ∧ 2 ≤ bs.length ∧ bs.length ≤ 1000 ∧ row.length ≤ 1000 ∧ (∀ x ∈ bs, -1000000 ≤ x ∧ x ≤ 1000000) ∧ bs.getD (bs.length - 1) 0 = 1 ∧
  ∀ q H', H q = none → Same H H' → H' q = some (.tup ((dvR bs row).map V.int)) → Q (.ref q) H'
section
variable {P : Program} {w : World} {K : PySem.W.Frag} {mg : Str → Option Value} {base : Heap}
theorem ok_rest {f : Addr} {fd : FuncData} {k : Nat} (F : Fun K "_law_rest_by" "_law_rest_by" s__law_rest_by f fd) (T : Blt mg) : FnOk P w K mg base CX0 (k + 1) f fd P__law_rest_by (spRest K) := by
  have nd := sc__law_rest_by.nd
  refine F.ok sc__law_rest_by (fun vs H Q E h => ?_) (fun cdv A outer s H vs Q E hr h => ?_)
  · obtain ⟨a, b, bs, row, rfl, _⟩ := h
    rfl
  · obtain ⟨a, b, bs, row, rfl, hb, ha, b1, b2, r1, hbb, blast, q⟩ := h
    refine ⟨_, (pss_cons (ps_par (i := 2) (j := 3) (by rfl) nd rfl rfl (by decide) rfl rfl (pa_cons (pe_callTy call_list_of (by rfl) T.b_list (by decide +kernel) (pa_cons (pv 1) pa_nil)) (pa_cons (pe_op op_sub (pe_callB (r := rLenQ K) call_len_seq (by rfl) T.b_len (by decide +kernel) (pa_cons (pv 0) pa_nil)) (pe_int)) pa_nil)) (by rfl))
      (pss_cons (ps_for PassesOwn.never rfl (pi_range3 (by rfl) T.b_range (pa_cons (pe_op op_sub (pe_callB (r := rLenQ K) call_len_seq (by rfl) T.b_len (by decide +kernel) (pa_cons (pv 2) pa_nil)) (pe_int)) (pa_cons (pe_op op_sub (pv 3) (pe_int)) (pa_cons (pe_un un_neg (pe_int)) pa_nil)))) (pg_name (i := 4) nd rfl (Or.inl rfl))
      (pss_cons (ps_set (i := 5) nd rfl (Or.inl rfl) (pe_ix (r := rIxL K) ix_list (pv 2) (pv 4) (fun _ _ => rfl)))
      (pss_one (ps_for PassesOwn.never rfl (pi_enum (by rfl) T.b_enumerate (pa_cons (pv 0) pa_nil)) (pg_tup (by rfl) (pgs_cons (pg_name (i := 6) nd rfl (Or.inl rfl)) (pgs_cons (pg_name (i := 7) nd rfl (Or.inl rfl)) pgs_nil)))
      (pss_cons (ps_set (i := 8) nd rfl (Or.inl rfl) (pe_op op_add (pe_op op_sub (pv 4) (pv 3)) (pv 6)))
      (pss_one (ps_asg (pe_op op_sub (pe_ix (r := rIxL K) ix_list (pv 2) (pv 8) (fun _ _ => rfl)) (pe_op op_mul (pv 5) (pv 7))) (pg_sub (pv 2) (pv 8) set_list))))))))
      (pss_one (ps_ret (pe_callTy call_tuple_of (by rfl) T.b_tuple (by decide +kernel) (pa_cons (pe_slice (r := rSlL K) sl_list (pe_op op_cat (pv 2) (pe_op op_rep (pe_lst (pa_cons (pe_int) pa_nil)) (pv 3))) po_none (po_some (pv 3))) pa_nil)))))), ?_⟩
    walk_at "ev"
    w_cond _1
    have hb1 := sm1.seq hb
    have hL1 := SqL.of (K := K) hq1
    have rg : RgC (((row.map V.int).length : Int) - 1) (((bs.map V.int).length : Int) - 1 - 1) (-1) ((((row.map V.int).length : Int) - 1) - (((bs.map V.int).length : Int) - 1 - 1)).toNat := RgC.neg (by rw [List.length_map]; omega) (by rw [List.length_map]; omega) (by rw [List.length_map]; omega) (by rw [List.length_map]; omega)
    walk_at "ev"
    have en : ((((row.map V.int).length : Int) - 1) - (((bs.map V.int).length : Int) - 1 - 1)).toNat = row.length - (bs.length - 1) := by
      rw [List.length_map, List.length_map]
      omega
    refine for_rangeC (lo := _) (c := _) (n := _) (fun n σ H' => Hold (∃ (s4 s5 s6 s7 s8 : Option V), σ = [some (.ref b), some (.ref a), some (.ref l1), some (.int (((bs.map V.int).length : Int) - 1)), s4, s5, s6, s7, s8] ∧ Same H H' ∧ H' l1 = some (.lst ((lrN bs row n).map V.int)))) (.mk ⟨none, none, none, none, none, rfl, sm1, hq1⟩) ?_ ?_
    · intro n σ H3 hn hP
      obtain ⟨s4, s5, s6, s7, s8, rfl, sm3, h1⟩ := hP.un
      rw [en] at hn
      have e1 := lrN_len (bs := bs) (row := row) n
      have hL3 := SqL.of (K := K) h1
      have hb3 := sm3.seq hb
      have epl : (((row.map V.int).length : Int) - 1) + (n : Nat) * (-1) = ((row.length - 1 - n : Nat) : Int) := by
        rw [List.length_map]
        omega
      rw [epl]
      have at1 : atI ((lrN bs row n).map V.int) ((row.length - 1 - n : Nat) : Int) = some (.int ((lrN bs row n).getD (row.length - 1 - n) 0)) := at_map (by omega) rfl
      obtain ⟨top, htop⟩ : ∃ top, (lrN bs row n).getD (row.length - 1 - n) 0 = top := ⟨_, rfl⟩
      rw [htop] at at1
      walk_at "ev"
      refine for_enumL (K := K) (a := b) (xs := bs.map V.int) (fun i σ H' => Hold (∃ (s6 s7 s8 : Option V), σ = [some (.ref b), some (.ref a), some (.ref l1), some (.int (((bs.map V.int).length : Int) - 1)), some (.int ((row.length - 1 - n : Nat) : Int)), some (.int top), s6, s7, s8] ∧ Same H H' ∧ H' l1 = some (.lst ((subAt (row.length - 1 - n - (bs.length - 1)) top bs (lrN bs row n) i).map V.int)))) (.mk ⟨_, _, _, rfl, sm3, h1⟩) ?_ ?_ ?_
      · intro i σ H5 hP
        obtain ⟨s6, s7, s8, rfl, sm5, h15⟩ := hP.un
        exact sm5.seq hb
      · intro i v T' σ H5 hv hP hT
        obtain ⟨s6, s7, s8, rfl, sm5, h15⟩ := hP.un
        rw [List.getElem?_map] at hv
        obtain ⟨x, hx, ev⟩ := Option.map_eq_some_iff.mp hv
        subst ev
        have hil : i < bs.length := (List.getElem?_eq_some_iff.mp hx).1
        have exi : bs.getD i 0 = x := by rw [List.getD_eq_getElem?_getD, hx]; rfl
        have hxb := hbb x (List.mem_of_getElem? hx)
        generalize hG : upd _ T' _ = H6
        obtain ⟨sm6, hq6⟩ := newO hG hT
        clear hG
        have hT6 : SqT K H6 T' [.int (i : Nat), .int x] := SqT.of hq6
        have h16 := sm6 _ _ h15
        have hL6 := SqL.of (K := K) h16
        have hsl := subAt_len (start := row.length - 1 - n - (bs.length - 1)) (top := top) (bs := bs) (r := lrN bs row n) (i := i)
        have eix : ((row.length - 1 - n : Nat) : Int) - (((bs.map V.int).length : Int) - 1) + (i : Nat) = ((row.length - 1 - n - (bs.length - 1) + i : Nat) : Int) := by
          rw [List.length_map]
          omega
        have at2 : atI ((subAt (row.length - 1 - n - (bs.length - 1)) top bs (lrN bs row n) i).map V.int) (((row.length - 1 - n : Nat) : Int) - (((bs.map V.int).length : Int) - 1) + (i : Nat)) = some (.int ((subAt (row.length - 1 - n - (bs.length - 1)) top bs (lrN bs row n) i).getD (row.length - 1 - n - (bs.length - 1) + i) 0)) := at_map (by omega) eix
        have hix : ixN ((subAt (row.length - 1 - n - (bs.length - 1)) top bs (lrN bs row n) i).map V.int).length (((row.length - 1 - n : Nat) : Int) - (((bs.map V.int).length : Int) - 1) + (i : Nat)) = some (row.length - 1 - n - (bs.length - 1) + i) := ixn_of (by rw [List.length_map]; omega) eix
        have cm : CMul top x := .inr ⟨by omega, by omega⟩
        walk_at "ev"
        refine .mk ⟨_, _, _, rfl, same_mut (sm5.trans sm6) hl1, ?_⟩
        rw [upd_same, subAt, List.map_set, exi]
      · intro σ H5 hP
        obtain ⟨s6, s7, s8, rfl, sm5, h15⟩ := hP.un
        rw [List.length_map] at h15
        refine .mk ⟨_, _, _, _, _, rfl, sm5, ?_⟩
        rw [h15, lrN, htop]
    · intro σ H3 hP
      obtain ⟨s4, s5, s6, s7, s8, rfl, sm3, h1⟩ := hP.un
      rw [en] at h1
      have z1 : ([V.int 0] : List V).length * (((bs.map V.int).length : Int) - 1).toNat ≤ sizeLine := szl (by rw [List.length_map]; show 1 * _ ≤ 60000; omega)
      have z2 : ((bs.map V.int).length : Int) - 1 < 2 ^ 63 := by rw [List.length_map]; omega
      walk_at "ev"
      w_cond _4
      walk_at "ev"
      w_cond _5
      have h15 := (sm4.trans sm5) _ _ h1
      have e1 := lrN_len (bs := bs) (row := row) (row.length - (bs.length - 1))
      have z3 : ((lrN bs row (row.length - (bs.length - 1))).map V.int).length + (List.replicate (((bs.map V.int).length : Int) - 1).toNat [V.int 0]).flatten.length ≤ sizeLine := szl (by rw [rep_flat, List.length_replicate, List.length_map, List.length_map]; omega)
      walk_at "ev"
      w_cond _6
      have hL6 := SqL.of (K := K) hq6
      walk_at "ev"
      w_cond _7
      walk_at "ev"
      refine .inl ⟨SqL.of hq7, ?_⟩
      w_cond _8
      refine q l8 H8 ((sm3.trans (sm4.trans (sm5.trans (sm6.trans sm7)))).free hl8) (sm3.trans (sm4.trans (sm5.trans (sm6.trans (sm7.trans sm8))))) ?_
      rw [hq8, rep_flat, ← lrR_eq (by omega) blast, lrR, List.map_take, List.map_append, List.map_replicate]
      have ek : ((bs.map V.int).length : Int) - 1 = ((bs.length - 1 : Nat) : Int) := by
        rw [List.length_map]
        omega
      rw [ek]
      have ec : ∀ (xs : List V) (k : Nat), k ≤ xs.length → cutV xs none (some ((k : Nat) : Int)) = xs.take k := fun xs k hk => by
        have z : cutV xs none (some ((k : Nat) : Int)) = (xs.drop 0).take (HT.sIx xs.length xs.length (some ((k : Nat) : Int)) - 0) := rfl
        rw [z, HT.sIx_nat, Nat.min_eq_left hk]
        rfl
      rw [Int.toNat_natCast, ec _ _ (by rw [List.length_append, List.length_replicate]; omega)]
end
/-! ### things, by what they are -/
def intD : PyData → Bool
  | .int _ => true
  | _ => false
def tyD : PyData → String
  | .none => "NoneType"
  | .bool _ => "bool"
  | .int _ => "int"
  | .str _ => "str"
  | .list _ => "list"
  | .tuple _ => "tuple"
  | .dict _ => "dict"
theorem kdD {K : PySem.W.Frag} {H : Hp} {v : V} {d : PyData} (h : Dp K H v d) : Kd K H v (tyD d) := by
  cases h with
  | non => exact .non
  | bl b => exact .bl b
  | int i => exact .int i
  | str x => exact .str x
  | lst h _ => exact .lst h
  | tup h _ => exact .tup h
theorem tyD_int (d : PyData) : (tyD d == "int") = intD d := by
  cases d <;> rfl
local macro_rules | `(tactic| walk_at "ev1") => `(tactic| ((first | with_reducible show ClsV _ _ | with_reducible show Paired ClsV _ _); first | exact ClsV.own _ | exact ClsV.ty _ | exact .cons (.own _) (.cons (.own _) .nil) | exact .cons (.own _) (.cons (.own _) (.cons (.own _) .nil))))
/-! ### the ground of exact roots -/
theorem whl_last : ∀ n < 31, 1 ≤ n → 2 ≤ (whl n).length ∧ (whl n).length ≤ 31 ∧ (whl n).getD ((whl n).length - 1) 0 = 1 := by decide +kernel
theorem whl_bd1 : ∀ n < 31, ∀ x ∈ whl n, x.natAbs ≤ 1 := by decide +kernel
abbrev rootF (n : Nat) (r : Addr) : List (Str × V) := [(("order" : Str), .int (n : Int)), (("rim" : Str), .ref r)]
def RootAt (C : Addr) (H : Hp) (a : Addr) (n : Nat) : Prop := ∃ dx r, H a = some (.ins C dx (rootF n r)) ∧ H r = some (.tup ((whl n).map V.int))
theorem RootAt.same {C : Addr} {H H' : Hp} {a : Addr} {n : Nat} (h : RootAt C H a n) (e : Same H H') : RootAt C H' a n := by
  obtain ⟨dx, r, h1, h2⟩ := h
  exact ⟨dx, r, e _ _ h1, e _ _ h2⟩
theorem RootAt.keep {C b : Addr} {H H' : Hp} {a : Addr} {n : Nat} {c : Int} (h : RootAt C H a n) (hb : BoxAt H b c) (e : Keep b H H') : RootAt C H' a n := by
  obtain ⟨dx, r, h1, h2⟩ := h
  obtain ⟨x, y, z, b1, _⟩ := hb
  exact ⟨dx, r, e _ _ (fun w => by rw [w, b1] at h1; cases h1) h1, e _ _ (fun w => by rw [w, b1] at h2; cases h2) h2⟩
theorem RootAt.some {C : Addr} {H : Hp} {a : Addr} {n : Nat} (h : RootAt C H a n) : ∃ o, H a = some o := by
  obtain ⟨dx, r, h1, h2⟩ := h
  exact ⟨_, h1⟩
structure RootC (K : PySem.W.Frag) (C : Addr) : Prop where
  cl : L2.Cls K C
  no : NoAttr K C "order"
  nr : NoAttr K C "rim"
abbrev s_Roots___init__ : Stmt := inClass (top 14) 0
abbrev N_Roots___init__ : List Str := ["self", "order"]
abbrev P_Roots___init__ : List Str := ["self", "order"]
theorem sc_Roots___init__ : FnScope N_Roots___init__ P_Roots___init__ (defScope s_Roots___init__) := ⟨rfl, rfl, rfl, by decide +kernel, rfl, by decide +kernel, by decide +kernel⟩
/-- Roots(v): a new one of each order to thirty; BadGround of all else -/
def spRoI (K : PySem.W.Frag) (C CB : Addr) : Sp := fun vs H Q E => ∃ (a dx : Addr) (v : V) (t : String), vs = [.ref a, v] ∧ H a = some (.ins C dx []) ∧ Kd K H v t ∧
  (∀ n : Nat, v = .int (n : Int) → 1 ≤ n → n < 31 → ∀ H', Keep a H H' → RootAt C H' a n → Q .non H') ∧
  ((¬ ∃ n : Nat, v = .int (n : Int) ∧ 1 ≤ n ∧ n < 31) → ∀ d H', H d = none → Same H H' → H' d = some (.xd [(("what" : Str), v)]) → E (.ref CB) (some d) H')
section
variable {P : Program} {w : World} {K : PySem.W.Frag} {mg : Str → Option Value} {base : Heap}
theorem ok_roi {f f1 f2 f3 f4 fI C CB CT : Addr} {fd d1 d2 d3 d4 fdI : FuncData} {tM : Tok} (F : Fun K "__init__" "Roots.__init__" s_Roots___init__ f fd) (T : Blt mg) (RC : RootC K C) (D_is_whole : Df K mg "is_whole" s_is_whole P_is_whole f1 d1) (D_wheel : Df K mg "wheel" s_wheel P_wheel f2 d2) (D_divisors : Df K mg "divisors" s_divisors P_divisors f3 d3) (D_divided : Df K mg "divided" s_divided P_divided f4 d4)
    (M_MOST_ORDER : mg "MOST_ORDER" = some (.int 30 tM)) (FI : Fun K "__init__" "TurnError.__init__" s_init fI fdI) (I_b : Binds K fdI N_init []) (I_ty : PySem.W.typeIn K (.ref fI) = some (.type "function"))
    (R : Ref K CT CB fI) (M_BadGround : mg "BadGround" = some (.ref CB)) : FnOk P w K mg base (L2.CX P w) 7 f fd P_Roots___init__ (spRoI K C CB) := by
  have G_is_whole : FnOk P w K mg base CX0 1 f1 d1 P_is_whole (spWhole K) := ok_whole D_is_whole.F T
  have G_wheel : FnOk P w K mg base CX0 6 f2 d2 P_wheel (spWheel 5) := ok_wheel D_wheel T D_divisors D_divided 5
  have G_init : FnOk P w K mg base CX0 1 fI fdI N_init (spInit K) := ok_init FI
  have EK_BadGround := R.ek
  have II_BadGround := R.ini
  have nd := sc_Roots___init__.nd
  refine F.okX sc_Roots___init__ (fun vs H Q E h => ?_) (fun cdv A outer s H vs Q E hr h => ?_)
  · obtain ⟨a, dx, v, t, rfl, _⟩ := h
    rfl
  · obtain ⟨a, dx, v, t, rfl, ha, kd, qy, qn⟩ := h
    refine ⟨_, (pss_cons (ps_if (PW.pt (pw_or (pt_not (pt_val (pe_call G_is_whole (hr.mono (by omega)) (by rfl) D_is_whole.g D_is_whole.F.kp D_is_whole.b .nil pass0 (pa_cons (pv 1) pa_nil)))) (pw_or (pt_cmpR op_lt (pv 1) (pe_int) (nomark _)) (pw_or1 (pt_cmpR op_gt (pv 1) (pe_glob (v := .int 30) (by rfl) M_MOST_ORDER ⟨_, rfl⟩) (nomark _)))))) (pss_one (ps_raise rfl (takes_of rfl rfl rfl rfl) (pmk_oex EK_BadGround.oex II_BadGround I_ty G_init (hr.mono (by omega)) I_b .nil pass0 (by rfl) M_BadGround (pa_cons (pv 1) pa_nil)))) pss_nil)
      (pss_cons (ps_fld (pv 0) (pv 1) (by rfl))
      (pss_one (ps_fld (pv 0) (pe_callTy call_tuple_of (by rfl) T.b_tuple (by decide +kernel) (pa_cons (pe_call G_wheel (hr.mono (by omega)) (by rfl) D_wheel.g D_wheel.F.kp D_wheel.b .nil pass0 (pa_cons (pv 1) pa_nil)) pa_nil)) (by rfl))))), ?_⟩
    obtain ⟨cl, no, nr⟩ := RC
    have bad : ∀ H1, Same H H1 → (¬ ∃ n : Nat, v = .int (n : Int) ∧ 1 ≤ n ∧ n < 31) → ∀ z, H1 z = none → _ := fun H1 sm1 no => mk_what (v := v) (Q := E) R.ek fun d H2 hd sm2 hq => qn no d H2 (sm1.free hd) (sm1.trans sm2) hq
    walk_at "ev"
    cases kd with
    | int p =>
      walk_at "ev"
      refine ite2 (fun e => ?_) (fun e => ?_)
      · have e1 : p < 1 := of_decide_eq_true e
        refine ⟨_, rfl, (by show 1 ≤ 1000; decide), bad _ (Same.refl _) ?_⟩
        rintro ⟨n, h1, h2, h3⟩
        cases h1
        omega
      · have e1 : ¬ p < 1 := fun z => e (decide_eq_true z)
        walk_at "ev"
        refine ite2 (fun e2 => ?_) (fun e2 => ?_)
        · have e3 : 30 < p := of_decide_eq_true e2
          refine ⟨_, rfl, (by show 1 ≤ 1000; decide), bad _ (Same.refl _) ?_⟩
          rintro ⟨n, h1, h2, h3⟩
          cases h1
          omega
        · have e3 : ¬ 30 < p := fun z => e2 (decide_eq_true z)
          obtain ⟨n, rfl⟩ := Int.eq_ofNat_of_zero_le (show 0 ≤ p by omega)
          have n1 : 1 ≤ n := by omega
          have n31 : n < 31 := by omega
          have n32 : n < 2 ^ 5 := by omega
          walk_at "ev"
          generalize hG : upd H a _ = H2
          obtain ⟨k2, hq2⟩ := mutO hG
          clear hG
          walk_at "ev"
          intro l H3 hl sm3 hq3
          walk_at "ev"
          refine .inl ⟨SqL.of hq3, ?_⟩
          w_cond _4
          have ha4 := (sm3.trans sm4) _ _ hq2
          have na4 : l4 ≠ a := (ne_of_none (sm3 _ _ hq2) hl4).symm
          walk_at "ev"
          refine ⟨(by show 1 < 1000; decide), ?_⟩
          exact qy n rfl n1 n31 _ ((k2.trans (keepS (sm3.trans sm4))).trans (keep_upd (Keep.refl _ _))) ⟨dx, l4, upd_same, by rw [upd_ne na4]; exact hq4⟩
    | _ =>
      walk_at "ev"
      refine bad _ (Same.refl _) ?_
      rintro ⟨n, h1, h2⟩
      cases h1
end
abbrev s_Roots_is_worth : Stmt := inClass (top 14) 5
abbrev N_Roots_is_worth : List Str := ["self", "thing", "part"]
abbrev P_Roots_is_worth : List Str := ["self", "thing"]
theorem sc_Roots_is_worth : FnScope N_Roots_is_worth P_Roots_is_worth (defScope s_Roots_is_worth) := ⟨rfl, rfl, rfl, by decide +kernel, rfl, by decide +kernel, by decide +kernel⟩
def isW (m : Nat) : PyData → Bool
  | .tuple ds => decide (ds.length = m) && ds.all intD
  | _ => false
def spIsW (K : PySem.W.Frag) (C : Addr) : Sp := fun vs H Q _ => ∃ (a : Addr) (n : Nat) (v : V) (d : PyData), vs = [.ref a, v] ∧ RootAt C H a n ∧ 1 ≤ n ∧ n < 31 ∧ Dp K H v d ∧ (∀ ds, d = .tuple ds → ds.length ≤ 100) ∧ ∀ H', Same H H' → Q (.bl (isW ((whl n).length - 1) d)) H'
section
variable {P : Program} {w : World} {K : PySem.W.Frag} {mg : Str → Option Value} {base : Heap}
theorem ok_isW {f f1 C : Addr} {fd d1 : FuncData} {k : Nat} (F : Fun K "is_worth" "Roots.is_worth" s_Roots_is_worth f fd) (T : Blt mg) (RC : RootC K C) (D_is_whole : Df K mg "is_whole" s_is_whole P_is_whole f1 d1) : FnOk P w K mg base CX0 (k + 2) f fd P_Roots_is_worth (spIsW K C) := by
  have G_is_whole : FnOk P w K mg base CX0 (k + 1) f1 d1 P_is_whole (spWhole K) := ok_whole D_is_whole.F T
  have nd := sc_Roots_is_worth.nd
  refine F.ok sc_Roots_is_worth (fun vs H Q E h => ?_) (fun cdv A outer s H vs Q E hr h => ?_)
  · obtain ⟨a, n, v, d, rfl, _⟩ := h
    rfl
  · obtain ⟨a, n, v, d, rfl, ⟨dx, r, ha, hrm⟩, n1, n31, hd, hl, q⟩ := h
    refine ⟨_, (pss_cons (ps_if (PW.pt (pw_or (pt_not (pt_val (pe_callB (r := rIsi K) call_isi (by rfl) T.b_isinstance (by decide +kernel) (pa_cons (pv 1) (pa_cons (pe_bltn (v := .ty "tuple") (by rfl) T.b_tuple (by decide +kernel) rfl) pa_nil))))) (pw_or1 (pt_cmpR op_ne (pe_callB (r := rLenQ K) call_len_seq (by rfl) T.b_len (by decide +kernel) (pa_cons (pv 1) pa_nil)) (pe_op op_sub (pe_callB (r := rLenQ K) call_len_seq (by rfl) T.b_len (by decide +kernel) (pa_cons (pe_fld (pv 0) (by rfl)) pa_nil)) (pe_int)) (nomark _))))) (pss_one (ps_ret (pe_bl))) pss_nil)
      (pss_one (ps_ret (pe_callB (r := rAll K) (cr_all rfl) (by rfl) T.b_all (by decide +kernel) (pa_cons (pe_lc (own := [("part", 2)]) (g := gName 2) (by rfl) nd (pi_tup (pv 1)) (blkOk_by (own := [("part", 2)]) (N := N_Roots_is_worth) (sc := defScope s_Roots_is_worth) (by decide +kernel)) (fun _ _ _ _ _ => (pg_name (i := 2) nd rfl (Or.inl rfl))) (fun _ _ _ _ _ => pts_nil) (fun _ _ _ _ _ => (pe_call G_is_whole (hr.mono (by omega)) (by rfl) D_is_whole.g D_is_whole.F.kp D_is_whole.b .nil pass0 (pa_cons (pv 2) pa_nil)))) pa_nil))))), ?_⟩
    obtain ⟨cl, no, nr⟩ := RC
    have kd := kdD hd
    have ty := kd.ty
    obtain ⟨k1, k2, k3, k4, k5⟩ := kd.kit
    have q0 := q H (Same.refl _)
    have hRm := SqT.of (K := K) hrm
    obtain ⟨w2, w31, _⟩ := whl_last n n31 n1
    cases hd with
    | non =>
      walk_at "ev"
      exact q0
    | bl b =>
      walk_at "ev"
      exact q0
    | int i =>
      walk_at "ev"
      exact q0
    | str z =>
      walk_at "ev"
      exact q0
    | lst hs ha =>
      walk_at "ev"
      exact q0
    | tup hs hda =>
      rename_i a' xs ds
      have hlen := hl ds rfl
      have hdl := dpall_len hda
      have hxl : ((xs.length : Nat) : Int) = (ds.length : Int) := by rw [hdl]
      have hwl : ((((whl n).map V.int).length : Nat) : Int) - 1 = (((whl n).length - 1 : Nat) : Int) := by rw [List.length_map]; omega
      walk_at "ev"
      by_cases c : ds.length = (whl n).length - 1
      · refine iteFe (show (!decide (V.int (xs.length : Int) = V.int ((((whl n).map V.int).length : Int) - 1))) = false by rw [hwl, hxl, c]; simp) ?_
        have hL' : ∃ xs, SqT K H a' xs := ⟨_, hs⟩
        walk_at "ev"
        intro D hD
        refine lc_tup (K := K) (a := a') (xs := xs) (fun i H' => Hold (Same H H' ∧ H' D = some (.lst (((ds.take i).map intD).map V.bl)))) (.mk ⟨same_new hD, upd_same⟩) ?_ ?_ ?_
        · intro i H1 hi hP
          obtain ⟨sm1, hD1⟩ := hP.un
          exact same_t sm1 hs
        · intro i v H1 hv hP
          obtain ⟨sm1, hD1⟩ := hP.un
          obtain ⟨d, hdi, hdv⟩ := dpall_get hda hv
          have hil : i < ds.length := (List.getElem?_eq_some_iff.mp hdi).1
          have kdx := kdD (dp_same sm1 hdv)
          have hsz : (((ds.take i).map intD).map V.bl).length < sizeLine := szm (by rw [List.length_map, List.length_map, List.length_take]; omega)
          walk_at "ev"
          refine .mk ⟨same_mut sm1 hD, ?_⟩
          rw [upd_same, List.take_add_one, hdi, List.map_append, List.map_append, tyD_int]
          rfl
        · intro H1 hP
          obtain ⟨sm1, hD1⟩ := hP.un
          rw [hdl, List.take_length] at hD1
          refine ⟨D, _, rfl, SqL.of hD1, ?_⟩
          have q1 := q H1 sm1
          have e : isW ((whl n).length - 1) (.tuple ds) = (ds.map intD).all id := by
            show (decide (ds.length = _) && ds.all intD) = _
            rw [decide_eq_true c, List.all_map]
            rfl
          rw [e] at q1
          exact q1
      · refine iteTe (show (!decide (V.int (xs.length : Int) = V.int ((((whl n).map V.int).length : Int) - 1))) = true by rw [hwl, hxl, decide_eq_false (fun z => c (by have := V.int.inj z; omega))]; rfl) ?_
        have e : isW ((whl n).length - 1) (.tuple ds) = false := by
          show (decide (ds.length = _) && ds.all intD) = _
          rw [decide_eq_false c]
          rfl
        rw [e] at q0
        walk_at "ev"
        exact q0
end
abbrev s_Roots_sum_of : Stmt := inClass (top 14) 7
abbrev N_Roots_sum_of : List Str := ["self", "one", "other", "part", "beside"]
abbrev P_Roots_sum_of : List Str := ["self", "one", "other"]
theorem sc_Roots_sum_of : FnScope N_Roots_sum_of P_Roots_sum_of (defScope s_Roots_sum_of) := ⟨rfl, rfl, rfl, by decide +kernel, rfl, by decide +kernel, by decide +kernel⟩
def spSumO (K : PySem.W.Frag) : Sp := fun vs H Q _ => ∃ (a x y : Addr) (one two : List Int), vs = [.ref a, .ref x, .ref y] ∧ SqT K H x (one.map V.int) ∧ SqT K H y (two.map V.int) ∧ one.length = two.length ∧ one.length ≤ 100 ∧ ∀ p H', H p = none → Same H H' → H' p = some (.tup ((List.zipWith (· + ·) one two).map V.int)) → Q (.ref p) H'
section
variable {P : Program} {w : World} {K : PySem.W.Frag} {mg : Str → Option Value} {base : Heap}
theorem ok_sum_ofR {f : Addr} {fd : FuncData} {k : Nat} (F : Fun K "sum_of" "Roots.sum_of" s_Roots_sum_of f fd) (T : Blt mg) : FnOk P w K mg base CX0 (k + 1) f fd P_Roots_sum_of (spSumO K) := by
  have nd := sc_Roots_sum_of.nd
  refine F.ok sc_Roots_sum_of (fun vs H Q E h => ?_) (fun cdv A outer s H vs Q E hr h => ?_)
  · obtain ⟨a, x, y, one, two, rfl, _⟩ := h
    rfl
  · obtain ⟨a, x, y, one, two, rfl, hx, hy, hle, hl, q⟩ := h
    refine ⟨_, (pss_one (ps_ret (pe_callTy call_tuple_of (by rfl) T.b_tuple (by decide +kernel) (pa_cons (pe_lc (own := [("part", 3), ("beside", 4)]) (g := gTup K 2 (gCons (gName 3) (gCons (gName 4) gNil))) (by rfl) nd (RZ.pi_zipA (by rfl) T.b_zip (pa_cons (pv 1) (pa_cons (pv 2) pa_nil))) (blkOk_by (own := [("part", 3), ("beside", 4)]) (N := N_Roots_sum_of) (sc := defScope s_Roots_sum_of) (by decide +kernel)) (fun _ _ _ _ _ => (pg_tup (by rfl) (pgs_cons (pg_name (i := 3) nd rfl (Or.inl rfl)) (pgs_cons (pg_name (i := 4) nd rfl (Or.inl rfl)) pgs_nil)))) (fun _ _ _ _ _ => pts_nil) (fun _ _ _ _ _ => (pe_op op_add (pv 3) (pv 4)))) pa_nil)))), ?_⟩
    walk_at "ev"
    refine .inr ⟨hx, hy, fun D hD => ?_⟩
    refine lc_pairs (xs := one.map V.int) (ys := two.map V.int) (fun i H' => Hold (Same H H' ∧ H' D = some (.lst (((List.zipWith (· + ·) one two).take i).map V.int)))) (.mk ⟨same_new hD, upd_same⟩) ?_ ?_ ?_ ?_ ?_
    · intro i H' hP hi
      obtain ⟨sm2, hD2⟩ := hP.un
      have hi2 : i < (two.map V.int).length := by rw [List.length_map] at *; omega
      exact ⟨_, _, _, _, same_t sm2 hx, same_t sm2 hy, List.getElem?_eq_getElem hi, List.getElem?_eq_getElem hi2⟩
    · intro i H' v H'' hP hi yl
      obtain ⟨sm2, hD2⟩ := hP.un
      obtain ⟨T, x', y', e1, e2, e3, f1, f2⟩ := yl
      exact ⟨T, x', y', e1, e2, e3, f1 _ (same_t sm2 hx), f2 _ (same_t sm2 hy)⟩
    · intro H' hP
      obtain ⟨sm2, hD2⟩ := hP.un
      exact ⟨_, _, same_t sm2 hx, same_t sm2 hy, .inl (Nat.le_refl _)⟩
    · intro i x' y' T' H' H'' hx' hy' hP hT e
      obtain ⟨sm2, hD2⟩ := hP.un
      obtain ⟨sm3, hT3⟩ := newO e.symm hT
      have hT4 : SqT K H'' T' [x', y'] := SqT.of hT3
      rw [List.getElem?_map] at hx' hy'
      obtain ⟨u, hu, eu⟩ := Option.map_eq_some_iff.mp hx'
      obtain ⟨v, hv, ev⟩ := Option.map_eq_some_iff.mp hy'
      subst eu ev
      have hil : i < one.length := (List.getElem?_eq_some_iff.mp hu).1
      have hsz : (((List.zipWith (· + ·) one two).take i).map V.int).length < sizeLine := szm (by rw [List.length_map, List.length_take]; omega)
      have hD3 := sm3 _ _ hD2
      walk_at "ev"
      refine .mk ⟨same_mut (sm2.trans sm3) hD, ?_⟩
      rw [upd_same, List.take_add_one, List.getElem?_zipWith, hu, hv, List.map_append]
      rfl
    · intro H' hP
      obtain ⟨sm2, hD2⟩ := hP.un
      have ez : (List.zipWith (· + ·) one two).length = (one.map V.int).length := by rw [List.length_zipWith, List.length_map]; omega
      rw [← ez, List.take_length] at hD2
      walk_at "ev"
      refine .inl ⟨SqL.of hD2, ?_⟩
      w_cond _3
      exact q l3 H3 (sm2.free hl3) (sm2.trans sm3) hq3
end
abbrev s_Roots_gap_of : Stmt := inClass (top 14) 8
abbrev N_Roots_gap_of : List Str := ["self", "one", "other", "part", "beside"]
abbrev P_Roots_gap_of : List Str := ["self", "one", "other"]
theorem sc_Roots_gap_of : FnScope N_Roots_gap_of P_Roots_gap_of (defScope s_Roots_gap_of) := ⟨rfl, rfl, rfl, by decide +kernel, rfl, by decide +kernel, by decide +kernel⟩
def spGapO (K : PySem.W.Frag) : Sp := fun vs H Q _ => ∃ (a x y : Addr) (one two : List Int), vs = [.ref a, .ref x, .ref y] ∧ SqT K H x (one.map V.int) ∧ SqT K H y (two.map V.int) ∧ one.length = two.length ∧ one.length ≤ 100 ∧ ∀ p H', H p = none → Same H H' → H' p = some (.tup ((List.zipWith (· - ·) one two).map V.int)) → Q (.ref p) H'
section
variable {P : Program} {w : World} {K : PySem.W.Frag} {mg : Str → Option Value} {base : Heap}
theorem ok_gap_ofR {f : Addr} {fd : FuncData} {k : Nat} (F : Fun K "gap_of" "Roots.gap_of" s_Roots_gap_of f fd) (T : Blt mg) : FnOk P w K mg base CX0 (k + 1) f fd P_Roots_gap_of (spGapO K) := by
  have nd := sc_Roots_gap_of.nd
  refine F.ok sc_Roots_gap_of (fun vs H Q E h => ?_) (fun cdv A outer s H vs Q E hr h => ?_)
  · obtain ⟨a, x, y, one, two, rfl, _⟩ := h
    rfl
  · obtain ⟨a, x, y, one, two, rfl, hx, hy, hle, hl, q⟩ := h
    refine ⟨_, (pss_one (ps_ret (pe_callTy call_tuple_of (by rfl) T.b_tuple (by decide +kernel) (pa_cons (pe_lc (own := [("part", 3), ("beside", 4)]) (g := gTup K 2 (gCons (gName 3) (gCons (gName 4) gNil))) (by rfl) nd (RZ.pi_zipA (by rfl) T.b_zip (pa_cons (pv 1) (pa_cons (pv 2) pa_nil))) (blkOk_by (own := [("part", 3), ("beside", 4)]) (N := N_Roots_gap_of) (sc := defScope s_Roots_gap_of) (by decide +kernel)) (fun _ _ _ _ _ => (pg_tup (by rfl) (pgs_cons (pg_name (i := 3) nd rfl (Or.inl rfl)) (pgs_cons (pg_name (i := 4) nd rfl (Or.inl rfl)) pgs_nil)))) (fun _ _ _ _ _ => pts_nil) (fun _ _ _ _ _ => (pe_op op_sub (pv 3) (pv 4)))) pa_nil)))), ?_⟩
    walk_at "ev"
    refine .inr ⟨hx, hy, fun D hD => ?_⟩
    refine lc_pairs (xs := one.map V.int) (ys := two.map V.int) (fun i H' => Hold (Same H H' ∧ H' D = some (.lst (((List.zipWith (· - ·) one two).take i).map V.int)))) (.mk ⟨same_new hD, upd_same⟩) ?_ ?_ ?_ ?_ ?_
    · intro i H' hP hi
      obtain ⟨sm2, hD2⟩ := hP.un
      have hi2 : i < (two.map V.int).length := by rw [List.length_map] at *; omega
      exact ⟨_, _, _, _, same_t sm2 hx, same_t sm2 hy, List.getElem?_eq_getElem hi, List.getElem?_eq_getElem hi2⟩
    · intro i H' v H'' hP hi yl
      obtain ⟨sm2, hD2⟩ := hP.un
      obtain ⟨T, x', y', e1, e2, e3, f1, f2⟩ := yl
      exact ⟨T, x', y', e1, e2, e3, f1 _ (same_t sm2 hx), f2 _ (same_t sm2 hy)⟩
    · intro H' hP
      obtain ⟨sm2, hD2⟩ := hP.un
      exact ⟨_, _, same_t sm2 hx, same_t sm2 hy, .inl (Nat.le_refl _)⟩
    · intro i x' y' T' H' H'' hx' hy' hP hT e
      obtain ⟨sm2, hD2⟩ := hP.un
      obtain ⟨sm3, hT3⟩ := newO e.symm hT
      have hT4 : SqT K H'' T' [x', y'] := SqT.of hT3
      rw [List.getElem?_map] at hx' hy'
      obtain ⟨u, hu, eu⟩ := Option.map_eq_some_iff.mp hx'
      obtain ⟨v, hv, ev⟩ := Option.map_eq_some_iff.mp hy'
      subst eu ev
      have hil : i < one.length := (List.getElem?_eq_some_iff.mp hu).1
      have hsz : (((List.zipWith (· - ·) one two).take i).map V.int).length < sizeLine := szm (by rw [List.length_map, List.length_take]; omega)
      have hD3 := sm3 _ _ hD2
      walk_at "ev"
      refine .mk ⟨same_mut (sm2.trans sm3) hD, ?_⟩
      rw [upd_same, List.take_add_one, List.getElem?_zipWith, hu, hv, List.map_append]
      rfl
    · intro H' hP
      obtain ⟨sm2, hD2⟩ := hP.un
      have ez : (List.zipWith (· - ·) one two).length = (one.map V.int).length := by rw [List.length_zipWith, List.length_map]; omega
      rw [← ez, List.take_length] at hD2
      walk_at "ev"
      refine .inl ⟨SqL.of hD2, ?_⟩
      w_cond _3
      exact q l3 H3 (sm2.free hl3) (sm2.trans sm3) hq3
end
abbrev s_Roots_product_of : Stmt := inClass (top 14) 9
abbrev N_Roots_product_of : List Str := ["self", "one", "other"]
abbrev P_Roots_product_of : List Str := ["self", "one", "other"]
theorem sc_Roots_product_of : FnScope N_Roots_product_of P_Roots_product_of (defScope s_Roots_product_of) := ⟨rfl, rfl, rfl, by decide +kernel, rfl, by decide +kernel, by decide +kernel⟩
def spProdO (K : PySem.W.Frag) (C : Addr) : Sp := fun vs H Q _ => ∃ (a x y : Addr) (n : Nat) (one two : List Int), vs = [.ref a, .ref x, .ref y] ∧ RootAt C H a n ∧ 1 ≤ n ∧ n < 31 ∧ SqT K H x (one.map V.int) ∧ SqT K H y (two.map V.int) ∧ 1 ≤ one.length ∧ 1 ≤ two.length ∧ one.length ≤ 100 ∧ two.length ≤ 100 ∧ (∀ x ∈ one, x.natAbs < 2 ^ 400) ∧ (∀ x ∈ two, x.natAbs < 2 ^ 400) ∧
  ∀ p H', H p = none → Same H H' → H' p = some (.tup ((dvR (whl n) (pmul one two)).map V.int)) → Q (.ref p) H'
abbrev s_Roots_worth_of : Stmt := inClass (top 14) 6
abbrev N_Roots_worth_of : List Str := ["self", "number"]
abbrev P_Roots_worth_of : List Str := ["self", "number"]
theorem sc_Roots_worth_of : FnScope N_Roots_worth_of P_Roots_worth_of (defScope s_Roots_worth_of) := ⟨rfl, rfl, rfl, by decide +kernel, rfl, by decide +kernel, by decide +kernel⟩
def spWorO (K : PySem.W.Frag) (C : Addr) : Sp := fun vs H Q _ => ∃ (a : Addr) (n : Nat) (i : Int), vs = [.ref a, .int i] ∧ RootAt C H a n ∧ 1 ≤ n ∧ n < 31 ∧ ∀ p H', H p = none → Same H H' → H' p = some (.tup ((i :: List.replicate ((whl n).length - 2) 0).map V.int)) → Q (.ref p) H'
theorem dvR_one {bs : List Int} {i : Int} (h : 2 ≤ bs.length) : dvR bs [i] = i :: List.replicate (bs.length - 2) 0 := by
  unfold dvR
  rw [show ([i] : List Int).length - (bs.length - 1) = 0 by rw [List.length_singleton]; omega, dvN]
  show [i] ++ List.replicate (bs.length - 1 - 1) 0 = _
  rw [show bs.length - 1 - 1 = bs.length - 2 by omega]
  rfl
section
variable {P : Program} {w : World} {K : PySem.W.Frag} {mg : Str → Option Value} {base : Heap}
theorem ok_prodO {f f1 f2 C : Addr} {fd d1 d2 : FuncData} {k : Nat} (F : Fun K "product_of" "Roots.product_of" s_Roots_product_of f fd) (T : Blt mg) (RC : RootC K C) (D_divided : Df K mg "divided" s_divided P_divided f1 d1) (D_multiplied : Df K mg "multiplied" s_multiplied P_multiplied f2 d2) : FnOk P w K mg base CX0 (k + 2) f fd P_Roots_product_of (spProdO K C) := by
  have G_divided : FnOk P w K mg base CX0 1 f1 d1 P_divided (spDvd2 K) := ok_divided2 D_divided.F T
  have G_multiplied : FnOk P w K mg base CX0 1 f2 d2 P_multiplied (spMulT K) := ok_mulT D_multiplied.F T
  have nd := sc_Roots_product_of.nd
  refine F.ok sc_Roots_product_of (fun vs H Q E h => ?_) (fun cdv A outer s H vs Q E hr h => ?_)
  · obtain ⟨a, x, y, n, one, two, rfl, _⟩ := h
    rfl
  · obtain ⟨a, x, y, n, one, two, rfl, ⟨dx, r, ha, hrm⟩, n1, n31, hx, hy, o1, t1, ol, tl, bo, bt, q⟩ := h
    refine ⟨_, (pss_one (ps_ret (pe_callTy call_tuple_of (by rfl) T.b_tuple (by decide +kernel) (pa_cons (pe_ix (r := rIxT K) ix_tup (pe_call G_divided (hr.mono (by omega)) (by rfl) D_divided.g D_divided.F.kp D_divided.b .nil pass0 (pa_cons (pe_call G_multiplied (hr.mono (by omega)) (by rfl) D_multiplied.g D_multiplied.F.kp D_multiplied.b .nil pass0 (pa_cons (pv 1) (pa_cons (pv 2) pa_nil))) (pa_cons (pe_fld (pv 0) (by rfl)) pa_nil))) (pe_int) (fun _ _ => rfl)) pa_nil)))), ?_⟩
    obtain ⟨cl, no, nr⟩ := RC
    obtain ⟨w2, w31, _⟩ := whl_last n n31 n1
    have wb := whl_bnd n n31
    have o1000 : one.length ≤ 1000 := by omega
    have t1000 : two.length ≤ 1000 := by omega
    walk_at "ev"
    intro m H1 hm sm1 hq1
    have ha1 := sm1 _ _ ha
    have hM := SqL.of (K := K) hq1
    have hR1 : SqL K H1 r ((whl n).map V.int) ∨ SqT K H1 r ((whl n).map V.int) := .inr (SqT.of (sm1 _ _ hrm))
    have z1 : 1 ≤ (whl n).length := by omega
    have z2 : (whl n).length ≤ 1000 := by omega
    have z3 : (pmul one two).length ≤ 1000 := by rw [pmul_len]; omega
    walk_at "ev"
    intro t' qq z H2 hq sm2 hT hQ hz hZ
    have at1 : atI [V.ref qq, V.ref z] 1 = some (.ref z) := rfl
    walk_at "ev"
    refine .inl ⟨SqL.of hZ, ?_⟩
    w_cond _3
    exact q l3 H3 ((sm1.trans sm2).free hl3) (sm1.trans (sm2.trans sm3)) hq3
theorem ok_worO {f f1 C : Addr} {fd d1 : FuncData} {k : Nat} (F : Fun K "worth_of" "Roots.worth_of" s_Roots_worth_of f fd) (T : Blt mg) (RC : RootC K C) (D_divided : Df K mg "divided" s_divided P_divided f1 d1) : FnOk P w K mg base CX0 (k + 2) f fd P_Roots_worth_of (spWorO K C) := by
  have G_divided : FnOk P w K mg base CX0 1 f1 d1 P_divided (spDvd2 K) := ok_divided2 D_divided.F T
  have nd := sc_Roots_worth_of.nd
  refine F.ok sc_Roots_worth_of (fun vs H Q E h => ?_) (fun cdv A outer s H vs Q E hr h => ?_)
  · obtain ⟨a, n, i, rfl, _⟩ := h
    rfl
  · obtain ⟨a, n, i, rfl, ⟨dx, r, ha, hrm⟩, n1, n31, q⟩ := h
    refine ⟨_, (pss_one (ps_ret (pe_callTy call_tuple_of (by rfl) T.b_tuple (by decide +kernel) (pa_cons (pe_ix (r := rIxT K) ix_tup (pe_call G_divided (hr.mono (by omega)) (by rfl) D_divided.g D_divided.F.kp D_divided.b .nil pass0 (pa_cons (pe_lst (pa_cons (pv 1) pa_nil)) (pa_cons (pe_fld (pv 0) (by rfl)) pa_nil))) (pe_int) (fun _ _ => rfl)) pa_nil)))), ?_⟩
    obtain ⟨cl, no, nr⟩ := RC
    obtain ⟨w2, w31, _⟩ := whl_last n n31 n1
    have wb := whl_bnd n n31
    walk_at "ev"
    w_cond _1
    have ha1 := sm1 _ _ ha
    have hM : SqL K H1 l1 (([i] : List Int).map V.int) := SqL.of hq1
    have hR1 : SqL K H1 r ((whl n).map V.int) ∨ SqT K H1 r ((whl n).map V.int) := .inr (SqT.of (sm1 _ _ hrm))
    have z1 : 1 ≤ (whl n).length := by omega
    have z2 : (whl n).length ≤ 1000 := by omega
    have z3 : ([i] : List Int).length ≤ 1000 := by show 1 ≤ 1000; decide
    walk_at "ev"
    intro t' qq z H2 hq sm2 hT hQ hz hZ
    rw [dvR_one w2] at hZ
    have at1 : atI [V.ref qq, V.ref z] 1 = some (.ref z) := rfl
    walk_at "ev"
    refine .inl ⟨SqL.of hZ, ?_⟩
    w_cond _3
    exact q l3 H3 ((sm1.trans sm2).free hl3) (sm1.trans (sm2.trans sm3)) hq3
end
/-! ### t * k, t a tuple, k any -/
section
open PySem.Spec PyProof.Rows
theorem tuple_mulW1 (l : Addr) (items : Array Value) (n : Nat) (dd : Option Addr) (sl : Array (Option Value)) (u : Tok) :
    Meets (Builtin.«tuple.__mul__» ⟨[.ref l, .int 1 u], []⟩) (fun _ R s => s.heap.get? l = some { cls := .type "tuple", dict := dd, data := .seq items n, slots := sl } ∧ R (.ok (.ret (Value.ref l))) s) :=
  .of_wp fun prog w A R s h => by
    obtain ⟨hp, g, d, tk, os⟩ := s
    obtain ⟨hl, h⟩ := h
    have f1 := AutoSeq1.idx_int
    have c1 : (items.isEmpty || (1 : Int) == 1) = true := by rw [beq_self_eq_true, Bool.or_true]
    wp_walk using wpAny_loadPart' hl
    repeat (first
      | (refine wpAny_ite_false (decide_eq_false (by decide)) ?_; wp_walk using wpAny_loadPart' hl)
      | (refine wpAny_ite_true (decide_eq_true c1) ?_; wp_walk using wpAny_loadPart' hl))
    exact ⟨_, rfl, h⟩
theorem tuple_mulW0 (l : Addr) (items : Array Value) (n : Nat) (dd : Option Addr) (sl : Array (Option Value)) (x : Int) (u : Tok) (c0 : (decide (x < -(2 ^ 63)) || decide (x ≥ 2 ^ 63)) = false) (c1 : (items.isEmpty || x == 1) = false) (c2 : (decide (x ≤ 0) || items.isEmpty) = true) :
    Meets (Builtin.«tuple.__mul__» ⟨[.ref l, .int x u], []⟩) (fun _ R s => s.heap.get? l = some { cls := .type "tuple", dict := dd, data := .seq items n, slots := sl } ∧
      R (.ok (.ret (Value.ref s.heap.objs.size))) { s with heap := s.heap.push { cls := Value.type "tuple", data := Data.seq #[] }, toks := s.toks }) :=
  .of_wp fun prog w A R s h => by
    obtain ⟨hp, g, d, tk, os⟩ := s
    obtain ⟨hl, h⟩ := h
    have f1 := AutoSeq1.idx_int
    have hsz : ¬ (#[] : Array Value).size > sizeLine := by rw [sizeLine_eq]; decide
    wp_walk using wpAny_loadPart' hl
    repeat (first
      | (refine wpAny_ite_false (decide_eq_false (by rw [c0]; exact Bool.false_ne_true)) ?_; wp_walk using wpAny_loadPart' hl)
      | (refine wpAny_ite_false (decide_eq_false (by rw [c1]; exact Bool.false_ne_true)) ?_; wp_walk using wpAny_loadPart' hl)
      | (refine wpAny_ite_true (decide_eq_true c2) ?_; wp_walk using wpAny_loadPart' hl)
      | (refine wpAny_ite_false (decide_eq_false hsz) ?_; wp_walk using wpAny_loadPart' hl))
    exact ⟨_, rfl, h⟩
def rRepA (K : PySem.W.Frag) : R2 := fun x y H Q => ∃ l k xs, x = .ref l ∧ y = .int k ∧ SqT K H l xs ∧ xs ≠ [] ∧ -1000 ≤ k ∧ k ≤ 1000 ∧ xs.length ≤ 1000 ∧ (k = 1 → Q (.ref l) H) ∧ (k ≠ 1 → ∀ p, H p = none → Q (.ref p) (upd H p (.tup (List.replicate k.toNat xs).flatten)))
theorem op_repA {X : Cx} : OpR X (binaryOp .Mult) (rRepA X.K) := by
  intro pins s σ H x y v u Q I rx ry h
  obtain ⟨l, k, xs, rfl, rfl, hT, hne, h1, h2, hz, q1, q2⟩ := h
  by_cases c : 2 ≤ k
  · exact op_repT pins s σ H _ _ v u Q I rx ry ⟨l, k, xs, rfl, rfl, hT, hne, c, h2, hz, q2 (by omega)⟩
  cases rx
  obtain ⟨t, rfl⟩ := ry
  obtain ⟨its, r, ⟨⟨cls, dd, data, sl⟩, ho, hc, n, hd⟩, hs⟩ := I.tuple hT
  simp only at hc hd
  subst hc hd
  have hle : its.length = xs.length := r.length.symm
  have hn : its ≠ [] := fun e => hne (by
    rw [e] at hle
    exact List.eq_nil_of_length_eq_zero hle.symm)
  have hi : its.toArray.isEmpty = false := by
    cases its with
    | nil => exact absurd rfl hn
    | cons a b => rfl
  by_cases c1 : k = 1
  · subst c1
    exact wpAny_binaryOp_repeat_ref (T := "tuple") (U := "int") (by decide) ⟨_, ho, rfl⟩ (fun s' => typeIs_int s' 1 t) noFill_tuple_mul F.fills_int_mul F.slot_int_rmul repeat_tuple F.slot_int_index.lookup
      (call_meets F.slot_int_rmul (typeIs_int s 1 t) F.entry_int_rmul (F.args_int_rmul_2 _ _) (int_rmul_tuple 1 t l its.toArray n dd sl)
        ⟨ho, rfl, ⟨_, ho, rfl⟩, call_meets F.slot_tuple_mul ⟨_, ho, rfl⟩ F.entry_tuple_mul (F.args_tuple_mul_2 _ _) (tuple_mulW1 l its.toArray n dd sl t) ⟨ho, ⟨.ref l, H, I, rfl, q1 rfl⟩⟩⟩)
  · have c0 : (decide (k < -(2 ^ 63)) || decide (k ≥ 2 ^ 63)) = false := by
      rw [decide_eq_false (by omega), decide_eq_false (by omega)] <;> rfl
    have d1 : (its.toArray.isEmpty || k == 1) = false := by
      rw [hi, Bool.false_or]
      exact beq_eq_false_iff_ne.mpr c1
    have d2 : (decide (k ≤ 0) || its.toArray.isEmpty) = true := by
      rw [decide_eq_true (by omega)]
      rfl
    refine wpAny_binaryOp_repeat_ref (T := "tuple") (U := "int") (by decide) ⟨_, ho, rfl⟩ (fun s' => typeIs_int s' k t) noFill_tuple_mul F.fills_int_mul F.slot_int_rmul repeat_tuple F.slot_int_index.lookup
      (call_meets F.slot_int_rmul (typeIs_int s k t) F.entry_int_rmul (F.args_int_rmul_2 _ _) (int_rmul_tuple k t l its.toArray n dd sl)
        ⟨ho, rfl, ⟨_, ho, rfl⟩, call_meets F.slot_tuple_mul ⟨_, ho, rfl⟩ F.entry_tuple_mul (F.args_tuple_mul_2 _ _) (tuple_mulW0 l its.toArray n dd sl k t c0 d1 d2) ⟨ho, ?_⟩⟩)
    have e : (List.replicate k.toNat xs).flatten = [] := by
      rw [show k.toNat = 0 by omega]
      rfl
    have q3 := q2 c1
    rw [e] at q3
    refine ⟨.ref s.heap.objs.size, _, I.laid (t' := s.toks) (o := .tup []) (fun b ob q => Heap.get?_push_of_some _ q) (Nat.le_refl _) ?_, rfl, q3 _ (I.hok.fresh (Nat.le_refl _))⟩
    exact ⟨Nat.zero_le _, _, .nil, IsTup.new _ _⟩
end
/-! ### the law's worlds -/
theorem du {k : Nat} {A : Around} (h : Room k A) : A.units + 1 < cLine := by
  have := h.units
  omega
theorem keep_free {b p : Addr} {H H' : Hp} (k : Keep b H H') (n : p ≠ b) (h : H' p = none) : H p = none := by
  cases u : H p with
  | none => rfl
  | some o =>
    rw [k p o n u] at h
    cases h
abbrev wrldK (n : Nat) (l : Addr) : List (Key × V) := [(.inr "kind", .str "roots"), (.inr "by", .int (n : Int)), (.inr "wheel", .ref l), (.inr "first", .non)]
def WorldAt (H : Hp) (b d : Addr) (n : Nat) : Prop := ∃ l, l ≠ b ∧ d ≠ b ∧ H d = some (.dK (wrldK n l)) ∧ H l = some (.lst ((whl n).map V.int))
theorem WorldAt.keep {H H' : Hp} {b d : Addr} {n : Nat} (h : WorldAt H b d n) (e : Keep b H H') : WorldAt H' b d n := by
  obtain ⟨l, h1, h2, h3, h4⟩ := h
  exact ⟨l, h1, h2, e _ _ h2 h3, e _ _ h1 h4⟩
theorem WorldAt.same {H H' : Hp} {b d : Addr} {n : Nat} (h : WorldAt H b d n) (e : Same H H') : WorldAt H' b d n := h.keep (keepS e)
theorem dget_w {H : Hp} {d l : Addr} {n : Nat} (h : H d = some (.dK (wrldK n l))) : DGet H d (.str "kind") (some (.str "roots")) ∧ DGet H d (.str "by") (some (.int (n : Int))) ∧ DGet H d (.str "wheel") (some (.ref l)) :=
  ⟨DGet.k (k := .inr "kind") h, DGet.k (k := .inr "by") h, DGet.k (k := .inr "wheel") h⟩
abbrev s__law_exact : Stmt := top 24
abbrev N__law_exact : List Str := ["_law_box_here", "_law_order"]
abbrev P__law_exact : List Str := ["_law_box_here"]
theorem sc__law_exact : FnScope N__law_exact P__law_exact (defScope s__law_exact) := ⟨rfl, rfl, rfl, by decide +kernel, rfl, by decide +kernel, by decide +kernel⟩
def spExact : Sp := fun vs H Q _ => ∃ (b : Addr) (c : Int), vs = [.ref b] ∧ BoxAt H b c ∧ c < 900000 ∧ ∀ d l n H', 1 ≤ n → n < 31 → H d = none → H l = none → Keep b H H' → BoxAt H' b (c + 2) → l ≠ b → d ≠ b → H' d = some (.dK (wrldK n l)) → H' l = some (.lst ((whl n).map V.int)) → Q (.ref d) H'
section
variable {P : Program} {w : World} {K : PySem.W.Frag} {mg : Str → Option Value} {base : Heap}
theorem ok_exact {f f1 f2 f3 : Addr} {fd d1 d2 d3 : FuncData} (F : Fun K "_law_exact" "_law_exact" s__law_exact f fd) (T : Blt mg) (D__law_take : Df K mg "_law_take" s__law_take P__law_take f1 d1) (D__law_own_wheel : Df K mg "_law_own_wheel" s__law_own_wheel P__law_own_wheel f2 d2) (D__law_divided : Df K mg "_law_divided" s__law_divided P__law_divided f3 d3) : FnOk P w K mg base CX0 7 f fd P__law_exact spExact := by
  have G__law_take : FnOk P w K mg base CX0 1 f1 d1 P__law_take spTake := ok_take D__law_take.F
  have G__law_own_wheel : FnOk P w K mg base CX0 6 f2 d2 P__law_own_wheel (spWheel 5) := ok_own D__law_own_wheel T D__law_divided 5
  have nd := sc__law_exact.nd
  refine F.ok sc__law_exact (fun vs H Q E h => ?_) (fun cdv A outer s H vs Q E hr h => ?_)
  · obtain ⟨b, c, rfl, _⟩ := h
    rfl
  · obtain ⟨b, c, rfl, hb, hc, q⟩ := h
    refine ⟨_, (pss_cons (ps_set (i := 1) nd rfl (Or.inl rfl) (pe_ix (r := rIxL K) ix_list (pe_lst (pa_cons (pe_op op_add (pe_int) (pe_call G__law_take (hr.mono (by omega)) (by rfl) D__law_take.g D__law_take.F.kp D__law_take.b .nil pass0 (pa_cons (pv 0) (pa_cons (pe_int) pa_nil)))) (pa_cons (pe_int) (pa_cons (pe_int) (pa_cons (pe_int) (pa_cons (pe_int) pa_nil)))))) (pe_call G__law_take (hr.mono (by omega)) (by rfl) D__law_take.g D__law_take.F.kp D__law_take.b .nil pass0 (pa_cons (pv 0) (pa_cons (pe_int) pa_nil))) (fun _ _ => rfl)))
      (pss_one (ps_ret (pe_disp (pps_cons (pe_str) (pe_str) (pps_cons (pe_str) (pv 1) (pps_cons (pe_str) (pe_call G__law_own_wheel (hr.mono (by omega)) (by rfl) D__law_own_wheel.g D__law_own_wheel.F.kp D__law_own_wheel.b .nil pass0 (pa_cons (pv 1) pa_nil)) (pps_cons (pe_str) (pe_non) pps_nil)))) (by rfl) (by rfl) (by simp) (by decide))))), ?_⟩
    walk_at "ev"
    intro r1 H1 r10 r11 k1 hb1
    walk_at "ev"
    w_cond _2
    have hb2 := hb1.same sm2
    have n2b := hb1.ne hl2
    walk_at "ev"
    intro r3 H3 r30 r31 k3 hb3
    have hL3 := SqL.of (K := K) (k3 _ _ n2b hq2)
    obtain ⟨n, hn, hat⟩ : ∃ n : Nat, (1 ≤ n ∧ n < 31) ∧ atI [V.int (1 + r1), V.int 12, V.int 30, V.int 1, V.int 2] r3 = some (.int (n : Int)) := by
      have : r3 = 0 ∨ r3 = 1 ∨ r3 = 2 ∨ r3 = 3 ∨ r3 = 4 := by omega
      rcases this with z | z | z | z | z <;> subst z
      · obtain ⟨m, hm⟩ := Int.eq_ofNat_of_zero_le (show 0 ≤ 1 + r1 by omega)
        exact ⟨m, by omega, by rw [← hm]; rfl⟩
      · exact ⟨12, by decide, rfl⟩
      · exact ⟨30, by decide, rfl⟩
      · exact ⟨1, by decide, rfl⟩
      · exact ⟨2, by decide, rfl⟩
    obtain ⟨n1, n31⟩ := hn
    have n32 : n < 2 ^ 5 := by omega
    walk_at "ev"
    intro p hp
    generalize hG : upd H3 p _ = H4
    obtain ⟨sm4, hq4⟩ := newO hG hp
    clear hG
    have hb4 := hb3.same sm4
    walk_at "ev"
    intro l H5 hl sm5 hq5
    have hq45 := sm5 _ _ hq4
    have npl : l ≠ p := (ne_of_none hq4 hl).symm
    have npb : p ≠ b := hb3.ne hp
    have nlb : l ≠ b := hb4.ne hl
    have em : mergeK [] (wrldK n l) = wrldK n l := rfl
    have k13 : Keep b H H3 := k1.trans ((keepS sm2).trans k3)
    walk_at "ev"
    refine ⟨(show _ = List.map (fun kv : Key × V => (kV kv.1, kv.2)) (wrldK n l) from rfl), (by show 4 ≤ 15; decide), ?_⟩
    rw [em]
    exact q p l n _ n1 n31 (keep_free k13 npb hp) (keep_free (k13.trans (keepS sm4)) nlb hl) (keep_fresh (k13.trans (keepS (sm4.trans sm5))) (keep_free k13 npb hp)) (((hb4.same sm5).upd npb).mono (by omega)) nlb npb upd_same (by rw [upd_ne npl]; exact hq5)
end
abbrev s__law_worth : Stmt := top 23
abbrev N__law_worth : List Str := ["_law_box_here", "_law_world", "_law_prime", "_law_some", "_law_found", "_law_turn", "_law_way"]
abbrev P__law_worth : List Str := ["_law_box_here", "_law_world"]
theorem sc__law_worth : FnScope N__law_worth P__law_worth (defScope s__law_worth) := ⟨rfl, rfl, rfl, by decide +kernel, rfl, by decide +kernel, by decide +kernel⟩
def spWorth : Sp := fun vs H Q _ => ∃ (b d : Addr) (c : Int) (n : Nat), vs = [.ref b, .ref d] ∧ BoxAt H b c ∧ c < 900000 ∧ 1 ≤ n ∧ n < 31 ∧ WorldAt H b d n ∧ ∀ p (xs : List Int) H', H p = none → Keep b H H' → BoxAt H' b (c + 90) → xs.length = (whl n).length - 1 → Bd 1000000000 xs → H' p = some (.tup (xs.map V.int)) → Q (.ref p) H'
section
variable {P : Program} {w : World} {K : PySem.W.Frag} {mg : Str → Option Value} {base : Heap}
theorem ok_worth {f f1 f2 : Addr} {fd d1 d2 : FuncData} {k : Nat} (F : Fun K "_law_worth" "_law_worth" s__law_worth f fd) (T : Blt mg) (D__law_take : Df K mg "_law_take" s__law_take P__law_take f1 d1) (D__law_pick : Df K mg "_law_pick" s__law_pick P__law_pick f2 d2) : FnOk P w K mg base CX0 (k + 3) f fd P__law_worth spWorth := by
  have G__law_take : FnOk P w K mg base CX0 1 f1 d1 P__law_take spTake := ok_take D__law_take.F
  have G__law_pick : FnOk P w K mg base CX0 2 f2 d2 P__law_pick (spPick K) := ok_pick (k := 0) D__law_pick.F T D__law_take
  have nd := sc__law_worth.nd
  refine F.ok sc__law_worth (fun vs H Q E h => ?_) (fun cdv A outer s H vs Q E hr h => ?_)
  · obtain ⟨b, d, c, n, rfl, _⟩ := h
    rfl
  · obtain ⟨b, d, c, n, rfl, hb, hc, n1, n31, hW, q⟩ := h
    refine ⟨_, (pss_cons (ps_if (pt_cmpR op_eq (pe_dget (du hr) (pv 1) (pe_str) (fun _ _ => rfl)) (pe_str) (nomark _)) (pss_cons (ps_set (i := 2) nd rfl (Or.inl rfl) (pe_dget (du hr) (pv 1) (pe_str) (fun _ _ => rfl)))
      (pss_cons (ps_set (i := 3) nd rfl (Or.inl rfl) (pe_lst (pa_cons (pe_int) (pa_cons (pe_op op_mod (pe_int) (pv 2)) (pa_cons (pe_op op_sub (pv 2) (pe_int)) (pa_cons (pe_call G__law_take (hr.mono (by omega)) (by rfl) D__law_take.g D__law_take.F.kp D__law_take.b .nil pass0 (pa_cons (pv 0) (pa_cons (pv 2) pa_nil))) (pa_cons (pe_call G__law_take (hr.mono (by omega)) (by rfl) D__law_take.g D__law_take.F.kp D__law_take.b .nil pass0 (pa_cons (pv 0) (pa_cons (pv 2) pa_nil))) (pa_cons (pe_call G__law_take (hr.mono (by omega)) (by rfl) D__law_take.g D__law_take.F.kp D__law_take.b .nil pass0 (pa_cons (pv 0) (pa_cons (pe_callB (call_min2 rfl) (by rfl) T.b_min (by decide +kernel) (pa_cons (pv 2) (pa_cons (pe_int) pa_nil))) pa_nil))) pa_nil))))))))
      (pss_one (ps_ret (pe_call G__law_pick (hr.mono (by omega)) (by rfl) D__law_pick.g D__law_pick.F.kp D__law_pick.b .nil pass0 (pa_cons (pv 0) (pa_cons (pv 3) pa_nil))))))) pss_nil)
      (pss_cons (ps_set (i := 4) nd rfl (Or.inl rfl) (pe_lst pa_nil))
      (pss_cons (ps_for PassesOwn.never rfl (pi_range1 (by rfl) T.b_range (pa_cons (pe_op op_sub (pe_callB (r := rLenQ K) call_len_seq (by rfl) T.b_len (by decide +kernel) (pa_cons (pe_dget (du hr) (pv 1) (pe_str) (fun _ _ => rfl)) pa_nil)) (pe_int)) pa_nil)) (pg_name (i := 5) nd rfl (Or.inl rfl))
      (pss_cons (ps_set (i := 6) nd rfl (Or.inl rfl) (pe_call G__law_take (hr.mono (by omega)) (by rfl) D__law_take.g D__law_take.F.kp D__law_take.b .nil pass0 (pa_cons (pv 0) (pa_cons (pe_int) pa_nil))))
      (pss_one (ps_expr (pe_bm PySem.F.plainAttrs_list PySem.F.slot_list_append PySem.F.type_list_append mt_append (pv 4) (pa_cons (pe_ix (r := rIxL K) ix_list (pe_lst (pa_cons (pe_int) (pa_cons (pe_int) (pa_cons (pe_un un_neg (pe_int)) (pa_cons (pe_op op_sub (pe_call G__law_take (hr.mono (by omega)) (by rfl) D__law_take.g D__law_take.F.kp D__law_take.b .nil pass0 (pa_cons (pv 0) (pa_cons (pe_int) pa_nil))) (pe_int)) (pa_cons (pe_op op_sub (pe_call G__law_take (hr.mono (by omega)) (by rfl) D__law_take.g D__law_take.F.kp D__law_take.b .nil pass0 (pa_cons (pv 0) (pa_cons (pe_int) pa_nil))) (pe_int)) (pa_cons (pe_op op_pow (pe_int) (pe_int)) (pa_cons (pe_op op_sub (pe_int) (pe_op op_pow (pe_int) (pe_int))) pa_nil)))))))) (pv 6) (fun _ _ => rfl)) pa_nil))))))
      (pss_one (ps_ret (pe_callTy call_tuple_of (by rfl) T.b_tuple (by decide +kernel) (pa_cons (pv 4) pa_nil))))))), ?_⟩
    obtain ⟨l, nlb, ndb, hd, hl⟩ := hW
    obtain ⟨g1, g2, g3⟩ := dget_w hd
    obtain ⟨w2, w31, _⟩ := whl_last n n31 n1
    walk_at "ev"
    w_cond _1
    have g3' := (dget_w (sm1 _ _ hd)).2.2
    have hl1' : SqL K H1 l ((whl n).map V.int) ∨ SqT K H1 l ((whl n).map V.int) := .inl (SqL.of (sm1 _ _ hl))
    have hb1 := hb.same sm1
    have n1b := hb.ne hl1
    have elen : ((((whl n).map V.int).length : Int) - 1) = (((whl n).length - 1 : Nat) : Int) := by rw [List.length_map]; omega
    walk_at "ev"
    refine for_range (lo := 0) (n := _) (fun i σ H' => Hold (∃ (xs : List Int) (s5 s6 : Option V), σ = [some (.ref b), some (.ref d), none, none, some (.ref l1), s5, s6] ∧ xs.length = i ∧ Bd 1000000000 xs ∧ Keep b H H' ∧ BoxAt H' b (c + 3 * (i : Int)) ∧ H' l1 = some (.lst (xs.map V.int)))) (.mk ⟨[], none, none, rfl, rfl, (fun x hx => by cases hx), keepS sm1, hb1.mono (by omega), hq1⟩) ?_ ?_
    · intro i σ H2 hi hP
      obtain ⟨xs, s5, s6, rfl, hxl, hbd, k2, hb2, hq2⟩ := hP.un
      have hi31 : i < 31 := by
        rw [List.length_map] at hi
        omega
      walk_at "ev"
      intro r3 H3 r30 r31 k3 hb3
      have hq3 := k3 _ _ n1b hq2
      have ty3 : tyV K "list" (.ref l1) H3 := .inl ⟨rfl, _, SqL.of hq3⟩
      walk_at "ev"
      intro r4 H4 r40 r41 k4 hb4
      walk_at "ev"
      intro r5 H5 r50 r51 k5 hb5
      walk_at "ev"
      w_cond _6
      have hL6 := SqL.of (K := K) hq6
      have hq16 := sm6 _ _ (k5 _ _ n1b (k4 _ _ n1b hq3))
      have e9 : (10 : Int) ^ Int.toNat 9 = 1000000000 := by decide
      rw [e9] at hL6
      obtain ⟨z, hz, hat⟩ : ∃ z : Int, z.natAbs ≤ 1000000000 ∧ atI [V.int 0, V.int 1, V.int (-1), V.int (r4 - 9), V.int (r5 - 99), V.int 1000000000, V.int (0 - 1000000000)] r3 = some (.int z) := by
        have : r3 = 0 ∨ r3 = 1 ∨ r3 = 2 ∨ r3 = 3 ∨ r3 = 4 ∨ r3 = 5 ∨ r3 = 6 := by omega
        rcases this with z | z | z | z | z | z | z <;> subst z
        · exact ⟨0, by omega, rfl⟩
        · exact ⟨1, by omega, rfl⟩
        · exact ⟨-1, by omega, rfl⟩
        · exact ⟨r4 - 9, by omega, rfl⟩
        · exact ⟨r5 - 99, by omega, rfl⟩
        · exact ⟨1000000000, by omega, rfl⟩
        · exact ⟨0 - 1000000000, by omega, rfl⟩
      have hsz : (xs.map V.int).length < sizeLine := szm (by rw [List.length_map]; omega)
      walk_at "ev"
      refine .mk ⟨xs ++ [z], _, _, rfl, by rw [List.length_append, hxl]; rfl, fun x hx => ?_, keep_fresh (k2.trans (k3.trans (k4.trans (k5.trans (keepS sm6))))) hl1, ((hb5.same sm6).upd n1b).mono (by omega), ?_⟩
      · rcases List.mem_append.mp hx with y | y
        · exact hbd x y
        · rw [List.mem_singleton.mp y]
          exact hz
      · rw [upd_same, List.map_append]
        rfl
    · intro σ H2 hP
      obtain ⟨xs, s5, s6, rfl, hxl, hbd, k2, hb2, hq2⟩ := hP.un
      walk_at "ev"
      refine .inl ⟨SqL.of hq2, ?_⟩
      w_cond _3
      have hm : xs.length = (whl n).length - 1 := by
        rw [hxl, List.length_map]
        omega
      refine q l3 xs H3 (keep_free k2 (hb2.ne hl3) hl3) (k2.trans (keepS sm3)) ((hb2.same sm3).mono ?_) hm hbd hq3
      rw [← hxl, hm]
      omega
end
theorem keep_mk {x dx C : Addr} {H H' : Hp} (hx : H x = none) (hd : H dx = none) (h : Keep x (upd (upd H dx (.own x)) x (.ins C dx [])) H') : Same H H' := fun b o e => by
  have n1 := ne_of_none e hx
  refine h b o n1 ?_
  rw [upd_ne n1, upd_ne (ne_of_none e hd)]
  exact e
theorem same_mk {x dx C : Addr} {H H' : Hp} (hx : H x = none) (hd : H dx = none) (h : Same (upd (upd H dx (.own x)) x (.ins C dx [])) H') : Same H H' := keep_mk (C := C) hx hd (keepS h)
theorem kd_mk {K : PySem.W.Frag} {x dx C : Addr} {H : Hp} {v : V} {t : String} (hx : H x = none) (hd : H dx = none) (h : Kd K H v t) : Kd K (upd (upd H dx (.own x)) x (.ins C dx [])) v t := h.same (same_mk hx hd (Same.refl _))
abbrev s__law_made_of : Stmt := top 26
abbrev N__law_made_of : List Str := ["_law_thing", "_law_found", "_law_caught", "error"]
abbrev P__law_made_of : List Str := ["_law_thing"]
theorem sc__law_made_of : FnScope N__law_made_of P__law_made_of (defScope s__law_made_of) := ⟨rfl, rfl, rfl, by decide +kernel, rfl, by decide +kernel, by decide +kernel⟩
def spMade (K : PySem.W.Frag) (C : Addr) : Sp := fun vs H Q _ => ∃ (v : V) (t : String), vs = [v] ∧ Kd K H v t ∧ (∀ p : Nat, v = .int (p : Int) → 1 ≤ p → p < 31 → ∀ a H', Same H H' → RootAt C H' a p → Q (.ref a) H') ∧
  ((¬ ∃ p : Nat, v = .int (p : Int) ∧ 1 ≤ p ∧ p < 31) → ∀ t H', Same H H' → SqT K H' t [.str "bad", v] → Q (.ref t) H')
section
variable {P : Program} {w : World} {K : PySem.W.Frag} {mg : Str → Option Value} {base : Heap}
theorem ok_made {f f1 C CT CB CL CR fI : Addr} {fd d1 : FuncData} (F : Fun K "_law_made_of" "_law_made_of" s__law_made_of f fd) (T : Blt mg) (MK_Roots : Mk K C f1) (B_Roots___init__ : Binds K d1 P_Roots___init__ []) (G_Roots___init__ : FnOk P w K mg base (L2.CX P w) 7 f1 d1 P_Roots___init__ (spRoI K C CB)) (R : Ref K CT CB fI)
    (M_Roots : mg "Roots" = some (.ref C)) (M_TurnError : mg "TurnError" = some (.ref CT)) (M_BadGround : mg "BadGround" = some (.ref CB)) (M_BadLength : mg "BadLength" = some (.ref CL)) (M_NoRoot : mg "NoRoot" = some (.ref CR))
    (k1 : PySem.W.kitOne K (.ref CB) (.ref CB) = some true) (k2 : PySem.W.kitAny K (.ref CB) [.ref CL, .ref CR] = some false) : FnOk P w K mg base CX0 9 f fd P__law_made_of (spMade K C) := by
  have nd := sc__law_made_of.nd
  refine F.ok sc__law_made_of (fun vs H Q E h => ?_) (fun cdv A outer s H vs Q E hr h => ?_)
  · obtain ⟨v, t, rfl, _⟩ := h
    rfl
  · obtain ⟨v, t, rfl, kd, qy, qn⟩ := h
    refine ⟨_, (pss_cons (ps_asg (pe_tup (pa_cons (pe_non) (pa_cons (pe_non) pa_nil))) (pg_tup (by rfl) (pgs_cons (pg_name (i := 1) nd rfl (Or.inl rfl)) (pgs_cons (pg_name (i := 2) nd rfl (Or.inl rfl)) pgs_nil))))
      (pss_cons (ps_try_keep (i := 3) (Wout := fun _ _ _ _ => False) rfl rfl rfl nd rfl rfl ⟨by rfl, by decide, Or.inl M_TurnError⟩ takes0 (fun W pn xe tk _ => (pss_one (ps_set (i := 1) nd rfl (Or.inl rfl) (pe_makeS MK_Roots G_Roots___init__ (hr.mono (by omega)) (by rfl) M_Roots B_Roots___init__ (fun σ => passAt tk σ) (pa_cons (pv 0) pa_nil))))) (fun a pn => (pss_one (ps_set (i := 2) nd rfl (Or.inl rfl) (pv 3)))))
      (pss_cons (ps_if (pt_cmpR op_isN (pv 2) (pe_non) (nomark _)) (pss_one (ps_ret (pv 1))) pss_nil)
      (pss_cons (ps_if (PW.pt (pw_or (pt_not (pt_val (pe_callB (r := rIsX K) call_isX (by rfl) T.b_isinstance (by decide +kernel) (pa_cons (pv 2) (pa_cons (pe_bltn (v := .ty "ValueError") (by rfl) T.b_ValueError (by decide +kernel) rfl) pa_nil))))) (pw_or1 (pt_val (pe_callB (r := rIsXT K) call_isXT (by rfl) T.b_isinstance (by decide +kernel) (pa_cons (pv 2) (pa_cons (pe_tup (pa_cons (pe_glob (v := .ref _) (by rfl) M_BadLength rfl) (pa_cons (pe_glob (v := .ref _) (by rfl) M_NoRoot rfl) pa_nil))) pa_nil))))))) (pss_one (ps_ret (pe_str))) pss_nil)
      (pss_one (ps_ret (pe_ifExp (pt_val (pe_callB (r := rIsX K) call_isX (by rfl) T.b_isinstance (by decide +kernel) (pa_cons (pv 2) (pa_cons (pe_glob (v := .ref _) (by rfl) M_BadGround rfl) pa_nil)))) (pe_tup (pa_cons (pe_str) (pa_cons (pe_xw (pv 2)) pa_nil))) (pe_str)))))))), ?_⟩
    walk_at "ev"
    intro tp htp
    generalize hG : upd _ tp _ = H1
    obtain ⟨sm1, hq1⟩ := newO hG htp
    have hT1 : SqT K H1 tp [.non, .non] := SqT.of hq1
    clear hG hq1
    walk_at "ev"
    intro x dx hx hd ne
    refine ⟨x, dx, v, t, rfl, upd_same, kd_mk hx hd (kd.same sm1), fun p ep hp1 hp2 H2 k2 hR2 => ⟨rfl, ?_⟩, fun no d H2 hd2 sm2 hq2 => ?_⟩
    · walk_at "ev"
      exact qy p ep hp1 hp2 x _ (sm1.trans (keep_mk hx hd k2)) hR2
    · have sm02 := sm1.trans (same_mk hx hd sm2)
      refine ⟨true, R.em, fun _ => ⟨CB, d, rfl, rfl, fun z hz => ?_⟩, fun z => nomatch z⟩
      have sm3 : Same H2 (upd H2 z (XOb CB d z)) := same_new hz
      have hx3 : XAt (upd H2 z (XOb CB d z)) z CB [(("what" : Str), v)] := ⟨d, upd_same, sm3 _ _ hq2⟩
      have ek := R.ek
      have kv := R.kv
      have nw := R.ek.nw
      walk_at "ev"
      intro t4 ht4
      generalize hG : upd _ t4 _ = H4
      obtain ⟨sm4, hq4⟩ := newO hG ht4
      clear hG
      have hx4 := hx3.same sm4
      walk_at "ev"
      intro t5 ht5
      generalize hG : upd _ t5 _ = H5
      obtain ⟨sm5, hq5⟩ := newO hG ht5
      exact qn no t5 H5 (sm02.trans (sm3.trans (sm4.trans sm5))) (SqT.of hq5)
end
/-! ### small things -/
structure Sm (B k : Nat) (d : PyData) : Prop where
  l : d.canLay0 = true
  s : d.showable = true
  w : dw d ≤ B
  p : d.depth ≤ k
theorem Sm.up {B k B' k' : Nat} {d : PyData} (h : Sm B k d) (e : B ≤ B') (f : k ≤ k') : Sm B' k' d := ⟨h.l, h.s, Nat.le_trans h.w e, Nat.le_trans h.p f⟩
theorem sm_all {B k : Nat} : ∀ {ds : List PyData}, (∀ d ∈ ds, Sm B k d) → PyData.canLayAll0 ds = true ∧ PyData.showableAll ds = true ∧ dwAll ds ≤ (B + 2) * ds.length ∧ PyData.depthAll ds ≤ k
  | [], _ => ⟨by rw [PyData.canLayAll0], by rw [PyData.showableAll], by rw [dwAll]; exact Nat.zero_le _, by rw [PyData.depthAll]; exact Nat.zero_le _⟩
  | d :: r, h => by
    obtain ⟨a, b, c, e⟩ := sm_all fun x hx => h x (List.mem_cons_of_mem _ hx)
    have hd := h d List.mem_cons_self
    refine ⟨by rw [PyData.canLayAll0, hd.l, a]; rfl, by rw [PyData.showableAll, hd.s, b]; rfl, ?_, by rw [PyData.depthAll]; exact Nat.max_le.mpr ⟨hd.p, e⟩⟩
    have := hd.w
    rw [dwAll, List.length_cons, Nat.mul_succ]
    omega
theorem Sm.lst {B k n : Nat} {ds : List PyData} (hn : ds.length ≤ n) (h : ∀ d ∈ ds, Sm B k d) : Sm (6 + (B + 2) * n) (k + 1) (.list ds) := by
  obtain ⟨a, b, c, e⟩ := sm_all h
  have := Nat.mul_le_mul_left (B + 2) hn
  exact ⟨by rw [PyData.canLay0]; exact a, by rw [PyData.showable]; exact b, by rw [dw]; omega, by rw [PyData.depth]; omega⟩
theorem Sm.tup {B k n : Nat} {ds : List PyData} (hn : ds.length ≤ n) (h : ∀ d ∈ ds, Sm B k d) : Sm (6 + (B + 2) * n) (k + 1) (.tuple ds) := by
  obtain ⟨a, b, c, e⟩ := sm_all h
  have := Nat.mul_le_mul_left (B + 2) hn
  exact ⟨by rw [PyData.canLay0]; exact a, by rw [PyData.showable]; exact b, by rw [dw]; omega, by rw [PyData.depth]; omega⟩
theorem Sm.shn {B k : Nat} {d : PyData} (h : Sm B k d) (e : B ≤ 16777216) (f : k ≤ 40) : Shn d := by
  have hz : sizeLine = 16777216 := by decide
  exact ⟨h.s, by have := h.w; omega, Nat.le_trans h.p f⟩
theorem Sm.shaped {B k : Nat} {d : PyData} (h : Sm B k d) (f : k ≤ 64) : SeqAt.shaped d = true := by
  unfold SeqAt.shaped
  rw [h.l, decide_eq_true (Nat.le_trans h.p f)]
  rfl
theorem sm_int {i : Int} (h : i.natAbs ≤ 100000000000) : Sm 13 0 (.int i) := by
  have h1 : PyData.showable (.int i) = true := by
    rw [PyData.showable]
    refine decide_eq_true ?_
    have h1 : i.natAbs < 2 ^ 40 := by
      have : (2 : Nat) ^ 40 = 1099511627776 := by decide
      omega
    by_cases c : i.natAbs = 0
    · rw [c]
      decide
    · exact Nat.lt_trans ((Nat.log2_lt c).mpr h1) (by decide)
  have h2 : (PyData.shown (.int i)).length ≤ 13 := PyData.shown_int_le2 (by omega) (by omega)
  have h3 : dw (.int i) = (PyData.shown (.int i)).length := by rw [dw] <;> nofun
  exact ⟨by rw [PyData.canLay0], h1, by omega, by rw [PyData.depth]; exact Nat.le_refl _⟩
theorem sm_non : Sm 13 0 .none := ⟨by rw [PyData.canLay0], by rw [PyData.showable], by decide +kernel, by rw [PyData.depth]; exact Nat.le_refl _⟩
theorem sm_bl (b : Bool) : Sm 13 0 (.bool b) := ⟨by rw [PyData.canLay0], by rw [PyData.showable], by cases b <;> decide +kernel, by rw [PyData.depth]; exact Nat.le_refl _⟩
theorem sm_e : Sm 13 0 (.str "") := ⟨by decide +kernel, by rw [PyData.showable], by decide +kernel, by rw [PyData.depth]; exact Nat.le_refl _⟩
theorem sm_0 : Sm 13 0 (.str "0") := ⟨by decide +kernel, by rw [PyData.showable], by decide +kernel, by rw [PyData.depth]; exact Nat.le_refl _⟩
abbrev tupD (xs : List Int) : PyData := .tuple (xs.map PyData.int)
theorem dpt {K : PySem.W.Frag} {H : Hp} {a : Addr} {xs : List Int} (h : H a = some (.tup (xs.map V.int))) : Dp K H (.ref a) (tupD xs) := .tup (SqT.of h) (dp_ints xs)
theorem fitt {xs : List Int} (h : xs.length ≤ 4000) : Fit 1 (tupD xs) := by
  refine ⟨by rw [List.length_map]; exact h, fun e he => ?_⟩
  obtain ⟨c, _, rfl⟩ := List.mem_map.mp he
  exact True.intro
theorem smt {xs : List Int} (h : xs.length ≤ 30) (k : Bd 1000000000 xs) : Sm 500 1 (tupD xs) := (Sm.tup (n := 30) (B := 13) (k := 0) (by rw [List.length_map]; exact h) (fun d hd => by
  obtain ⟨i, hi, rfl⟩ := List.mem_map.mp hd
  exact sm_int (Nat.le_trans (k i hi) (by decide)))).up (by omega) (by omega)
theorem pr_bd {n : Nat} {xs ys : List Int} (n31 : n < 31) (hx : xs.length ≤ 30) (hy : ys.length ≤ 30) (bx : Bd 1000000000 xs) (by' : Bd 1000000000 ys) : ∀ z ∈ dvR (whl n) (pmul xs ys), z.natAbs < 2 ^ 400 := by
  intro z hz
  have h1 : Bd (30 * (1000000000 * 1000000000)) (pmul xs ys) := (pmul_bd bx by').up (Nat.mul_le_mul_right _ hx)
  have h2 := dvR_bd h1 (fun x hx => whl_bd1 n n31 x hx) z hz
  have h3 : (pmul xs ys).length ≤ 60 := by rw [pmul_len]; omega
  have h4 : 30 * (1000000000 * 1000000000) * 2 ^ (pmul xs ys).length ≤ 30 * (1000000000 * 1000000000) * 2 ^ 60 := Nat.mul_le_mul_left _ (Nat.pow_le_pow_right (by decide) h3)
  have h5 : 30 * (1000000000 * 1000000000) * 2 ^ 60 < 2 ^ 400 := by decide +kernel
  omega
theorem bd400 {xs : List Int} (k : Bd 1000000000 xs) : ∀ z ∈ xs, z.natAbs < 2 ^ 400 := fun z hz => Nat.lt_of_le_of_lt (k z hz) (by decide +kernel)
theorem fit_up : ∀ {n : Nat} {d : PyData}, Fit n d → Fit (n + 1) d
  | 0, .list _, h => h.elim
  | 0, .tuple _, h => h.elim
  | n + 1, .list ds, h => ⟨h.1, fun e he => fit_up (h.2 e he)⟩
  | n + 1, .tuple ds, h => ⟨h.1, fun e he => fit_up (h.2 e he)⟩
  | 0, .dict _, h => h.elim
  | _ + 1, .dict _, h => h.elim
  | 0, .none, _ => True.intro
  | _ + 1, .none, _ => True.intro
  | 0, .bool _, _ => True.intro
  | _ + 1, .bool _, _ => True.intro
  | 0, .int _, _ => True.intro
  | _ + 1, .int _, _ => True.intro
  | 0, .str _, _ => True.intro
  | _ + 1, .str _, _ => True.intro
theorem intD_all : ∀ ns : List Int, (ns.map PyData.int).all intD = true
  | [] => rfl
  | x :: r => by
    rw [List.map_cons, List.all_cons, intD_all r]
    rfl
/-- what is told of the methods of Roots -/
structure RMs (K : PySem.W.Frag) (C f1 f2 f3 f4 f5 : Addr) (e1 e2 e3 e4 e5 : FuncData) : Prop where
  F1 : Fun K "sum_of" "Roots.sum_of" s_Roots_sum_of f1 e1
  B1 : Binds K e1 P_Roots_sum_of []
  M1 : Meth K C "sum_of" f1
  F2 : Fun K "gap_of" "Roots.gap_of" s_Roots_gap_of f2 e2
  B2 : Binds K e2 P_Roots_gap_of []
  M2 : Meth K C "gap_of" f2
  F3 : Fun K "product_of" "Roots.product_of" s_Roots_product_of f3 e3
  B3 : Binds K e3 P_Roots_product_of []
  M3 : Meth K C "product_of" f3
  F4 : Fun K "is_worth" "Roots.is_worth" s_Roots_is_worth f4 e4
  B4 : Binds K e4 P_Roots_is_worth []
  M4 : Meth K C "is_worth" f4
  F5 : Fun K "worth_of" "Roots.worth_of" s_Roots_worth_of f5 e5
  B5 : Binds K e5 P_Roots_worth_of []
  M5 : Meth K C "worth_of" f5
abbrev s__law_pair_right : Stmt := top 27
abbrev N__law_pair_right : List Str := ["_law_box_here", "_law_ground", "_law_world", "_law_one", "_law_two", "_law_before", "_law_found", "_law_due", "_law_great", "_law_a", "_law_b"]
abbrev P__law_pair_right : List Str := ["_law_box_here", "_law_ground", "_law_world"]
theorem sc__law_pair_right : FnScope N__law_pair_right P__law_pair_right (defScope s__law_pair_right) := ⟨rfl, rfl, rfl, by decide +kernel, rfl, by decide +kernel, by decide +kernel⟩
def spPair (C : Addr) : Sp := fun vs H Q _ => ∃ (b g d : Addr) (c : Int) (n : Nat), vs = [.ref b, .ref g, .ref d] ∧ BoxAt H b c ∧ c < 800000 ∧ 1 ≤ n ∧ n < 31 ∧ RootAt C H g n ∧ WorldAt H b d n ∧ ∀ H', Keep b H H' → BoxAt H' b (c + 180) → Q (.bl true) H'
section
variable {P : Program} {w : World} {K : PySem.W.Frag} {mg : Str → Option Value} {base : Heap}
theorem ok_pair {f f1 f2 f3 f4 f5 a1 a2 a3 a4 a5 a6 a7 a8 a9 C : Addr} {fd e1 e2 e3 e4 e5 d1 d2 d3 d4 d5 d6 d7 d8 d9 : FuncData} (F : Fun K "_law_pair_right" "_law_pair_right" s__law_pair_right f fd) (T : Blt mg) (RC : RootC K C) (RM : RMs K C f1 f2 f3 f4 f5 e1 e2 e3 e4 e5)
    (D__law_same : Df K mg "_law_same" s__law_same P__law_same a1 d1) (D__law_take : Df K mg "_law_take" s__law_take P__law_take a2 d2) (D__law_pick : Df K mg "_law_pick" s__law_pick P__law_pick a3 d3) (D__law_worth : Df K mg "_law_worth" s__law_worth P__law_worth a4 d4) (D__law_poly_times : Df K mg "_law_poly_times" s__law_poly_times P__law_poly_times a5 d5) (D__law_rest_by : Df K mg "_law_rest_by" s__law_rest_by P__law_rest_by a6 d6)
    (D_is_whole : Df K mg "is_whole" s_is_whole P_is_whole a7 d7) (D_divided : Df K mg "divided" s_divided P_divided a8 d8) (D_multiplied : Df K mg "multiplied" s_multiplied P_multiplied a9 d9) : FnG P w K mg base CX0 6 f fd P__law_pair_right (spPair C) := by
  have G__law_same : FnOk P w K mg base CX0 4 a1 d1 P__law_same (spSame K 3) := ok_same D__law_same T 3
  have G__law_worth : FnOk P w K mg base CX0 3 a4 d4 P__law_worth spWorth := ok_worth (k := 0) D__law_worth.F T D__law_take D__law_pick
  have G__law_poly_times : FnOk P w K mg base CX0 1 a5 d5 P__law_poly_times (spPolyT K) := ok_polyT D__law_poly_times.F T
  have G__law_rest_by : FnOk P w K mg base CX0 1 a6 d6 P__law_rest_by (spRest K) := ok_rest D__law_rest_by.F T
  have G_Roots_sum_of : FnOk P w K mg base CX0 1 f1 e1 P_Roots_sum_of (spSumO K) := ok_sum_ofR RM.F1 T
  have G_Roots_gap_of : FnOk P w K mg base CX0 1 f2 e2 P_Roots_gap_of (spGapO K) := ok_gap_ofR RM.F2 T
  have G_Roots_product_of : FnOk P w K mg base CX0 2 f3 e3 P_Roots_product_of (spProdO K C) := ok_prodO (k := 0) RM.F3 T RC D_divided D_multiplied
  have G_Roots_is_worth : FnOk P w K mg base CX0 2 f4 e4 P_Roots_is_worth (spIsW K C) := ok_isW (k := 0) RM.F4 T RC D_is_whole
  have CL_Roots := RC.cl
  have B_Roots_sum_of := RM.B1
  have ME_Roots_sum_of := RM.M1
  have B_Roots_gap_of := RM.B2
  have ME_Roots_gap_of := RM.M2
  have B_Roots_product_of := RM.B3
  have ME_Roots_product_of := RM.M3
  have B_Roots_is_worth := RM.B4
  have ME_Roots_is_worth := RM.M4
  have nd := sc__law_pair_right.nd
  refine okG F sc__law_pair_right (fun vs H Q E h => ?_) (fun cdv A outer s H vs Q E hgd hr h => ?_)
  · obtain ⟨b, g, d, c, n, rfl, _⟩ := h
    rfl
  · obtain ⟨b, g, d, c, n, rfl, hb, hc, n1, n31, hR, hW, q⟩ := h
    refine ⟨_, (pss_cons (ps_par (i := 3) (j := 4) (by rfl) nd rfl rfl (by decide) rfl rfl (pa_cons (pe_call G__law_worth (hr.mono (by omega)) (by rfl) D__law_worth.g D__law_worth.F.kp D__law_worth.b .nil pass0 (pa_cons (pv 0) (pa_cons (pv 2) pa_nil))) (pa_cons (pe_call G__law_worth (hr.mono (by omega)) (by rfl) D__law_worth.g D__law_worth.F.kp D__law_worth.b .nil pass0 (pa_cons (pv 0) (pa_cons (pv 2) pa_nil))) pa_nil)) (by rfl))
      (pss_cons (ps_set (i := 5) nd rfl (Or.inl rfl) (pe_callB (r := rRepG K) (call_reprG hgd hr.units) (by rfl) T.b_repr (by decide +kernel) (pa_cons (pe_lst (pa_cons (pv 3) (pa_cons (pv 4) pa_nil))) pa_nil)))
      (pss_cons (ps_set (i := 6) nd rfl (Or.inl rfl) (pe_lst (pa_cons (pe_meth (pv 1) CL_Roots ME_Roots_sum_of G_Roots_sum_of (hr.mono (by omega)) B_Roots_sum_of .nil pass0 (pa_cons (pv 3) (pa_cons (pv 4) pa_nil))) (pa_cons (pe_meth (pv 1) CL_Roots ME_Roots_gap_of G_Roots_gap_of (hr.mono (by omega)) B_Roots_gap_of .nil pass0 (pa_cons (pv 3) (pa_cons (pv 4) pa_nil))) (pa_cons (pe_meth (pv 1) CL_Roots ME_Roots_product_of G_Roots_product_of (hr.mono (by omega)) B_Roots_product_of .nil pass0 (pa_cons (pv 3) (pa_cons (pv 4) pa_nil))) pa_nil)))))
      (pss_cons (ps_set (i := 7) nd rfl (Or.inl rfl) (pe_lst (pa_cons (pe_callTy call_tuple_of (by rfl) T.b_tuple (by decide +kernel) (pa_cons (pe_lc (own := [("_law_a", 9), ("_law_b", 10)]) (g := gTup K 2 (gCons (gName 9) (gCons (gName 10) gNil))) (by rfl) nd (RZ.pi_zipA (by rfl) T.b_zip (pa_cons (pv 3) (pa_cons (pv 4) pa_nil))) (blkOk_by (own := [("_law_a", 9), ("_law_b", 10)]) (N := N__law_pair_right) (sc := defScope s__law_pair_right) (by decide +kernel)) (fun _ _ _ _ _ => (pg_tup (by rfl) (pgs_cons (pg_name (i := 9) nd rfl (Or.inl rfl)) (pgs_cons (pg_name (i := 10) nd rfl (Or.inl rfl)) pgs_nil)))) (fun _ _ _ _ _ => pts_nil) (fun _ _ _ _ _ => (pe_op op_add (pv 9) (pv 10)))) pa_nil)) (pa_cons (pe_callTy call_tuple_of (by rfl) T.b_tuple (by decide +kernel) (pa_cons (pe_lc (own := [("_law_a", 9), ("_law_b", 10)]) (g := gTup K 2 (gCons (gName 9) (gCons (gName 10) gNil))) (by rfl) nd (RZ.pi_zipA (by rfl) T.b_zip (pa_cons (pv 3) (pa_cons (pv 4) pa_nil))) (blkOk_by (own := [("_law_a", 9), ("_law_b", 10)]) (N := N__law_pair_right) (sc := defScope s__law_pair_right) (by decide +kernel)) (fun _ _ _ _ _ => (pg_tup (by rfl) (pgs_cons (pg_name (i := 9) nd rfl (Or.inl rfl)) (pgs_cons (pg_name (i := 10) nd rfl (Or.inl rfl)) pgs_nil)))) (fun _ _ _ _ _ => pts_nil) (fun _ _ _ _ _ => (pe_op op_sub (pv 9) (pv 10)))) pa_nil)) pa_nil))))
      (pss_cons (ps_expr (pe_bm PySem.F.plainAttrs_list PySem.F.slot_list_append PySem.F.type_list_append mt_append (pv 7) (pa_cons (pe_call G__law_rest_by (hr.mono (by omega)) (by rfl) D__law_rest_by.g D__law_rest_by.F.kp D__law_rest_by.b .nil pass0 (pa_cons (pe_dget (du hr) (pv 2) (pe_str) (fun _ _ => rfl)) (pa_cons (pe_call G__law_poly_times (hr.mono (by omega)) (by rfl) D__law_poly_times.g D__law_poly_times.F.kp D__law_poly_times.b .nil pass0 (pa_cons (pv 3) (pa_cons (pv 4) pa_nil))) pa_nil))) pa_nil)))
      (pss_cons (ps_if (PW.pt (pw_or (pt_not (pt_val (pe_call G__law_same (hr.mono (by omega)) (by rfl) D__law_same.g D__law_same.F.kp D__law_same.b .nil pass0 (pa_cons (pv 6) (pa_cons (pv 7) pa_nil))))) (pw_or1 (pt_cmpR op_ne (pe_callB (r := rRepG K) (call_reprG hgd hr.units) (by rfl) T.b_repr (by decide +kernel) (pa_cons (pe_lst (pa_cons (pv 3) (pa_cons (pv 4) pa_nil))) pa_nil)) (pv 5) (nomark _))))) (pss_one (ps_ret (pe_bl))) pss_nil)
      (pss_cons (ps_set (i := 8) nd rfl (Or.inl rfl) (pe_meth (pv 1) CL_Roots ME_Roots_product_of G_Roots_product_of (hr.mono (by omega)) B_Roots_product_of .nil pass0 (pa_cons (pe_ix (r := rIxL K) ix_list (pv 6) (pe_int) (fun _ _ => rfl)) (pa_cons (pe_ix (r := rIxL K) ix_list (pv 6) (pe_int) (fun _ _ => rfl)) pa_nil))))
      (pss_cons (ps_if (pt_not (pt_val (pe_call G__law_same (hr.mono (by omega)) (by rfl) D__law_same.g D__law_same.F.kp D__law_same.b .nil pass0 (pa_cons (pv 8) (pa_cons (pe_call G__law_rest_by (hr.mono (by omega)) (by rfl) D__law_rest_by.g D__law_rest_by.F.kp D__law_rest_by.b .nil pass0 (pa_cons (pe_dget (du hr) (pv 2) (pe_str) (fun _ _ => rfl)) (pa_cons (pe_call G__law_poly_times (hr.mono (by omega)) (by rfl) D__law_poly_times.g D__law_poly_times.F.kp D__law_poly_times.b .nil pass0 (pa_cons (pe_ix (r := rIxL K) ix_list (pv 6) (pe_int) (fun _ _ => rfl)) (pa_cons (pe_ix (r := rIxL K) ix_list (pv 6) (pe_int) (fun _ _ => rfl)) pa_nil))) pa_nil))) pa_nil))))) (pss_one (ps_ret (pe_bl))) pss_nil)
      (pss_one (ps_ret (pe_call G__law_same (hr.mono (by omega)) (by rfl) D__law_same.g D__law_same.F.kp D__law_same.b .nil pass0 (pa_cons (pe_lst (pa_cons (pe_meth (pv 1) CL_Roots ME_Roots_product_of G_Roots_product_of (hr.mono (by omega)) B_Roots_product_of .nil pass0 (pa_cons (pv 4) (pa_cons (pv 3) pa_nil))) (pa_cons (pe_meth (pv 1) CL_Roots ME_Roots_is_worth G_Roots_is_worth (hr.mono (by omega)) B_Roots_is_worth .nil pass0 (pa_cons (pv 8) pa_nil)) pa_nil))) (pa_cons (pe_lst (pa_cons (pe_ix (r := rIxL K) ix_list (pv 6) (pe_int) (fun _ _ => rfl)) (pa_cons (pe_bl) pa_nil))) pa_nil))))))))))))), ?_⟩
    obtain ⟨w2, w31, wl⟩ := whl_last n n31 n1
    have wb := whl_bnd n n31
    walk_at "ev"
    intro p1 xs H1 hp1 k1 hb1 hxl hxb hq1
    have hR1 := hR.keep hb k1
    have hW1 := hW.keep k1
    have np1 : p1 ≠ b := hb.ne hp1
    walk_at "ev"
    intro p2 ys H2 hp2 k2 hb2 hyl hyb hq2
    have hR2 := hR1.keep hb1 k2
    have hW2 := hW1.keep k2
    have hxq := k2 _ _ np1 hq1
    walk_at "ev"
    w_cond _3
    have hx3 := sm3 _ _ hxq
    have hy3 := sm3 _ _ hq2
    have hd3 : Dp K H3 (.ref l3) (.list [tupD xs, tupD ys]) := .lst (SqL.of hq3) (.cons (dpt hx3) (.cons (dpt hy3) .nil))
    have hsn : Shn (.list [tupD xs, tupD ys]) := (Sm.lst (n := 2) (B := 500) (k := 1) (by show 2 ≤ 2; decide) (fun e he => by
      simp only [List.mem_cons, List.not_mem_nil, or_false] at he
      rcases he with z | z <;> rw [z]
      · exact smt (by omega) hxb
      · exact smt (by omega) hyb)).shn (by omega) (by omega)
    obtain ⟨dx, rm, hga, hgr⟩ := hR2
    have hga3 := sm3 _ _ hga
    have hX3 := SqT.of (K := K) hx3
    have hY3 := SqT.of (K := K) hy3
    have hle : xs.length = ys.length := by omega
    have hxl100 : xs.length ≤ 100 := by omega
    have hyl100 : ys.length ≤ 100 := by omega
    walk_at "ev"
    intro p4 H4 hp4 sm4 hq4
    have hga4 := sm4 _ _ hga3
    have hX4 := same_t sm4 hX3
    have hY4 := same_t sm4 hY3
    walk_at "ev"
    intro p5 H5 hp5 sm5 hq5
    have hga5 := sm5 _ _ hga4
    have hX5 := same_t sm5 hX4
    have hY5 := same_t sm5 hY4
    have hR5 : RootAt C H5 g n := ⟨dx, rm, hga5, (sm3.trans (sm4.trans sm5)) _ _ hgr⟩
    have hx1 : 1 ≤ xs.length := by omega
    have hy1 : 1 ≤ ys.length := by omega
    have hx400 := bd400 hxb
    have hy400 := bd400 hyb
    walk_at "ev"
    intro p6 H6 hp6 sm6 hq6
    walk_at "ev"
    w_cond _7
    have hX7 := same_t (sm6.trans sm7) hX5
    have hY7 := same_t (sm6.trans sm7) hY5
    walk_at "ev"
    refine .inr ⟨hX7, hY7, fun DA hDA => ?_⟩
    refine lc_pairs (xs := xs.map V.int) (ys := ys.map V.int) (fun i H' => Hold (Same H7 H' ∧ H' DA = some (.lst (((List.zipWith (· + ·) xs ys).take i).map V.int)))) (.mk ⟨same_new hDA, upd_same⟩) ?_ ?_ ?_ ?_ ?_
    · intro i H' hP hi
      obtain ⟨sm2, hD2⟩ := hP.un
      have hi2 : i < (ys.map V.int).length := by rw [List.length_map] at *; omega
      exact ⟨_, _, _, _, same_t sm2 hX7, same_t sm2 hY7, List.getElem?_eq_getElem hi, List.getElem?_eq_getElem hi2⟩
    · intro i H' v H'' hP hi yl
      obtain ⟨sm2, hD2⟩ := hP.un
      obtain ⟨T, x', y', e1, e2, e3, f1, f2⟩ := yl
      exact ⟨T, x', y', e1, e2, e3, f1 _ (same_t sm2 hX7), f2 _ (same_t sm2 hY7)⟩
    · intro H' hP
      obtain ⟨sm2, hD2⟩ := hP.un
      exact ⟨_, _, same_t sm2 hX7, same_t sm2 hY7, .inl (Nat.le_refl _)⟩
    · intro i x' y' T' H' H'' hx' hy' hP hT e
      obtain ⟨sm2, hD2⟩ := hP.un
      obtain ⟨sm3, hT3⟩ := newO e.symm hT
      have hT4 : SqT K H'' T' [x', y'] := SqT.of hT3
      rw [List.getElem?_map] at hx' hy'
      obtain ⟨u, hu, eu⟩ := Option.map_eq_some_iff.mp hx'
      obtain ⟨v, hv, ev⟩ := Option.map_eq_some_iff.mp hy'
      subst eu ev
      have hil : i < xs.length := (List.getElem?_eq_some_iff.mp hu).1
      have hsz : (((List.zipWith (· + ·) xs ys).take i).map V.int).length < sizeLine := szm (by rw [List.length_map, List.length_take]; omega)
      have hD3 := sm3 _ _ hD2
      walk_at "ev"
      refine .mk ⟨same_mut (sm2.trans sm3) hDA, ?_⟩
      rw [upd_same, List.take_add_one, List.getElem?_zipWith, hu, hv, List.map_append]
      rfl
    intro H8 hP8
    obtain ⟨sm8, hD8⟩ := hP8.un
    have ez : (List.zipWith (· + ·) xs ys).length = (xs.map V.int).length := by rw [List.length_zipWith, List.length_map]; omega
    rw [← ez, List.take_length] at hD8
    walk_at "ev"
    refine .inl ⟨SqL.of hD8, ?_⟩
    w_cond _9
    have hX9 := same_t (sm8.trans sm9) hX7
    have hY9 := same_t (sm8.trans sm9) hY7
    walk_at "ev"
    refine .inr ⟨hX9, hY9, fun DB hDB => ?_⟩
    refine lc_pairs (xs := xs.map V.int) (ys := ys.map V.int) (fun i H' => Hold (Same H9 H' ∧ H' DB = some (.lst (((List.zipWith (· - ·) xs ys).take i).map V.int)))) (.mk ⟨same_new hDB, upd_same⟩) ?_ ?_ ?_ ?_ ?_
    · intro i H' hP hi
      obtain ⟨sm2, hD2⟩ := hP.un
      have hi2 : i < (ys.map V.int).length := by rw [List.length_map] at *; omega
      exact ⟨_, _, _, _, same_t sm2 hX9, same_t sm2 hY9, List.getElem?_eq_getElem hi, List.getElem?_eq_getElem hi2⟩
    · intro i H' v H'' hP hi yl
      obtain ⟨sm2, hD2⟩ := hP.un
      obtain ⟨T, x', y', e1, e2, e3, f1, f2⟩ := yl
      exact ⟨T, x', y', e1, e2, e3, f1 _ (same_t sm2 hX9), f2 _ (same_t sm2 hY9)⟩
    · intro H' hP
      obtain ⟨sm2, hD2⟩ := hP.un
      exact ⟨_, _, same_t sm2 hX9, same_t sm2 hY9, .inl (Nat.le_refl _)⟩
    · intro i x' y' T' H' H'' hx' hy' hP hT e
      obtain ⟨sm2, hD2⟩ := hP.un
      obtain ⟨sm3, hT3⟩ := newO e.symm hT
      have hT4 : SqT K H'' T' [x', y'] := SqT.of hT3
      rw [List.getElem?_map] at hx' hy'
      obtain ⟨u, hu, eu⟩ := Option.map_eq_some_iff.mp hx'
      obtain ⟨v, hv, ev⟩ := Option.map_eq_some_iff.mp hy'
      subst eu ev
      have hil : i < xs.length := (List.getElem?_eq_some_iff.mp hu).1
      have hsz : (((List.zipWith (· - ·) xs ys).take i).map V.int).length < sizeLine := szm (by rw [List.length_map, List.length_take]; omega)
      have hD3 := sm3 _ _ hD2
      walk_at "ev"
      refine .mk ⟨same_mut (sm2.trans sm3) hDB, ?_⟩
      rw [upd_same, List.take_add_one, List.getElem?_zipWith, hu, hv, List.map_append]
      rfl
    intro H10 hP10
    obtain ⟨sm10, hD10⟩ := hP10.un
    have ez2 : (List.zipWith (· - ·) xs ys).length = (xs.map V.int).length := by rw [List.length_zipWith, List.length_map]; omega
    rw [← ez2, List.take_length] at hD10
    walk_at "ev"
    refine .inl ⟨SqL.of hD10, ?_⟩
    w_cond _11
    walk_at "ev"
    w_cond _12
    have s712 := sm8.trans (sm9.trans (sm10.trans (sm11.trans sm12)))
    have hW12 := (((hW2.same sm3).same (sm4.trans (sm5.trans (sm6.trans sm7)))).same s712)
    obtain ⟨l, nlb, ndb, hwd, hwl⟩ := hW12
    obtain ⟨_, _, g3⟩ := dget_w hwd
    have hX12 := same_t (sm10.trans (sm11.trans sm12)) hX9
    have hY12 := same_t (sm10.trans (sm11.trans sm12)) hY9
    have ty12 : tyV K "list" (.ref l12) H12 := .inl ⟨rfl, _, SqL.of hq12⟩
    have hx1000 : xs.length ≤ 1000 := by omega
    have hy1000 : ys.length ≤ 1000 := by omega
    walk_at "ev"
    intro p13 H13 hp13 sm13 hq13
    have hL13 := SqL.of (K := K) (sm13 _ _ hwl)
    have hP13 := SqL.of (K := K) hq13
    have w1000 : (whl n).length ≤ 1000 := by omega
    have pl1000 : (pmul xs ys).length ≤ 1000 := by rw [pmul_len]; omega
    walk_at "ev"
    intro p14 H14 hp14 sm14 hq14
    have hq12' := (sm13.trans sm14) _ _ hq12
    have zz : ([V.ref l9, V.ref l11] : List V).length < sizeLine := szm (by show 2 ≤ 60000; decide)
    walk_at "ev"
    generalize hG : upd H14 l12 _ = H15
    obtain ⟨k15, hq15⟩ := mutO hG
    have s1115 : Same H11 H15 := by rw [← hG]; exact same_mut (sm12.trans (sm13.trans sm14)) hl12
    clear hG
    have n1412 : p14 ≠ l12 := (ne_of_none (sm13 _ _ hq12) hp14).symm
    have hq14' := k15 _ _ n1412 hq14
    have s715 : Same H7 H15 := sm8.trans (sm9.trans (sm10.trans (sm11.trans s1115)))
    have s615 := sm7.trans s715
    have s515 := sm6.trans s615
    have s415 := sm5.trans s515
    have s315 := sm4.trans s415
    have s215 := sm3.trans s315
    have hdA : Dp K H15 (.ref l7) (.list [tupD (List.zipWith (· + ·) xs ys), tupD (List.zipWith (· - ·) xs ys), tupD (dvR (whl n) (pmul xs ys))]) := .lst (SqL.of (s715 _ _ hq7)) (.cons (dpt (s415 _ _ hq4)) (.cons (dpt (s515 _ _ hq5)) (.cons (dpt (s615 _ _ hq6)) .nil)))
    have hdB : Dp K H15 (.ref l12) (.list [tupD (List.zipWith (· + ·) xs ys), tupD (List.zipWith (· - ·) xs ys), tupD (dvR (whl n) (pmul xs ys))]) := .lst (SqL.of hq15) (.cons (dpt ((sm10.trans (sm11.trans s1115)) _ _ hq9)) (.cons (dpt (s1115 _ _ hq11)) (.cons (dpt hq14') .nil)))
    have hprl : (dvR (whl n) (pmul xs ys)).length ≤ 30 := by rw [dvR_len]; omega
    have hprl1 : 1 ≤ (dvR (whl n) (pmul xs ys)).length := by rw [dvR_len]; omega
    have hft : Fit 3 (.list [tupD (List.zipWith (· + ·) xs ys), tupD (List.zipWith (· - ·) xs ys), tupD (dvR (whl n) (pmul xs ys))]) := by
      refine ⟨by show 3 ≤ 4000; decide, fun e he => fit_up ?_⟩
      simp only [List.mem_cons, List.not_mem_nil, or_false] at he
      rcases he with z | z | z <;> rw [z]
      · exact fitt (by rw [List.length_zipWith]; omega)
      · exact fitt (by rw [List.length_zipWith]; omega)
      · exact fitt (by omega)
    walk_at "ev"
    intro H16 sm16
    walk_at "ev"
    w_cond _17
    have s217 := s215.trans (sm16.trans sm17)
    have hd17 : Dp K H17 (.ref l17) (.list [tupD xs, tupD ys]) := .lst (SqL.of hq17) (.cons (dpt (s217 _ _ hxq)) (.cons (dpt (s217 _ _ hq2)) .nil))
    have hF17 := SqL.of (K := K) ((s715.trans (sm16.trans sm17)) _ _ hq7)
    have at2 : atI [V.ref p4, V.ref p5, V.ref p6] 2 = some (.ref p6) := rfl
    have hga17 := s217 _ _ hga
    have hR17 : RootAt C H17 g n := ⟨dx, rm, hga17, s217 _ _ hgr⟩
    have s617 := s615.trans (sm16.trans sm17)
    have hZ17 := SqT.of (K := K) (s617 _ _ hq6)
    have hpr400 := pr_bd n31 (by omega) (by omega) hxb hyb
    have hprl100 : (dvR (whl n) (pmul xs ys)).length ≤ 100 := by omega
    walk_at "ev"
    generalize hpr : dvR (whl n) (pmul xs ys) = pr at *
    intro p18 H18 hp18 sm18 hq18
    have s218 := s217.trans sm18
    have hW18 := hW2.same s218
    obtain ⟨l', nlb', ndb', hwd', hwl'⟩ := hW18
    obtain ⟨_, _, g3'⟩ := dget_w hwd'
    have hF18 := sm18.seq hF17
    have hZ18 := same_t sm18 hZ17
    have hprl1000 : pr.length ≤ 1000 := by omega
    walk_at "ev"
    intro p19 H19 hp19 sm19 hq19
    have hL19 := SqL.of (K := K) (sm19 _ _ hwl')
    have hP19 := SqL.of (K := K) hq19
    have pl1000' : (pmul pr pr).length ≤ 1000 := by rw [pmul_len]; omega
    walk_at "ev"
    intro p20 H20 hp20 sm20 hq20
    have hgl : (dvR (whl n) (pmul pr pr)).length ≤ 30 := by rw [dvR_len]; omega
    have hdG : Dp K H20 (.ref p18) (tupD (dvR (whl n) (pmul pr pr))) := dpt ((sm19.trans sm20) _ _ hq18)
    have hdG2 : Dp K H20 (.ref p20) (tupD (dvR (whl n) (pmul pr pr))) := dpt hq20
    have hfG : Fit 3 (tupD (dvR (whl n) (pmul pr pr))) := fit_up (fit_up (fitt (by omega)))
    walk_at "ev"
    intro H21 sm21
    have s221 := s218.trans (sm19.trans (sm20.trans sm21))
    have hga21 := s221 _ _ hga
    have hR21 : RootAt C H21 g n := ⟨dx, rm, hga21, s221 _ _ hgr⟩
    have hX21 := SqT.of (K := K) (s221 _ _ hxq)
    have hY21 := SqT.of (K := K) (s221 _ _ hq2)
    walk_at "ev"
    intro p22 H22 hp22 sm22 hq22
    rw [pmul_comm (by omega) (by omega), hpr] at hq22
    have s222 := s221.trans sm22
    have hga22 := s222 _ _ hga
    have hR22 : RootAt C H22 g n := ⟨dx, rm, hga22, s222 _ _ hgr⟩
    have hdG22 := dp_same (sm21.trans sm22) hdG
    have htl : ∀ ds, tupD (dvR (whl n) (pmul pr pr)) = .tuple ds → ds.length ≤ 100 := fun ds e => by
      rw [← PyData.tuple.inj e, List.length_map]
      omega
    have hisw : isW ((whl n).length - 1) (tupD (dvR (whl n) (pmul pr pr))) = true := by
      show (decide (_ = _) && _) = true
      rw [List.length_map, dvR_len, decide_eq_true rfl, intD_all]
      rfl
    walk_at "ev"
    intro H23 sm23
    rw [hisw]
    walk_at "ev"
    w_cond _24
    have hF24 := (sm19.trans (sm20.trans (sm21.trans (sm22.trans (sm23.trans sm24))))).seq hF18
    walk_at "ev"
    w_cond _25
    have s1725 := sm18.trans (sm19.trans (sm20.trans (sm21.trans (sm22.trans (sm23.trans (sm24.trans sm25))))))
    have hdP : Dp K H25 (.ref l24) (.list [tupD pr, .bool true]) := .lst (SqL.of (sm25 _ _ hq24)) (.cons (dpt ((sm23.trans (sm24.trans sm25)) _ _ hq22)) (.cons (.bl true) .nil))
    have hdQ : Dp K H25 (.ref l25) (.list [tupD pr, .bool true]) := .lst (SqL.of hq25) (.cons (dpt ((s617.trans s1725) _ _ hq6)) (.cons (.bl true) .nil))
    have hfP : Fit 3 (.list [tupD pr, .bool true]) := by
      refine ⟨by show 2 ≤ 4000; decide, fun e he => fit_up ?_⟩
      simp only [List.mem_cons, List.not_mem_nil, or_false] at he
      rcases he with z | z <;> rw [z]
      · exact fitt (by omega)
      · exact True.intro
    walk_at "ev"
    intro H26 sm26
    have s226 := s217.trans (s1725.trans sm26)
    exact q _ (k1.trans (k2.trans (keepS s226))) ((hb2.same s226).mono (by omega))
end
section
open PySem.Spec PyProof.Rows
/-- t * k and t + u, whatever comes: a tuple, new or not -/
def rRepB (K : PySem.W.Frag) : R2 := fun x y H Q => ∃ l k xs, x = .ref l ∧ y = .int k ∧ SqT K H l xs ∧ xs ≠ [] ∧ -1000 ≤ k ∧ k ≤ 1000 ∧ xs.length ≤ 1000 ∧ ∀ p H', Same H H' → SqT K H' p (List.replicate k.toNat xs).flatten → Q (.ref p) H'
theorem op_repB {X : Cx} : OpR X (binaryOp .Mult) (rRepB X.K) := by
  intro pins s σ H x y v u Q I rx ry h
  obtain ⟨l, k, xs, e1, e2, hT, hne, h1, h2, hz, q⟩ := h
  refine op_repA pins s σ H x y v u Q I rx ry ⟨l, k, xs, e1, e2, hT, hne, h1, h2, hz, fun e => ?_, fun e p hp => q p _ (same_new hp) (SqT.of upd_same)⟩
  subst e
  refine q l H (Same.refl _) ?_
  have z : (List.replicate (1 : Int).toNat xs).flatten = xs := by
    show xs ++ [] = xs
    exact List.append_nil xs
  rw [z]
  exact hT
def rCatB (K : PySem.W.Frag) : R2 := fun x y H Q => ∃ a b xs ys, x = .ref a ∧ y = .ref b ∧ SqT K H a xs ∧ SqT K H b ys ∧ xs.length + ys.length ≤ sizeLine ∧ ∀ p H', Same H H' → SqT K H' p (xs ++ ys) → Q (.ref p) H'
theorem op_catB {X : Cx} : OpR X (binaryOp .Add) (rCatB X.K) := by
  intro pins s σ H x y v u Q I rx ry h
  obtain ⟨a, b, xs, ys, e1, e2, ha, hb, hz, q⟩ := h
  refine op_catA pins s σ H x y v u Q I rx ry ⟨a, b, xs, ys, e1, e2, ha, hb, hz, fun e => ?_, fun _ e => ?_, fun _ _ p hp => q p _ (same_new hp) (SqT.of upd_same)⟩
  · refine q b H (Same.refl _) ?_
    rw [e]
    exact hb
  · refine q a H (Same.refl _) ?_
    rw [e, List.append_nil]
    exact ha
end
theorem rep1 {k : Nat} {v : V} : (List.replicate (k : Int).toNat [v]).flatten = List.replicate k v := by
  rw [Int.toNat_natCast]
  exact rep_flat
/-- a thing that is no worth -/
def Nw (K : PySem.W.Frag) (H : Hp) (m : Nat) (v : V) : Prop := ∃ d, Dp K H v d ∧ isW m d = false ∧ ∀ ds, d = .tuple ds → ds.length ≤ 100
theorem Nw.same {K : PySem.W.Frag} {H H' : Hp} {m : Nat} {v : V} (h : Nw K H m v) (e : Same H H') : Nw K H' m v := by
  obtain ⟨d, h1, h2, h3⟩ := h
  exact ⟨d, dp_same e h1, h2, h3⟩
theorem dp_zeros {K : PySem.W.Frag} {H : Hp} : ∀ k : Nat, DpAll K H (List.replicate k (V.int 0)) (List.replicate k (PyData.int 0))
  | 0 => .nil
  | k + 1 => .cons (.int 0) (dp_zeros k)
theorem dp_app {K : PySem.W.Frag} {H : Hp} : ∀ {xs : List V} {ds : List PyData} {ys : List V} {es : List PyData}, DpAll K H xs ds → DpAll K H ys es → DpAll K H (xs ++ ys) (ds ++ es)
  | _, _, _, _, .nil, h => h
  | _, _, _, _, .cons a q, h => .cons a (dp_app q h)
theorem del_le {H : Hp} {D : Addr} : Same (delH H D) H := fun a o e => by
  unfold delH at e
  split at e
  · cases e
  · exact e
theorem del_mono {H H1 : Hp} {D : Addr} (h : Same H H1) : Same (delH H D) (delH H1 D) := fun a o e => by
  unfold delH at *
  split at e
  · cases e
  · rename_i c
    rw [if_neg c]
    exact h a o e
theorem del_upd {H : Hp} {D : Addr} {o : HO} : Same (delH H D) (delH (upd H D o) D) := fun a u e => by
  unfold delH at *
  split at e
  · cases e
  · rename_i c
    rw [if_neg c, upd_ne c]
    exact e
theorem sqt_del {K : PySem.W.Frag} {H : Hp} {D a : Addr} {xs ys : List V} (hD : H D = some (.lst ys)) (h : SqT K H a xs) : SqT K (delH H D) a xs := by
  rcases h with (h | ⟨o, h⟩) | h
  · refine .inl (.inl ?_)
    rw [delH_ne (fun z => by rw [z, hD] at h; cases h)]
    exact h
  · refine .inl (.inr ⟨o, ?_⟩)
    rw [delH_ne (fun z => by rw [z, hD] at h; cases h)]
    exact h
  · exact .inr h
/-- a tuple of another length, or with another thing in it -/
theorem nw_tup {K : PySem.W.Frag} {H : Hp} {m : Nat} {a : Addr} {xs : List V} {ds : List PyData} (h : SqT K H a xs) (hd : DpAll K H xs ds) (hl : ds.length ≤ 100) (no : ds.length ≠ m ∨ ∃ d ∈ ds, intD d = false) : Nw K H m (.ref a) := by
  refine ⟨_, .tup h hd, ?_, fun es e => by rw [← PyData.tuple.inj e]; exact hl⟩
  show (decide (ds.length = m) && ds.all intD) = false
  rcases no with z | ⟨d, hd, e⟩
  · rw [decide_eq_false z]
    rfl
  · have : ds.all intD = false := List.all_eq_false.mpr ⟨d, hd, by rw [e]; decide⟩
    rw [this, Bool.and_false]
theorem nw_base {K : PySem.W.Frag} {H : Hp} {m : Nat} : Nw K H m .non ∧ (∀ i, Nw K H m (.int i)) ∧ ∀ x, Nw K H m (.str x) :=
  ⟨⟨_, .non, rfl, fun ds e => by cases e⟩, fun i => ⟨_, .int i, rfl, fun ds e => by cases e⟩, fun x => ⟨_, .str x, rfl, fun ds e => by cases e⟩⟩
theorem ints_zeros (k : Nat) : (List.replicate k (PyData.int 0)).all intD = true := by
  induction k with
  | zero => rfl
  | succ k ih =>
    rw [List.replicate_succ, List.all_cons, ih]
    rfl
abbrev s__law_things_right : Stmt := top 28
abbrev N__law_things_right : List Str := ["_law_ground", "_law_world", "_law_number", "_law_size", "_law_zeros", "_law_thing", "_law_some", "_law_odd", "_law_at"]
abbrev P__law_things_right : List Str := ["_law_ground", "_law_world", "_law_number"]
theorem sc__law_things_right : FnScope N__law_things_right P__law_things_right (defScope s__law_things_right) := ⟨rfl, rfl, rfl, by decide +kernel, rfl, by decide +kernel, by decide +kernel⟩
section
variable {P : Program} {w : World} {K : PySem.W.Frag} {mg : Str → Option Value} {base : Heap}
theorem any_false : ∀ n : Nat, (List.replicate n false).any id = false
  | 0 => rfl
  | n + 1 => by
    rw [List.replicate_succ, List.any_cons, any_false n]
    rfl
theorem things_tl {f f4 a7 C : Addr} {e4 d7 : FuncData} {A : Around} {outer : List Env} {s : Shared} {H : Hp} {Q : VK} {E : XK} {cdv : Value} (T : Blt mg) (hr : Room 4 (A.deeper (PyProof.Rows.envOfC "_law_things_right" (defScope s__law_things_right) s.heap.objs.size f cdv))) (RC : RootC K C)
    (F4 : Fun K "is_worth" "Roots.is_worth" s_Roots_is_worth f4 e4) (B_Roots_is_worth : Binds K e4 P_Roots_is_worth []) (ME_Roots_is_worth : Meth K C "is_worth" f4) (D_is_whole : Df K mg "is_whole" s_is_whole P_is_whole a7 d7) :
    ∃ tl, PSs (cxOf CX0 P w K mg base N__law_things_right "_law_things_right" (defScope s__law_things_right) f cdv A outer s H E).nox ((defBody s__law_things_right).drop 7) tl ∧
      ∀ (g ls lo : Addr) (n : Nat) (SL OL : List V) (H3 : Hp) (x1 x2 x3 x4 x5 : Option V), 1 ≤ n → n < 31 → RootAt C H3 g n → H3 ls = some (.lst SL) → H3 lo = some (.lst OL) → SL.length ≤ 100 → OL.length ≤ 100 → (∀ v ∈ SL ++ OL, Nw K H3 ((whl n).length - 1) v) → (∀ H', Same H3 H' → Q (.bl true) H') →
        tl { nx := fun _ H' => Q .non H', rt := Q } [some (.ref g), x1, x2, x3, x4, x5, some (.ref ls), some (.ref lo), none] H3 := by
  have G_Roots_is_worth : FnOk P w K mg base CX0 2 f4 e4 P_Roots_is_worth (spIsW K C) := ok_isW (k := 0) F4 T RC D_is_whole
  have CL_Roots := RC.cl
  have nd := sc__law_things_right.nd
  refine ⟨_, (pss_one (ps_ret (pe_not (pe_callB (r := rAny K) (cr_any rfl) (by rfl) T.b_any (by decide +kernel) (pa_cons (pe_lc (own := [("_law_thing", 5)]) (g := gName 5) (by rfl) nd (pi_list (pe_op op_cat (pv 6) (pv 7))) (blkOk_by (own := [("_law_thing", 5)]) (N := N__law_things_right) (sc := defScope s__law_things_right) (by decide +kernel)) (fun _ _ _ _ _ => (pg_name (i := 5) nd rfl (Or.inl rfl))) (fun _ _ _ _ _ => pts_nil) (fun _ _ _ _ _ => (pe_cmpR op_notBl (pe_meth (pv 0) CL_Roots ME_Roots_is_worth G_Roots_is_worth (hr.mono (by omega)) B_Roots_is_worth .nil pass0 (pa_cons (pv 5) pa_nil)) (pe_bl) (nomark _)))) pa_nil))))), ?_⟩
  intro g ls lo n SL OL H3 x1 x2 x3 x4 x5 n1 n31 hR hls hlo hs ho hall q
  have hz : SL.length + OL.length ≤ sizeLine := szl (by omega)
  walk_at "ev"
  w_cond _4
  have hL4 := SqL.of (K := K) hq4
  obtain ⟨dx, rm, hga, hgr⟩ := hR
  have hL' : ∃ xs, SqL K H4 l4 xs := ⟨_, hL4⟩
  walk_at "ev"
  intro D hD
  refine lc_list (K := K) (a := l4) (xs := SL ++ OL) (fun j H' => Hold (Same H4 H' ∧ H' D = some (.lst ((List.replicate j false).map V.bl)))) (.mk ⟨same_new hD, upd_same⟩) ?_ ?_ ?_
  · intro j H5 hj hP
    obtain ⟨sm5, hD5⟩ := hP.un
    exact sm5.seq hL4
  · intro j v H5 hv hP
    obtain ⟨sm5, hD5⟩ := hP.un
    obtain ⟨d, hd, hno, hdl⟩ := hall v (List.mem_of_getElem? hv)
    have s35 := sm4.trans sm5
    have hga5 := s35 _ _ hga
    have hR5 : RootAt C H5 g n := ⟨dx, rm, hga5, s35 _ _ hgr⟩
    have hd5 := dp_same s35 hd
    have hjl : j < SL.length + OL.length := by
      have := (List.getElem?_eq_some_iff.mp hv).1
      rw [List.length_append] at this
      exact this
    walk_at "ev"
    intro H6 sm6
    rw [hno]
    have hD6 := sm6 _ _ hD5
    have hsz : ((List.replicate j false).map V.bl).length < sizeLine := szm (by rw [List.length_map, List.length_replicate]; omega)
    walk_at "ev"
    refine .mk ⟨same_mut (sm5.trans sm6) hD, ?_⟩
    rw [upd_same, List.replicate_succ', List.map_append]
    rfl
  · intro H5 hP
    obtain ⟨sm5, hD5⟩ := hP.un
    refine ⟨D, _, rfl, SqL.of hD5, ?_⟩
    rw [any_false]
    walk_at "ev"
    exact q _ (sm4.trans sm5)
end
def spThings (C : Addr) : Sp := fun vs H Q _ => ∃ (b g d : Addr) (n : Nat) (i : Int), vs = [.ref g, .ref d, .int i] ∧ 1 ≤ n ∧ n < 31 ∧ RootAt C H g n ∧ WorldAt H b d n ∧ ∀ H', Same H H' → Q (.bl true) H'
section
variable {P : Program} {w : World} {K : PySem.W.Frag} {mg : Str → Option Value} {base : Heap}
theorem ok_things {f f1 f2 f3 f4 f5 a1 a7 a8 C : Addr} {fd e1 e2 e3 e4 e5 d1 d7 d8 : FuncData} (F : Fun K "_law_things_right" "_law_things_right" s__law_things_right f fd) (T : Blt mg) (RC : RootC K C) (RM : RMs K C f1 f2 f3 f4 f5 e1 e2 e3 e4 e5)
    (D__law_same : Df K mg "_law_same" s__law_same P__law_same a1 d1) (D_is_whole : Df K mg "is_whole" s_is_whole P_is_whole a7 d7) (D_divided : Df K mg "divided" s_divided P_divided a8 d8) : FnOk P w K mg base CX0 5 f fd P__law_things_right (spThings C) := by
  have G__law_same : FnOk P w K mg base CX0 4 a1 d1 P__law_same (spSame K 3) := ok_same D__law_same T 3
  have G_Roots_is_worth : FnOk P w K mg base CX0 2 f4 e4 P_Roots_is_worth (spIsW K C) := ok_isW (k := 0) RM.F4 T RC D_is_whole
  have G_Roots_worth_of : FnOk P w K mg base CX0 2 f5 e5 P_Roots_worth_of (spWorO K C) := ok_worO (k := 0) RM.F5 T RC D_divided
  have CL_Roots := RC.cl
  have B_Roots_is_worth := RM.B4
  have ME_Roots_is_worth := RM.M4
  have B_Roots_worth_of := RM.B5
  have ME_Roots_worth_of := RM.M5
  have nd := sc__law_things_right.nd
  refine F.ok sc__law_things_right (fun vs H Q E h => ?_) (fun cdv A outer s H vs Q E hr h => ?_)
  · obtain ⟨b, g, d, n, i, rfl, _⟩ := h
    rfl
  · obtain ⟨b, g, d, n, i, rfl, n1, n31, hR, hW, q⟩ := h
    obtain ⟨tl, htl, fin⟩ := things_tl (P := P) (w := w) (base := base) (outer := outer) (H := H) (Q := Q) (E := E) T hr RC RM.F4 RM.B4 RM.M4 D_is_whole
    refine ⟨_, (pss_cons (ps_set (i := 3) nd rfl (Or.inr rfl) (pe_op op_sub (pe_callB (r := rLenQ K) call_len_seq (by rfl) T.b_len (by decide +kernel) (pa_cons (pe_dget (du hr) (pv 1) (pe_str) (fun _ _ => rfl)) pa_nil)) (pe_int)))
      (pss_cons (ps_set (i := 4) nd rfl (Or.inl rfl) (pe_op (r := rRepB K) op_repB (pe_tup (pa_cons (pe_int) pa_nil)) (pe_op op_sub (pv 3) (pe_int))))
      (pss_cons (ps_if (pt_not (pt_val (pe_call G__law_same (hr.mono (by omega)) (by rfl) D__law_same.g D__law_same.F.kp D__law_same.b .nil pass0 (pa_cons (pe_lst (pa_cons (pe_meth (pv 0) CL_Roots ME_Roots_worth_of G_Roots_worth_of (hr.mono (by omega)) B_Roots_worth_of .nil pass0 (pa_cons (pv 2) pa_nil)) (pa_cons (pe_fld (pv 0) (by rfl)) pa_nil))) (pa_cons (pe_lst (pa_cons (pe_op (r := rCatB K) op_catB (pe_tup (pa_cons (pv 2) pa_nil)) (pv 4)) (pa_cons (pe_dget (du hr) (pv 1) (pe_str) (fun _ _ => rfl)) pa_nil))) pa_nil))))) (pss_one (ps_ret (pe_bl))) pss_nil)
      (pss_cons (ps_for PassesOwn.never rfl (pi_tup (pe_tup (pa_cons (pe_op (r := rCatB K) op_catB (pe_tup (pa_cons (pv 2) pa_nil)) (pv 4)) (pa_cons (pe_op (r := rRepB K) op_repB (pe_tup (pa_cons (pe_int) pa_nil)) (pv 3)) pa_nil)))) (pg_name (i := 5) nd rfl (Or.inl rfl))
      (pss_one (ps_if (pt_cmpR op_notBl (pe_meth (pv 0) CL_Roots ME_Roots_is_worth G_Roots_is_worth (hr.mono (by omega)) B_Roots_is_worth .nil pass0 (pa_cons (pv 5) pa_nil)) (pe_bl) (nomark _)) (pss_one (ps_ret (pe_bl))) pss_nil)))
      (pss_cons (ps_set (i := 6) nd rfl (Or.inl rfl) (pe_lst (pa_cons (pe_non) (pa_cons (pe_int) (pa_cons (pe_str) (pa_cons (pe_tup pa_nil) (pa_cons (pe_op op_rep (pe_lst (pa_cons (pe_int) pa_nil)) (pv 3)) (pa_cons (pe_op (r := rRepB K) op_repB (pe_tup (pa_cons (pe_int) pa_nil)) (pe_op op_add (pv 3) (pe_int))) (pa_cons (pv 4) (pa_cons (pe_op (r := rCatB K) op_catB (pv 4) (pe_tup (pa_cons (pe_bl) pa_nil))) (pa_cons (pe_op (r := rCatB K) op_catB (pv 4) (pe_tup (pa_cons (pe_non) pa_nil))) (pa_cons (pe_op (r := rCatB K) op_catB (pv 4) (pe_tup (pa_cons (pe_str) pa_nil))) pa_nil))))))))))))
      (pss_cons (ps_set (i := 7) nd rfl (Or.inl rfl) (pe_lst (pa_cons (pe_op (r := rCatB K) op_catB (pe_tup (pa_cons (pe_bl) pa_nil)) (pv 4)) (pa_cons (pe_op (r := rCatB K) op_catB (pe_tup (pa_cons (pe_str) pa_nil)) (pv 4)) (pa_cons (pe_op (r := rCatB K) op_catB (pe_tup (pa_cons (pe_non) pa_nil)) (pv 4)) (pa_cons (pe_op (r := rCatB K) op_catB (pe_tup (pa_cons (pe_tup (pa_cons (pe_int) pa_nil)) pa_nil)) (pv 4)) (pa_cons (pe_op (r := rCatB K) op_catB (pv 4) (pe_tup (pa_cons (pe_tup (pa_cons (pe_int) pa_nil)) pa_nil))) (pa_cons (pv 2) pa_nil))))))))
      (pss_cons (ps_if (pt_cmpR op_gt (pv 3) (pe_int) (nomark _)) (pss_one (ps_set (i := 7) nd rfl (Or.inl rfl) (pe_op op_cat (pv 7) (pe_lc (own := [("_law_at", 8)]) (g := gName 8) (by rfl) nd (pi_range2 (by rfl) T.b_range (pa_cons (pe_int) (pa_cons (pe_op op_sub (pv 3) (pe_int)) pa_nil))) (blkOk_by (own := [("_law_at", 8)]) (N := N__law_things_right) (sc := defScope s__law_things_right) (by decide +kernel)) (fun _ _ _ _ _ => (pg_name (i := 8) nd rfl (Or.inl rfl))) (fun _ _ _ _ _ => pts_nil) (fun _ _ _ _ _ => (pe_op (r := rCatB K) op_catB (pe_op (r := rCatB K) op_catB (pe_op (r := rRepB K) op_repB (pe_tup (pa_cons (pe_int) pa_nil)) (pv 8)) (pe_tup (pa_cons (pe_bl) pa_nil))) (pe_op (r := rRepB K) op_repB (pe_tup (pa_cons (pe_int) pa_nil)) (pe_op op_sub (pe_op op_sub (pv 3) (pe_int)) (pv 8))))))))) pss_nil)
      htl))))))), ?_⟩
    obtain ⟨no, nr⟩ := (⟨RC.no, RC.nr⟩ : NoAttr K C "order" ∧ NoAttr K C "rim")
    obtain ⟨w2, w31, wl⟩ := whl_last n n31 n1
    obtain ⟨dx, rm, hga, hgr⟩ := hR
    obtain ⟨l, nlb, ndb, hwd, hwl⟩ := hW
    obtain ⟨_, _, g3⟩ := dget_w hwd
    obtain ⟨m, hm⟩ : ∃ m, (whl n).length = m + 1 := ⟨(whl n).length - 1, by omega⟩
    have elen : (((whl n).map V.int).length : Int) - 1 = (m : Int) := by rw [List.length_map]; omega
    have hL0 : SqL K H l ((whl n).map V.int) ∨ SqT K H l ((whl n).map V.int) := .inl (SqL.of hwl)
    have esz : (fun i j : Int => V.int (i - j)) (((whl n).map V.int).length : Int) 1 = V.int (m : Int) := by
      show V.int _ = _
      rw [elen]
    have m1 : 1 ≤ m := by omega
    have m30 : m ≤ 30 := by omega
    have em : (whl n).length - 1 = m := by omega
    walk_at "ev"
    rw [esz]
    w_cond _1
    have hT1 := SqT.of (K := K) hq1
    have hne1 : ([V.int 0] : List V) ≠ [] := by simp
    walk_at "ev"
    intro z H2 sm2 hz
    have ez : (List.replicate ((m : Int) - 1).toNat [V.int 0]).flatten = (List.replicate (m - 1) (0 : Int)).map V.int := by
      rw [show ((m : Int) - 1) = ((m - 1 : Nat) : Int) by omega, rep1, List.map_replicate]
    rw [ez] at hz
    have sm02 := sm1.trans sm2
    have hga2 := sm02 _ _ hga
    have hR2 : RootAt C H2 g n := ⟨dx, rm, hga2, sm02 _ _ hgr⟩
    walk_at "ev"
    intro p3 H3 hp3 sm3 hq3
    rw [show (whl n).length - 2 = m - 1 by omega] at hq3
    have hga3 := sm3 _ _ hga2
    walk_at "ev"
    w_cond _4
    walk_at "ev"
    w_cond _5
    have hT5 := SqT.of (K := K) hq5
    have hz5 := same_t (sm3.trans (sm4.trans sm5)) hz
    have zl : ([V.int i] : List V).length + ((List.replicate (m - 1) (0 : Int)).map V.int).length ≤ sizeLine := szl (by rw [List.length_map, List.length_replicate]; show 1 + _ ≤ 60000; omega)
    walk_at "ev"
    intro p6 H6 sm6 hT6
    have s06 := sm02.trans (sm3.trans (sm4.trans (sm5.trans sm6)))
    have gby := (dget_w (s06 _ _ hwd)).2.1
    walk_at "ev"
    w_cond _7
    have e6 : [V.int i] ++ (List.replicate (m - 1) (0 : Int)).map V.int = (i :: List.replicate (m - 1) 0).map V.int := rfl
    rw [e6] at hT6
    have hdA : Dp K H7 (.ref l4) (.list [tupD (i :: List.replicate (m - 1) 0), .int (n : Int)]) := .lst (SqL.of ((sm5.trans (sm6.trans sm7)) _ _ hq4)) (.cons (dpt ((sm4.trans (sm5.trans (sm6.trans sm7))) _ _ hq3)) (.cons (.int _) .nil))
    have hdB : Dp K H7 (.ref l7) (.list [tupD (i :: List.replicate (m - 1) 0), .int (n : Int)]) := .lst (SqL.of hq7) (.cons (.tup (same_t sm7 hT6) (dp_ints _)) (.cons (.int _) .nil))
    have hft : Fit 3 (.list [tupD (i :: List.replicate (m - 1) 0), .int (n : Int)]) := by
      refine ⟨by show 2 ≤ 4000; decide, fun e he => fit_up ?_⟩
      simp only [List.mem_cons, List.not_mem_nil, or_false] at he
      rcases he with y | y <;> rw [y]
      · exact fitt (by rw [List.length_cons, List.length_replicate]; omega)
      · exact True.intro
    walk_at "ev"
    intro H8 sm8
    have s28 := sm3.trans (sm4.trans (sm5.trans (sm6.trans (sm7.trans sm8))))
    walk_at "ev"
    w_cond _9
    have hT9 := SqT.of (K := K) hq9
    have hz9 := same_t (s28.trans sm9) hz
    walk_at "ev"
    intro p10 H10 sm10 hT10
    rw [e6] at hT10
    walk_at "ev"
    w_cond _11
    have hT11 := SqT.of (K := K) hq11
    walk_at "ev"
    intro p12 H12 sm12 hT12
    rw [rep1] at hT12
    walk_at "ev"
    w_cond _13
    have s213 := s28.trans (sm9.trans (sm10.trans (sm11.trans (sm12.trans sm13))))
    have hLT := SqT.of (K := K) hq13
    have good : ∀ v ∈ [V.ref p10, V.ref p12], ∃ dd, Dp K H13 v dd ∧ isW m dd = true ∧ ∀ ds, dd = .tuple ds → ds.length ≤ 100 := by
      intro v hv
      simp only [List.mem_cons, List.not_mem_nil, or_false] at hv
      rcases hv with y | y <;> subst y
      · refine ⟨tupD (i :: List.replicate (m - 1) 0), .tup (same_t (sm11.trans (sm12.trans sm13)) hT10) (dp_ints _), ?_, fun ds e => by rw [← PyData.tuple.inj e, List.length_map, List.length_cons, List.length_replicate]; omega⟩
        show (decide (_ = _) && _) = true
        rw [List.length_map, List.length_cons, List.length_replicate, decide_eq_true (by omega), intD_all]
        rfl
      · refine ⟨.tuple (List.replicate m (.int 0)), .tup (same_t sm13 hT12) (dp_zeros m), ?_, fun ds e => by rw [← PyData.tuple.inj e, List.length_replicate]; omega⟩
        show (decide (_ = _) && _) = true
        rw [List.length_replicate, decide_eq_true rfl, ints_zeros]
        rfl
    refine ⟨l13, rfl, ⟨_, hLT⟩, ?_⟩
    refine for_tup (K := K) (a := l13) (xs := [.ref p10, .ref p12]) (fun j σ H' => Hold (∃ y5, σ = [some (.ref g), some (.ref d), some (.int i), some (.int (m : Int)), some (.ref z), y5, none, none, none] ∧ Same H13 H')) (.mk ⟨_, rfl, Same.refl _⟩) ?_ ?_ ?_
    · intro j σ H14 hj hP
      obtain ⟨y5, rfl, sm14⟩ := hP.un
      exact same_t sm14 hLT
    · intro j v σ H14 hv hP
      obtain ⟨y5, rfl, sm14⟩ := hP.un
      obtain ⟨dd, hdd, hgo, hdl⟩ := good v (List.mem_of_getElem? hv)
      have hga14 := (s213.trans sm14) _ _ hga2
      have hR14 : RootAt C H14 g n := ⟨dx, rm, hga14, (s213.trans sm14) _ _ (sm02 _ _ hgr)⟩
      have hd14 := dp_same sm14 hdd
      walk_at "ev"
      intro H15 sm15
      rw [em, hgo]
      walk_at "ev"
      exact .mk ⟨_, rfl, sm14.trans sm15⟩
    intro σ H14 hP
    obtain ⟨y5, rfl, sm14⟩ := hP.un
    have hz14 := same_t (s213.trans sm14) hz
    walk_at "ev"
    w_cond _15
    have hT15 := SqT.of (K := K) hq15
    walk_at "ev"
    w_cond _16
    have zr : ([V.int 0] : List V).length * (m : Int).toNat ≤ sizeLine := szl (by rw [Int.toNat_natCast]; show 1 * _ ≤ 60000; omega)
    walk_at "ev"
    w_cond _17
    rw [rep1] at hq17
    walk_at "ev"
    w_cond _18
    have hT18 := SqT.of (K := K) hq18
    walk_at "ev"
    intro p19 H19 sm19 hT19
    rw [show ((m : Int) + 1) = ((m + 1 : Nat) : Int) by omega, rep1] at hT19
    walk_at "ev"
    w_cond _20
    have hT20 := SqT.of (K := K) hq20
    have hz20 := same_t (sm15.trans (sm16.trans (sm17.trans (sm18.trans (sm19.trans sm20))))) hz14
    walk_at "ev"
    intro p21 H21 sm21 hT21
    walk_at "ev"
    w_cond _22
    have hT22 := SqT.of (K := K) hq22
    have hz22 := same_t (sm15.trans (sm16.trans (sm17.trans (sm18.trans (sm19.trans (sm20.trans (sm21.trans sm22))))))) hz14
    walk_at "ev"
    intro p23 H23 sm23 hT23
    walk_at "ev"
    w_cond _24
    have hT24 := SqT.of (K := K) hq24
    have hz24 := same_t (sm15.trans (sm16.trans (sm17.trans (sm18.trans (sm19.trans (sm20.trans (sm21.trans (sm22.trans (sm23.trans sm24))))))))) hz14
    walk_at "ev"
    intro p25 H25 sm25 hT25
    walk_at "ev"
    w_cond _26
    walk_at "ev"
    w_cond _27
    have hT27 := SqT.of (K := K) hq27
    have hz27 := same_t (sm15.trans (sm16.trans (sm17.trans (sm18.trans (sm19.trans (sm20.trans (sm21.trans (sm22.trans (sm23.trans (sm24.trans (sm25.trans (sm26.trans sm27)))))))))))) hz14
    walk_at "ev"
    intro p28 H28 sm28 hT28
    walk_at "ev"
    w_cond _29
    have hT29 := SqT.of (K := K) hq29
    have hz29 := same_t (sm15.trans (sm16.trans (sm17.trans (sm18.trans (sm19.trans (sm20.trans (sm21.trans (sm22.trans (sm23.trans (sm24.trans (sm25.trans (sm26.trans (sm27.trans (sm28.trans sm29)))))))))))))) hz14
    walk_at "ev"
    intro p30 H30 sm30 hT30
    walk_at "ev"
    w_cond _31
    have hT31 := SqT.of (K := K) hq31
    have hz31 := same_t (sm15.trans (sm16.trans (sm17.trans (sm18.trans (sm19.trans (sm20.trans (sm21.trans (sm22.trans (sm23.trans (sm24.trans (sm25.trans (sm26.trans (sm27.trans (sm28.trans (sm29.trans (sm30.trans sm31)))))))))))))))) hz14
    walk_at "ev"
    intro p32 H32 sm32 hT32
    walk_at "ev"
    w_cond _33
    have hT33 := SqT.of (K := K) hq33
    walk_at "ev"
    w_cond _34
    have hT34 := SqT.of (K := K) hq34
    have hz34 := same_t (sm15.trans (sm16.trans (sm17.trans (sm18.trans (sm19.trans (sm20.trans (sm21.trans (sm22.trans (sm23.trans (sm24.trans (sm25.trans (sm26.trans (sm27.trans (sm28.trans (sm29.trans (sm30.trans (sm31.trans (sm32.trans (sm33.trans sm34))))))))))))))))))) hz14
    walk_at "ev"
    intro p35 H35 sm35 hT35
    walk_at "ev"
    w_cond _36
    have hT36 := SqT.of (K := K) hq36
    walk_at "ev"
    w_cond _37
    have hT37 := SqT.of (K := K) hq37
    have hz37 := same_t (sm15.trans (sm16.trans (sm17.trans (sm18.trans (sm19.trans (sm20.trans (sm21.trans (sm22.trans (sm23.trans (sm24.trans (sm25.trans (sm26.trans (sm27.trans (sm28.trans (sm29.trans (sm30.trans (sm31.trans (sm32.trans (sm33.trans (sm34.trans (sm35.trans (sm36.trans sm37)))))))))))))))))))))) hz14
    walk_at "ev"
    intro p38 H38 sm38 hT38
    walk_at "ev"
    w_cond _39
    have hsome : ∀ v ∈ [V.non, V.int 0, V.str "", V.ref l15, V.ref l17, V.ref p19, V.ref z, V.ref p21, V.ref p23, V.ref p25], Nw K H39 m v := by
      intro v hv
      simp only [List.mem_cons, List.not_mem_nil, or_false] at hv
      rcases hv with y | y | y | y | y | y | y | y | y | y <;> subst y
      · exact nw_base.1
      · exact (nw_base.2.1 0)
      · exact (nw_base.2.2 "")
      · exact (show Nw K H15 m (V.ref l15) from nw_tup hT15 .nil (by show 0 ≤ 100; decide) (.inl (by show 0 ≠ m; omega))).same (sm16.trans (sm17.trans (sm18.trans (sm19.trans (sm20.trans (sm21.trans (sm22.trans (sm23.trans (sm24.trans (sm25.trans (sm26.trans (sm27.trans (sm28.trans (sm29.trans (sm30.trans (sm31.trans (sm32.trans (sm33.trans (sm34.trans (sm35.trans (sm36.trans (sm37.trans (sm38.trans sm39)))))))))))))))))))))))
      · exact (show Nw K H17 m (V.ref l17) from ⟨_, .lst (SqL.of hq17) (dp_zeros m), rfl, fun ds e => by cases e⟩).same (sm18.trans (sm19.trans (sm20.trans (sm21.trans (sm22.trans (sm23.trans (sm24.trans (sm25.trans (sm26.trans (sm27.trans (sm28.trans (sm29.trans (sm30.trans (sm31.trans (sm32.trans (sm33.trans (sm34.trans (sm35.trans (sm36.trans (sm37.trans (sm38.trans sm39)))))))))))))))))))))
      · exact (show Nw K H19 m (V.ref p19) from nw_tup hT19 (dp_zeros (m + 1)) (by rw [List.length_replicate]; omega) (.inl (by rw [List.length_replicate]; omega))).same (sm20.trans (sm21.trans (sm22.trans (sm23.trans (sm24.trans (sm25.trans (sm26.trans (sm27.trans (sm28.trans (sm29.trans (sm30.trans (sm31.trans (sm32.trans (sm33.trans (sm34.trans (sm35.trans (sm36.trans (sm37.trans (sm38.trans sm39)))))))))))))))))))
      · exact (show Nw K H14 m (V.ref z) from nw_tup hz14 (dp_ints _) (by rw [List.length_map, List.length_replicate]; omega) (.inl (by rw [List.length_map, List.length_replicate]; omega))).same (sm15.trans (sm16.trans (sm17.trans (sm18.trans (sm19.trans (sm20.trans (sm21.trans (sm22.trans (sm23.trans (sm24.trans (sm25.trans (sm26.trans (sm27.trans (sm28.trans (sm29.trans (sm30.trans (sm31.trans (sm32.trans (sm33.trans (sm34.trans (sm35.trans (sm36.trans (sm37.trans (sm38.trans sm39))))))))))))))))))))))))
      · exact (show Nw K H21 m (V.ref p21) from nw_tup hT21 (dp_app (dp_ints (List.replicate (m - 1) 0)) (.cons (.bl true) .nil)) (by rw [List.length_append, List.length_map, List.length_replicate]; show _ + 1 ≤ 100; omega) (.inr ⟨.bool true, List.mem_append_right _ List.mem_cons_self, rfl⟩)).same (sm22.trans (sm23.trans (sm24.trans (sm25.trans (sm26.trans (sm27.trans (sm28.trans (sm29.trans (sm30.trans (sm31.trans (sm32.trans (sm33.trans (sm34.trans (sm35.trans (sm36.trans (sm37.trans (sm38.trans sm39)))))))))))))))))
      · exact (show Nw K H23 m (V.ref p23) from nw_tup hT23 (dp_app (dp_ints (List.replicate (m - 1) 0)) (.cons .non .nil)) (by rw [List.length_append, List.length_map, List.length_replicate]; show _ + 1 ≤ 100; omega) (.inr ⟨.none, List.mem_append_right _ List.mem_cons_self, rfl⟩)).same (sm24.trans (sm25.trans (sm26.trans (sm27.trans (sm28.trans (sm29.trans (sm30.trans (sm31.trans (sm32.trans (sm33.trans (sm34.trans (sm35.trans (sm36.trans (sm37.trans (sm38.trans sm39)))))))))))))))
      · exact (show Nw K H25 m (V.ref p25) from nw_tup hT25 (dp_app (dp_ints (List.replicate (m - 1) 0)) (.cons (.str "0") .nil)) (by rw [List.length_append, List.length_map, List.length_replicate]; show _ + 1 ≤ 100; omega) (.inr ⟨.str "0", List.mem_append_right _ List.mem_cons_self, rfl⟩)).same (sm26.trans (sm27.trans (sm28.trans (sm29.trans (sm30.trans (sm31.trans (sm32.trans (sm33.trans (sm34.trans (sm35.trans (sm36.trans (sm37.trans (sm38.trans sm39)))))))))))))
    have hodd : ∀ v ∈ [V.ref p28, V.ref p30, V.ref p32, V.ref p35, V.ref p38, V.int i], Nw K H39 m v := by
      intro v hv
      simp only [List.mem_cons, List.not_mem_nil, or_false] at hv
      rcases hv with y | y | y | y | y | y <;> subst y
      · exact (show Nw K H28 m (V.ref p28) from nw_tup hT28 (dp_app (.cons (.bl true) .nil) (dp_ints (List.replicate (m - 1) 0))) (by rw [List.length_append, List.length_map, List.length_replicate]; show 1 + _ ≤ 100; omega) (.inr ⟨.bool true, List.mem_append_left _ List.mem_cons_self, rfl⟩)).same (sm29.trans (sm30.trans (sm31.trans (sm32.trans (sm33.trans (sm34.trans (sm35.trans (sm36.trans (sm37.trans (sm38.trans sm39))))))))))
      · exact (show Nw K H30 m (V.ref p30) from nw_tup hT30 (dp_app (.cons (.str "0") .nil) (dp_ints (List.replicate (m - 1) 0))) (by rw [List.length_append, List.length_map, List.length_replicate]; show 1 + _ ≤ 100; omega) (.inr ⟨.str "0", List.mem_append_left _ List.mem_cons_self, rfl⟩)).same (sm31.trans (sm32.trans (sm33.trans (sm34.trans (sm35.trans (sm36.trans (sm37.trans (sm38.trans sm39))))))))
      · exact (show Nw K H32 m (V.ref p32) from nw_tup hT32 (dp_app (.cons .non .nil) (dp_ints (List.replicate (m - 1) 0))) (by rw [List.length_append, List.length_map, List.length_replicate]; show 1 + _ ≤ 100; omega) (.inr ⟨.none, List.mem_append_left _ List.mem_cons_self, rfl⟩)).same (sm33.trans (sm34.trans (sm35.trans (sm36.trans (sm37.trans (sm38.trans sm39))))))
      · exact (show Nw K H35 m (V.ref p35) from nw_tup hT35 (dp_app (.cons (.tup (same_t (sm34.trans sm35) hT33) (.cons (.int 0) .nil)) .nil) (dp_ints (List.replicate (m - 1) 0))) (by rw [List.length_append, List.length_map, List.length_replicate]; show 1 + _ ≤ 100; omega) (.inr ⟨.tuple [.int 0], List.mem_append_left _ List.mem_cons_self, rfl⟩)).same (sm36.trans (sm37.trans (sm38.trans sm39)))
      · exact (show Nw K H38 m (V.ref p38) from nw_tup hT38 (dp_app (dp_ints (List.replicate (m - 1) 0)) (.cons (.tup (same_t (sm37.trans sm38) hT36) (.cons (.int 0) .nil)) .nil)) (by rw [List.length_append, List.length_map, List.length_replicate]; show _ + 1 ≤ 100; omega) (.inr ⟨.tuple [.int 0], List.mem_append_right _ List.mem_cons_self, rfl⟩)).same sm39
      · exact (nw_base.2.1 i)
    have hqS := (sm27.trans (sm28.trans (sm29.trans (sm30.trans (sm31.trans (sm32.trans (sm33.trans (sm34.trans (sm35.trans (sm36.trans (sm37.trans (sm38.trans sm39)))))))))))) _ _ hq26
    have s2F := (s213.trans sm14).trans (sm15.trans (sm16.trans (sm17.trans (sm18.trans (sm19.trans (sm20.trans (sm21.trans (sm22.trans (sm23.trans (sm24.trans (sm25.trans (sm26.trans (sm27.trans (sm28.trans (sm29.trans (sm30.trans (sm31.trans (sm32.trans (sm33.trans (sm34.trans (sm35.trans (sm36.trans (sm37.trans (sm38.trans sm39))))))))))))))))))))))))
    generalize hSL : [V.non, V.int 0, V.str "", V.ref l15, V.ref l17, V.ref p19, V.ref z, V.ref p21, V.ref p23, V.ref p25] = SL at hsome hqS
    have hSl : SL.length = 10 := by rw [← hSL]; rfl
    generalize hOL : [V.ref p28, V.ref p30, V.ref p32, V.ref p35, V.ref p38, V.int i] = OL at hodd hq39
    have hOl : OL.length = 6 := by rw [← hOL]; rfl
    clear hSL hOL
    have hgaF := s2F _ _ hga2
    have hRF : RootAt C H39 g n := ⟨dx, rm, hgaF, s2F _ _ (sm02 _ _ hgr)⟩
    have s0F := sm02.trans s2F
    walk_at "ev"
    by_cases c : 2 < m
    · refine iteTe (decide_eq_true (by omega)) ?_
      walk_at "ev"
      intro D hD
      refine lc_range (lo := 1) (n := _) (fun j H' => Hold (∃ xs : List V, xs.length = j ∧ (∀ v ∈ xs, Nw K (delH H' D) m v) ∧ Same H39 H' ∧ H' D = some (.lst xs))) (.mk ⟨[], rfl, (fun v hv => by cases hv), same_new hD, upd_same⟩) ?_ ?_
      · intro j H40 hj hP40
        obtain ⟨xs, hxl, hxn, sm40, hD40⟩ := hP40.un
        have hjm : j + 2 < m := by omega
        walk_at "ev"
        w_cond _41
        have hT41 := SqT.of (K := K) hq41
        walk_at "ev"
        intro p42 H42 sm42 hT42
        walk_at "ev"
        w_cond _43
        have hT43 := SqT.of (K := K) hq43
        have hT42' := same_t sm43 hT42
        rw [show (1 : Int) + (j : Int) = ((1 + j : Nat) : Int) by omega, rep1] at hT42'
        walk_at "ev"
        intro p44 H44 sm44 hT44
        walk_at "ev"
        w_cond _45
        have hT45 := SqT.of (K := K) hq45
        walk_at "ev"
        intro p46 H46 sm46 hT46
        rw [show (m : Int) - 1 - (1 + (j : Int)) = ((m - 2 - j : Nat) : Int) by omega, rep1] at hT46
        have hT44' := same_t (sm45.trans sm46) hT44
        walk_at "ev"
        intro p47 H47 sm47 hT47
        have s4047 := sm41.trans (sm42.trans (sm43.trans (sm44.trans (sm45.trans (sm46.trans sm47)))))
        have hD47 := s4047 _ _ hD40
        refine ⟨xs, hD47, szm (by omega), .mk ⟨xs ++ [.ref p47], by rw [List.length_append, hxl]; rfl, fun v hv => ?_, same_mut (sm40.trans s4047) hD, upd_same⟩⟩
        rcases List.mem_append.mp hv with y | y
        · exact (hxn v y).same ((del_mono s4047).trans del_upd)
        · rw [List.mem_singleton.mp y]
          refine Nw.same (nw_tup (sqt_del hD47 hT47) (dp_app (dp_app (dp_zeros (1 + j)) (.cons (.bl true) .nil)) (dp_zeros (m - 2 - j))) ?_ (.inr ⟨.bool true, List.mem_append_left _ (List.mem_append_right _ List.mem_cons_self), rfl⟩)) del_upd
          rw [List.length_append, List.length_append, List.length_replicate, List.length_replicate]
          show 1 + j + 1 + _ ≤ 100
          omega
      · intro H40 hP40
        obtain ⟨xs, hxl, hxn, sm40, hD40⟩ := hP40.un
        have hO40 := sm40 _ _ hq39
        have zz : OL.length + xs.length ≤ sizeLine := szl (by omega)
        walk_at "ev"
        w_cond _41
        walk_at "ev"
        have sF41 := sm40.trans sm41
        refine fin g l26 l41 n SL (OL ++ xs) H41 _ _ _ _ _ n1 n31 ⟨dx, rm, sF41 _ _ hgaF, (s2F.trans sF41) _ _ (sm02 _ _ hgr)⟩ (sF41 _ _ hqS) hq41 (by omega) (by rw [List.length_append]; omega) (fun v hv => ?_) fun H' sm' => q _ (s0F.trans (sF41.trans sm'))
        rw [em]
        rcases List.mem_append.mp hv with y | y
        · exact (hsome v y).same sF41
        · rcases List.mem_append.mp y with y | y
          · exact (hodd v y).same sF41
          · exact (hxn v y).same (del_le.trans sm41)
    · refine iteFe (decide_eq_false (by omega)) ?_
      walk_at "ev"
      refine fin g l26 l39 n SL OL H39 _ _ _ _ _ n1 n31 hRF hqS hq39 (by omega) (by omega) (fun v hv => ?_) fun H' sm' => q _ (s0F.trans sm')
      rw [em]
      exact (List.mem_append.mp hv).elim (hsome v) (hodd v)
end
abbrev s_law : Stmt := top 29
abbrev N_law : List Str := ["_law_script", "_law_thing", "_law_k", "_law_box_here", "_law_turn", "_law_worlds", "_law_world", "_law_grounds", "_law_told", "_law_at"]
abbrev P_law : List Str := ["_law_script"]
theorem sc_law : FnScope N_law P_law (defScope s_law) := ⟨rfl, rfl, rfl, by decide +kernel, rfl, by decide +kernel, by decide +kernel⟩
def spLaw (K : PySem.W.Frag) : Sp := fun vs H Q _ => ∃ (a : Addr) (ns : List Int), vs = [.ref a] ∧ SqL K H a (ns.map V.int) ∧ ns.length ≤ 63 ∧ ∀ H', Q (.bl true) H'
structure Fns (P : Program) (w : World) (K : PySem.W.Frag) (mg : Str → Option Value) (base : Heap) : Prop where
  x0 : ∃ f fd, Df K mg "is_whole" s_is_whole P_is_whole f fd
  x1 : ∃ f fd, Df K mg "divisors" s_divisors P_divisors f fd
  x2 : ∃ f fd, Df K mg "divided" s_divided P_divided f fd
  x3 : ∃ f fd, Df K mg "multiplied" s_multiplied P_multiplied f fd
  x4 : ∃ f fd, Df K mg "wheel" s_wheel P_wheel f fd
  x5 : ∃ f fd, Df K mg "_law_box" s__law_box P__law_box f fd
  x6 : ∃ f fd, Df K mg "_law_take" s__law_take P__law_take f fd
  x7 : ∃ f fd, Df K mg "_law_pick" s__law_pick P__law_pick f fd
  x8 : ∃ f fd, Df K mg "_law_same" s__law_same P__law_same f fd
  x9 : ∃ f fd, Df K mg "_law_divided" s__law_divided P__law_divided f fd
  x10 : ∃ f fd, Df K mg "_law_own_wheel" s__law_own_wheel P__law_own_wheel f fd
  x11 : ∃ f fd, Df K mg "_law_rest_by" s__law_rest_by P__law_rest_by f fd
  x12 : ∃ f fd, Df K mg "_law_worth" s__law_worth P__law_worth f fd
  x13 : ∃ f fd, Df K mg "_law_exact" s__law_exact P__law_exact f fd
  x14 : ∃ f fd, Df K mg "_law_poly_times" s__law_poly_times P__law_poly_times f fd
  x15 : ∃ f fd, Df K mg "_law_made_of" s__law_made_of P__law_made_of f fd
  x16 : ∃ f fd, Df K mg "_law_pair_right" s__law_pair_right P__law_pair_right f fd
  x17 : ∃ f fd, Df K mg "_law_things_right" s__law_things_right P__law_things_right f fd
structure ClsS (K : PySem.W.Frag) (mg : Str → Option Value) (C CT CB CL CR fI : Addr) (fdI : FuncData) : Prop where
  FI : Fun K "__init__" "TurnError.__init__" s_init fI fdI
  I_b : Binds K fdI N_init []
  I_ty : PySem.W.typeIn K (.ref fI) = some (.type "function")
  RB : Ref K CT CB fI
  m1 : mg "TurnError" = some (.ref CT)
  m2 : mg "BadGround" = some (.ref CB)
  m3 : mg "BadLength" = some (.ref CL)
  m4 : mg "NoRoot" = some (.ref CR)
  m5 : mg "Roots" = some (.ref C)
  mp : ∃ t, mg "MOST_ORDER" = some (.int 30 t)
  k1 : PySem.W.kitOne K (.ref CB) (.ref CB) = some true
  k2 : PySem.W.kitAny K (.ref CB) [.ref CL, .ref CR] = some false
  RC : RootC K C
  mak : ∃ f fd, Mk K C f ∧ Fun K "__init__" "Roots.__init__" s_Roots___init__ f fd ∧ Binds K fd P_Roots___init__ []
  rm : ∃ f1 f2 f3 f4 f5 e1 e2 e3 e4 e5, RMs K C f1 f2 f3 f4 f5 e1 e2 e3 e4 e5
theorem RootAt.updL {C D : Addr} {H : Hp} {a : Addr} {n : Nat} {ys : List V} {o : HO} (h : RootAt C H a n) (hD : H D = Option.some (HO.lst ys)) : RootAt C (upd H D o) a n := by
  obtain ⟨dx, r, h1, h2⟩ := h
  exact ⟨dx, r, by rw [upd_ne (fun z => by rw [z, hD] at h1; cases h1)]; exact h1, by rw [upd_ne (fun z => by rw [z, hD] at h2; cases h2)]; exact h2⟩
theorem no_order {v : V} (h : ∀ n : Nat, v = .int (n : Int) → n = 0 ∨ 31 ≤ n) : ¬ ∃ n : Nat, v = .int (n : Int) ∧ 1 ≤ n ∧ n < 31 := by
  rintro ⟨n, e, h1, h2⟩
  have := h n e
  omega
section
variable {P : Program} {w : World} {K : PySem.W.Frag} {mg : Str → Option Value} {base : Heap}
theorem ok_law {f C CT CB CL CR fI : Addr} {fd fdI : FuncData} (F : Fun K "law" "law" s_law f fd) (T : Blt mg) (U : Fns P w K mg base) (S : ClsS K mg C CT CB CL CR fI fdI) : FnG P w K mg base CX0 10 f fd P_law (spLaw K) := by
  obtain ⟨⟨f0, d0, D_is_whole⟩, ⟨f1, d1, D_divisors⟩, ⟨f2, d2, D_divided⟩, ⟨f3, d3, D_multiplied⟩, ⟨f4, d4, D_wheel⟩, ⟨f5, d5, D__law_box⟩, ⟨f6, d6, D__law_take⟩, ⟨f7, d7, D__law_pick⟩, ⟨f8, d8, D__law_same⟩, ⟨f9, d9, D__law_divided⟩, ⟨f10, d10, D__law_own_wheel⟩, ⟨f11, d11, D__law_rest_by⟩, ⟨f12, d12, D__law_worth⟩, ⟨f13, d13, D__law_exact⟩, ⟨f14, d14, D__law_poly_times⟩, ⟨f15, d15, D__law_made_of⟩, ⟨f16, d16, D__law_pair_right⟩, ⟨f17, d17, D__law_things_right⟩⟩ := U
  obtain ⟨tM, hM⟩ := S.mp
  obtain ⟨fM, dM, MK_Roots, FM, B_Roots___init__⟩ := S.mak
  obtain ⟨g1, g2, g3, g4, g5, e1, e2, e3, e4, e5, RM⟩ := S.rm
  have M_Roots := S.m5
  have G__law_box : FnOk P w K mg base CX0 1 f5 d5 P__law_box (spBox K) := ok_box D__law_box.F T
  have G__law_take : FnOk P w K mg base CX0 1 f6 d6 P__law_take spTake := ok_take D__law_take.F
  have G__law_same : FnOk P w K mg base CX0 4 f8 d8 P__law_same (spSame K 3) := ok_same D__law_same T 3
  have G_wheel : FnOk P w K mg base CX0 6 f4 d4 P_wheel (spWheel 5) := ok_wheel D_wheel T D_divisors D_divided 5
  have G__law_exact : FnOk P w K mg base CX0 7 f13 d13 P__law_exact spExact := ok_exact D__law_exact.F T D__law_take D__law_own_wheel D__law_divided
  have G_Roots___init__ : FnOk P w K mg base (L2.CX P w) 7 fM dM P_Roots___init__ (spRoI K C CB) := ok_roi FM T S.RC D_is_whole D_wheel D_divisors D_divided hM S.FI S.I_b S.I_ty S.RB S.m2
  have G__law_made_of : FnOk P w K mg base CX0 9 f15 d15 P__law_made_of (spMade K C) := ok_made D__law_made_of.F T MK_Roots B_Roots___init__ G_Roots___init__ S.RB S.m5 S.m1 S.m2 S.m3 S.m4 S.k1 S.k2
  have G__law_pair_right : FnG P w K mg base CX0 6 f16 d16 P__law_pair_right (spPair C) := ok_pair D__law_pair_right.F T S.RC RM D__law_same D__law_take D__law_pick D__law_worth D__law_poly_times D__law_rest_by D_is_whole D_divided D_multiplied
  have G__law_things_right : FnOk P w K mg base CX0 5 f17 d17 P__law_things_right (spThings C) := ok_things D__law_things_right.F T S.RC RM D__law_same D_is_whole D_divided
  have nd := sc_law.nd
  refine okG F sc_law (fun vs H Q E h => ?_) (fun cdv A outer s H vs Q E hgd hr h => ?_)
  · obtain ⟨a, ns, rfl, _⟩ := h
    rfl
  · obtain ⟨a, ns, rfl, hS, hlen, q⟩ := h
    refine ⟨_, (pss_cons (ps_for PassesOwn.never rfl (pi_tup (pe_tup (pa_cons (pe_non) (pa_cons (pe_bl) (pa_cons (pe_bl) (pa_cons (pe_int) (pa_cons (pe_un un_neg (pe_int)) (pa_cons (pe_int) (pa_cons (pe_int) (pa_cons (pe_str) (pa_cons (pe_lst (pa_cons (pe_int) pa_nil)) (pa_cons (pe_tup (pa_cons (pe_int) pa_nil)) (pa_cons (pe_str) (pa_cons (pe_op op_pow (pe_int) (pe_int)) pa_nil)))))))))))))) (pg_name (i := 1) nd rfl (Or.inl rfl))
      (pss_one (ps_if (pt_not (pt_val (pe_call G__law_same (hr.mono (by omega)) (by rfl) D__law_same.g D__law_same.F.kp D__law_same.b .nil pass0 (pa_cons (pe_call G__law_made_of (hr.mono (by omega)) (by rfl) D__law_made_of.g D__law_made_of.F.kp D__law_made_of.b .nil pass0 (pa_cons (pv 1) pa_nil)) (pa_cons (pe_tup (pa_cons (pe_str) (pa_cons (pv 1) pa_nil))) pa_nil))))) (pss_one (ps_ret (pe_bl))) pss_nil)))
      (pss_cons (ps_for PassesOwn.never rfl (pi_range1 (by rfl) T.b_range (pa_cons (pe_callB (call_max2 rfl) (by rfl) T.b_max (by decide +kernel) (pa_cons (pe_int) (pa_cons (pe_callB (call_min2 rfl) (by rfl) T.b_min (by decide +kernel) (pa_cons (pe_int) (pa_cons (pe_callB (r := rLenQ K) call_len_seq (by rfl) T.b_len (by decide +kernel) (pa_cons (pv 0) pa_nil)) pa_nil))) pa_nil))) pa_nil)) (pg_name (i := 2) nd rfl (Or.inl rfl))
      (pss_cons (ps_set (i := 3) nd rfl (Or.inr rfl) (pe_call G__law_box (hr.mono (by omega)) (by rfl) D__law_box.g D__law_box.F.kp D__law_box.b .nil pass0 (pa_cons (pv 0) (pa_cons (pv 2) pa_nil))))
      (pss_cons (ps_setLc (i := 5) (own := [("_law_turn", 4)]) (g := gName 4) (by rfl) nd rfl rfl (sw_true rfl rfl rfl (by decide +kernel)) (pi_range1 (by rfl) T.b_range (pa_cons (pe_int) pa_nil)) (blkOk_by (own := [("_law_turn", 4)]) (N := N_law) (sc := defScope s_law) (by decide +kernel)) (fun _ _ _ _ _ => (pg_name (i := 4) nd rfl (Or.inl rfl))) (fun _ _ _ _ _ => pts_nil) (fun _ _ _ _ _ => (pe_call G__law_exact (hr.mono (by omega)) (by rfl) D__law_exact.g D__law_exact.F.kp D__law_exact.b .nil pass0 (pa_cons (pv 3) pa_nil))))
      (pss_cons (ps_setLc (i := 7) (own := [("_law_world", 6)]) (g := gName 6) (by rfl) nd rfl rfl (sw_true rfl rfl rfl (by decide +kernel)) (pi_list (pv 5)) (blkOk_by (own := [("_law_world", 6)]) (N := N_law) (sc := defScope s_law) (by decide +kernel)) (fun _ _ _ _ _ => (pg_name (i := 6) nd rfl (Or.inl rfl))) (fun _ _ _ _ _ => pts_nil) (fun _ _ _ _ _ => (pe_make MK_Roots G_Roots___init__ (hr.mono (by omega)) (by rfl) M_Roots B_Roots___init__ .nil passL (pa_cons (pe_dget (du hr) (pv 6) (pe_str) (fun _ _ => rfl)) pa_nil))))
      (pss_cons (ps_for PassesOwn.never rfl (pi_list (pv 5)) (pg_name (i := 6) nd rfl (Or.inl rfl))
      (pss_cons (ps_set (i := 8) nd rfl (Or.inl rfl) (pe_call G_wheel (hr.mono (by omega)) (by rfl) D_wheel.g D_wheel.F.kp D_wheel.b .nil pass0 (pa_cons (pe_dget (du hr) (pv 6) (pe_str) (fun _ _ => rfl)) pa_nil)))
      (pss_cons (ps_expr (pe_bm0 PySem.F.plainAttrs_list PySem.F.slot_list_clear PySem.F.type_list_clear mt_clear (pv 8)))
      (pss_one (ps_expr (pe_bm PySem.F.plainAttrs_list PySem.F.slot_list_append PySem.F.type_list_append mt_append (pv 8) (pa_cons (pe_int) pa_nil)))))))
      (pss_one (ps_for PassesOwn.never rfl (pi_range1 (by rfl) T.b_range (pa_cons (pe_int) pa_nil)) (pg_name (i := 4) nd rfl (Or.inl rfl))
      (pss_cons (ps_set (i := 9) nd rfl (Or.inl rfl) (pe_op op_mod (pv 4) (pe_int)))
      (pss_cons (ps_if (pt_not (pt_val (pe_callG G__law_pair_right hgd (hr.mono (by omega)) (by rfl) D__law_pair_right.g D__law_pair_right.F.kp D__law_pair_right.b .nil pass0 (pa_cons (pv 3) (pa_cons (pe_ix (r := rIxL K) ix_list (pv 7) (pv 9) (fun _ _ => rfl)) (pa_cons (pe_ix (r := rIxL K) ix_list (pv 5) (pv 9) (fun _ _ => rfl)) pa_nil)))))) (pss_one (ps_ret (pe_bl))) pss_nil)
      (pss_one (ps_if (pt_not (pt_val (pe_call G__law_things_right (hr.mono (by omega)) (by rfl) D__law_things_right.g D__law_things_right.F.kp D__law_things_right.b .nil pass0 (pa_cons (pe_ix (r := rIxL K) ix_list (pv 7) (pv 9) (fun _ _ => rfl)) (pa_cons (pe_ix (r := rIxL K) ix_list (pv 5) (pv 9) (fun _ _ => rfl)) (pa_cons (pe_op op_sub (pe_call G__law_take (hr.mono (by omega)) (by rfl) D__law_take.g D__law_take.F.kp D__law_take.b .nil pass0 (pa_cons (pv 3) (pa_cons (pe_op op_mul (pe_int) (pe_op op_pow (pe_int) (pe_int))) pa_nil))) (pe_op op_pow (pe_int) (pe_int))) pa_nil)))))) (pss_one (ps_ret (pe_bl))) pss_nil)))))))))))
      (pss_one (ps_ret (pe_bl))))), ?_⟩
    walk_at "ev"
    w_cond _1
    walk_at "ev"
    w_cond _2
    walk_at "ev"
    w_cond _3
    have hq3' : H3 l3 = some (.tup [V.non, V.bl true, V.bl false, V.int 0, V.int (-1), V.int 31, V.int 100, V.str "12", V.ref l1, V.ref l2, V.str "", V.int 100000000000000000000]) := by
      rw [hq3]
      rfl
    clear hq3
    have hq3 := hq3'
    clear hq3'
    have hL3 := SqT.of (K := K) hq3
    have hq1' := (sm2.trans sm3) _ _ hq1
    have hq2' := sm3 _ _ hq2
    have hbad : ∀ v ∈ [V.non, V.bl true, V.bl false, V.int 0, V.int (-1), V.int 31, V.int 100, V.str "12", V.ref l1, V.ref l2, V.str "", V.int 100000000000000000000], ∃ dd, Dp K H3 v dd ∧ Fit 2 dd ∧ ¬ ∃ n : Nat, v = .int (n : Int) ∧ 1 ≤ n ∧ n < 31 := by
      intro v hv
      simp only [List.mem_cons, List.not_mem_nil, or_false] at hv
      rcases hv with y | y | y | y | y | y | y | y | y | y | y | y <;> subst y
      · exact ⟨_, .non, True.intro, no_order fun n e => nomatch e⟩
      · exact ⟨_, .bl _, True.intro, no_order fun n e => nomatch e⟩
      · exact ⟨_, .bl _, True.intro, no_order fun n e => nomatch e⟩
      · exact ⟨_, .int _, True.intro, no_order fun n e => by have := V.int.inj e; omega⟩
      · exact ⟨_, .int _, True.intro, no_order fun n e => by have := V.int.inj e; omega⟩
      · exact ⟨_, .int _, True.intro, no_order fun n e => by have := V.int.inj e; omega⟩
      · exact ⟨_, .int _, True.intro, no_order fun n e => by have := V.int.inj e; omega⟩
      · exact ⟨_, .str _, True.intro, no_order fun n e => nomatch e⟩
      · exact ⟨_, .lst (SqL.of hq1') (.cons (.int 12) .nil), ⟨by show 1 ≤ 4000; decide, fun e he => by rw [List.mem_singleton.mp he]; exact True.intro⟩, no_order fun n e => nomatch e⟩
      · exact ⟨_, .tup (SqT.of hq2') (.cons (.int 12) .nil), ⟨by show 1 ≤ 4000; decide, fun e he => by rw [List.mem_singleton.mp he]; exact True.intro⟩, no_order fun n e => nomatch e⟩
      · exact ⟨_, .str _, True.intro, no_order fun n e => nomatch e⟩
      · exact ⟨_, .int _, True.intro, no_order fun n e => by have := V.int.inj e; omega⟩
    generalize hXS : [V.non, V.bl true, V.bl false, V.int 0, V.int (-1), V.int 31, V.int 100, V.str "12", V.ref l1, V.ref l2, V.str "", V.int 100000000000000000000] = XS at *
    refine ⟨l3, rfl, ⟨_, hL3⟩, ?_⟩
    refine for_tup (K := K) (a := l3) (xs := XS) (fun i σ H' => Hold (∃ s1, σ = [some (.ref a), s1, none, none, none, none, none, none, none, none] ∧ Same H3 H')) (.mk ⟨none, rfl, Same.refl _⟩) ?_ ?_ ?_
    · intro i σ H4 hi hP
      obtain ⟨s1, rfl, sm4⟩ := hP.un
      exact same_t sm4 hL3
    · intro i v σ H4 hv hP
      obtain ⟨s1, rfl, sm4⟩ := hP.un
      obtain ⟨dd, hdd, hfd, hno⟩ := hbad v (List.mem_of_getElem? hv)
      have kd4 := kdD (dp_same sm4 hdd)
      walk_at "ev"
      refine ⟨(fun p ep p1 p31 => absurd ⟨p, ep, p1, p31⟩ hno), fun _ t5 H5 sm5 hT5 => ?_⟩
      walk_at "ev"
      w_cond _6
      have hdA : Dp K H6 (.ref t5) (.tuple [.str "bad", dd]) := .tup (same_t sm6 hT5) (.cons (.str _) (.cons (dp_same (sm4.trans (sm5.trans sm6)) hdd) .nil))
      have hdB : Dp K H6 (.ref l6) (.tuple [.str "bad", dd]) := .tup (SqT.of hq6) (.cons (.str _) (.cons (dp_same (sm4.trans (sm5.trans sm6)) hdd) .nil))
      have hft : Fit 3 (.tuple [.str "bad", dd]) := by
        refine ⟨by show 2 ≤ 4000; decide, fun e he => ?_⟩
        simp only [List.mem_cons, List.not_mem_nil, or_false] at he
        rcases he with y | y <;> rw [y]
        · exact True.intro
        · exact hfd
      walk_at "ev"
      intro H7 sm7
      walk_at "ev"
      exact .mk ⟨_, rfl, sm4.trans (sm5.trans (sm6.trans sm7))⟩
    · intro σ H4 hP
      obtain ⟨s1, rfl, sm4⟩ := hP.un
      have hS4 := (sm1.trans (sm2.trans (sm3.trans sm4))).seq hS
      walk_at "ev"
      have htop : (if (if ((ns.map V.int).length : Int) < 4 then ((ns.map V.int).length : Int) else 4) > 1 then (if ((ns.map V.int).length : Int) < 4 then ((ns.map V.int).length : Int) else 4) else 1 : Int).toNat ≤ 4 := by
        split <;> (try split) <;> omega
      refine for_range (lo := 0) (n := _) (fun i σ H' => Hold (∃ s2 s3 s4 s5 s6 s7 s8 s9, σ = [some (.ref a), s1, s2, s3, s4, s5, s6, s7, s8, s9] ∧ Same H4 H')) (.mk ⟨_, _, _, _, _, _, _, _, rfl, Same.refl _⟩) ?_ ?_
      · intro i σ H5 hi hP5
        obtain ⟨s2, s3, s4, s5, s6, s7, s8, s9, rfl, sm5⟩ := hP5.un
        have hi4 : i < 5 := by omega
        have hS5 := sm5.seq hS4
        walk_at "ev"
        intro b H6 hb0 sm6 hbx
        walk_at "ev"
        intro D hD
        have nDb := hbx.ne hD
        refine lc_range (lo := 0) (n := _) (fun j H' => Hold (∃ wq : List (Addr × Nat), wq.length = j ∧ Keep b H6 H' ∧ BoxAt H' b (2 * (j : Int)) ∧ H' D = some (.lst (wq.map fun x => V.ref x.1)) ∧ ∀ x ∈ wq, 1 ≤ x.2 ∧ x.2 < 31 ∧ WorldAt (delH H' D) b x.1 x.2)) (.mk ⟨[], rfl, keepS (same_new hD), (hbx.upd nDb).mono (by omega), upd_same, (fun x hx => by cases hx)⟩) ?_ ?_
        · intro j H7 hj hP7
          obtain ⟨wq, hwl, k7, b7, hD7, hw7⟩ := hP7.un
          have hj3 : j < 3 := hj
          walk_at "ev"
          intro dd ll nn H8 nn1 nn31 hdd hll k8 b8 nlb ndb hd8 hl8
          have hD8 := k8 _ _ nDb hD7
          have ndD : dd ≠ D := (ne_of_none hD7 hdd).symm
          have nlD : ll ≠ D := (ne_of_none hD7 hll).symm
          refine ⟨_, hD8, szm (by rw [List.length_map]; omega), .mk ⟨wq ++ [(dd, nn)], by rw [List.length_append, hwl]; rfl, keep_fresh (k7.trans k8) hD, (b8.upd nDb).mono (by omega), by rw [upd_same, List.map_append]; rfl, fun x hx => ?_⟩⟩
          rcases List.mem_append.mp hx with y | y
          · obtain ⟨y1, y2, l', y3, y4, y5, y6⟩ := hw7 x y
            have del8 : ∀ a o, a ≠ b → delH H7 D a = some o → delH (upd H8 D (.lst (wq.map (fun x => V.ref x.1) ++ [V.ref dd]))) D a = some o := fun a o na e => by
              by_cases z : a = D
              · rw [z, delH_same] at e
                cases e
              · rw [delH_ne z] at e
                rw [delH_ne z, upd_ne z]
                exact k8 _ _ na e
            exact ⟨y1, y2, l', y3, y4, del8 _ _ y4 y5, del8 _ _ y3 y6⟩
          · rw [List.mem_singleton.mp y]
            exact ⟨nn1, nn31, ll, nlb, ndb, by rw [delH_ne ndD, upd_ne ndD]; exact hd8, by rw [delH_ne nlD, upd_ne nlD]; exact hl8⟩
        intro H7 hP7
        obtain ⟨wq, hwl, k7, b7, hD7, hw7⟩ := hP7.un
        have hwl3 : wq.length = 3 := hwl
        have hW7 : ∀ x ∈ wq, 1 ≤ x.2 ∧ x.2 < 31 ∧ WorldAt H7 b x.1 x.2 := fun x hx => ⟨(hw7 x hx).1, (hw7 x hx).2.1, (hw7 x hx).2.2.same del_le⟩
        clear hw7
        have hLD := SqL.of (K := K) hD7
        have hL' : ∃ xs, SqL K H7 D xs := ⟨_, hLD⟩
        walk_at "ev"
        intro D2 hD2
        refine lc_list (K := K) (a := D) (xs := wq.map fun x => V.ref x.1) (fun j H' => Hold (∃ gs : List Addr, gs.length = j ∧ Same H7 H' ∧ H' D2 = some (.lst (gs.map V.ref)) ∧ ∀ (k : Nat) (g : Addr) (x : Addr × Nat), gs[k]? = some g → wq[k]? = some x → RootAt C H' g x.2)) (.mk ⟨[], rfl, same_new hD2, upd_same, (fun k g x hk => by simp at hk)⟩) ?_ ?_ ?_
        · intro j H8 hj hP8
          obtain ⟨gs, hgl, sm8, hD8, hg8⟩ := hP8.un
          exact sm8.seq hLD
        · intro j v H8 hv hP8
          obtain ⟨gs, hgl, sm8, hD8, hg8⟩ := hP8.un
          rw [List.getElem?_map] at hv
          obtain ⟨⟨dd, nn⟩, hx, ev⟩ := Option.map_eq_some_iff.mp hv
          subst ev
          obtain ⟨nn1, nn31, l', y3, y4, y5, y6⟩ := hW7 _ (List.mem_of_getElem? hx)
          have hjl : j < wq.length := (List.getElem?_eq_some_iff.mp hx).1
          have gby := (dget_w (sm8 _ _ y5)).2.1
          walk_at "ev"
          intro x dx hx0 hd0 ne
          refine ⟨x, dx, _, _, rfl, upd_same, .int _, fun p ep p1 p31 H9 k9 hR9 => ⟨rfl, ?_⟩, fun no => absurd ⟨nn, rfl, nn1, nn31⟩ no⟩
          have epn : p = nn := by
            have := V.int.inj ep
            omega
          subst epn
          have sm9 := keep_mk hx0 hd0 k9
          have hD9 := sm9 _ _ hD8
          refine ⟨_, hD9, szm (by rw [List.length_map]; omega), .mk ⟨gs ++ [x], by rw [List.length_append, hgl]; rfl, same_mut (sm8.trans sm9) hD2, by rw [upd_same, List.map_append]; rfl, fun k g z hk hz => ?_⟩⟩
          by_cases c : k < gs.length
          · rw [List.getElem?_append_left c] at hk
            exact ((hg8 k g z hk hz).same sm9).updL hD9
          · have hk2 := (List.getElem?_eq_some_iff.mp hk).1
            rw [List.length_append, List.length_singleton] at hk2
            have ek : k = j := by omega
            subst ek
            rw [List.getElem?_append_right (by omega), hgl, Nat.sub_self] at hk
            cases hk
            rw [hx] at hz
            cases hz
            exact hR9.updL hD9
        intro H8 hP8
        obtain ⟨gs, hgl, sm8, hD8, hg8⟩ := hP8.un
        rw [List.length_map, hwl3] at hgl
        have hLD8 := sm8.seq hLD
        have hL8 : ∃ xs, SqL K H8 D xs := ⟨_, hLD8⟩
        walk_at "ev"
        refine for_list (K := K) (a := D) (xs := wq.map fun x => V.ref x.1) (fun j σ H' => Hold (∃ t4 t6 t8 t9, σ = [some (.ref a), s1, some (.int (0 + (i : Int))), some (.ref b), t4, some (.ref D), t6, some (.ref D2), t8, t9] ∧ Same H8 H')) (.mk ⟨_, _, _, _, rfl, Same.refl _⟩) ?_ ?_ ?_
        · intro j σ H9 hj hP9
          obtain ⟨t4, t6, t8, t9, rfl, sm9⟩ := hP9.un
          exact sm9.seq hLD8
        · intro j v σ H9 hv hP9
          obtain ⟨t4, t6, t8, t9, rfl, sm9⟩ := hP9.un
          rw [List.getElem?_map] at hv
          obtain ⟨⟨dd, nn⟩, hx, ev⟩ := Option.map_eq_some_iff.mp hv
          subst ev
          obtain ⟨nn1, nn31, l', y3, y4, y5, y6⟩ := hW7 _ (List.mem_of_getElem? hx)
          have gby := (dget_w ((sm8.trans sm9) _ _ y5)).2.1
          have nn32 : nn < 2 ^ 5 := by
            show nn < 32
            omega
          have nn31' : nn < 31 := nn31
          have nn1' : 1 ≤ nn := nn1
          walk_at "ev"
          intro lw H10 hlw sm10 hq10
          have ty10 : tyV K "list" (.ref lw) H10 := .inl ⟨rfl, _, SqL.of hq10⟩
          walk_at "ev"
          generalize hG : upd H10 lw _ = H11
          have s911 : Same H9 H11 := by rw [← hG]; exact same_mut sm10 hlw
          have hq11 := (mutO hG).2
          clear hG
          have ty11 : tyV K "list" (.ref lw) H11 := .inl ⟨rfl, _, SqL.of hq11⟩
          have z11 : ([] : List V).length < sizeLine := szm (by show 0 ≤ 60000; decide)
          walk_at "ev"
          exact .mk ⟨_, _, _, _, rfl, sm9.trans (same_mut s911 hlw)⟩
        intro σ H9 hP9
        obtain ⟨t4, t6, t8, t9, rfl, sm9⟩ := hP9.un
        have b9 : BoxAt H9 b 6 := ((b7.same sm8).same sm9).mono (by show 2 * ((3 : Nat) : Int) ≤ 6; omega)
        have hD9 := sm9 _ _ hD8
        have hDw9 := (sm8.trans sm9) _ _ hD7
        have nD2b : D2 ≠ b := b7.ne hD2
        walk_at "ev"
        refine for_range (lo := 0) (n := _) (fun j σ H' => Hold (∃ t4 t6 t8 t9, σ = [some (.ref a), s1, some (.int (0 + (i : Int))), some (.ref b), t4, some (.ref D), t6, some (.ref D2), t8, t9] ∧ Keep b H9 H' ∧ BoxAt H' b (6 + 181 * (j : Int)))) (.mk ⟨_, _, _, _, rfl, Keep.refl _ _, b9.mono (by omega)⟩) ?_ ?_
        · intro j σ H10 hj hP10
          obtain ⟨t4, t6, t8, t9, rfl, k10, b10⟩ := hP10.un
          have hj18 : j < 18 := hj
          have e3 : (0 + (j : Int)) % 3 = ((j % 3 : Nat) : Int) := by omega
          have hj3 : j % 3 < 3 := Nat.mod_lt _ (by decide)
          obtain ⟨g, hg⟩ : ∃ g, gs[j % 3]? = some g := ⟨_, List.getElem?_eq_getElem (by omega)⟩
          obtain ⟨⟨dd, nn⟩, hx⟩ : ∃ x, wq[j % 3]? = some x := ⟨_, List.getElem?_eq_getElem (by omega)⟩
          have hgL := SqL.of (K := K) (k10 _ _ nD2b hD9)
          have hwL := SqL.of (K := K) (k10 _ _ nDb hDw9)
          have atg : atI (gs.map V.ref) ((0 + (j : Int)) % 3) = some (.ref g) := at_nat (j := j % 3) (by rw [List.getElem?_map, hg]; rfl) e3
          have atw : atI (wq.map fun x => V.ref x.1) ((0 + (j : Int)) % 3) = some (.ref dd) := at_nat (j := j % 3) (by rw [List.getElem?_map, hx]; rfl) e3
          obtain ⟨nn1, nn31, hWw⟩ := hW7 _ (List.mem_of_getElem? hx)
          have nn1' : 1 ≤ nn := nn1
          have nn31' : nn < 31 := nn31
          have hW10 : WorldAt H10 b dd nn := ((hWw.same sm8).same sm9).keep k10
          have hR10 : RootAt C H10 g nn := ((hg8 _ g _ hg hx).same sm9).keep b9 k10
          walk_at "ev"
          intro H11 k11 b11
          have k911 := k10.trans k11
          have hgL11 := SqL.of (K := K) (k911 _ _ nD2b hD9)
          have hwL11 := SqL.of (K := K) (k911 _ _ nDb hDw9)
          walk_at "ev"
          intro r H12 r0 r1 k12 b12
          have hW12 : WorldAt H12 b dd nn := (hW10.keep k11).keep k12
          have hR12 : RootAt C H12 g nn := (hR10.keep b10 k11).keep b11 k12
          walk_at "ev"
          intro H13 sm13
          walk_at "ev"
          exact .mk ⟨_, _, _, _, rfl, k911.trans (k12.trans (keepS sm13)), (b12.same sm13).mono (by omega)⟩
        · intro σ H10 hP10
          obtain ⟨t4, t6, t8, t9, rfl, k10, b10⟩ := hP10.un
          exact .mk ⟨_, _, _, _, _, _, _, _, rfl, sm5.trans (keep_same sm6 hb0 ((k7.trans (keepS (sm8.trans sm9))).trans k10))⟩
      · intro σ H5 hP5
        obtain ⟨s2, s3, s4, s5, s6, s7, s8, s9, rfl, sm5⟩ := hP5.un
        walk_at "ev"
        exact q _
end
theorem all_mk {l : PySem.W.OpenLaw} {w : World} {K : PySem.W.Frag} {h : Heap} {mg : Str → Option Value} {fa : Addr} (X : K.In h) (G : h.Ns mainGlobals mg) (hfa : mg "law" = some (.ref fa))
    {od0 an0 : Option Addr} {sl0 : Array (Option Value)} {oc0 kV0 dc0 pm0 cd0 ct0 : Value} {f0 : Addr}
    {od1 an1 : Option Addr} {sl1 : Array (Option Value)} {oc1 kV1 dc1 pm1 cd1 ct1 : Value} {f1 : Addr}
    {od2 an2 : Option Addr} {sl2 : Array (Option Value)} {oc2 kV2 dc2 pm2 cd2 ct2 : Value} {f2 : Addr}
    {od3 an3 : Option Addr} {sl3 : Array (Option Value)} {oc3 kV3 dc3 pm3 cd3 ct3 : Value} {f3 : Addr}
    {od4 an4 : Option Addr} {sl4 : Array (Option Value)} {oc4 kV4 dc4 pm4 cd4 ct4 : Value} {f4 : Addr}
    {od5 an5 : Option Addr} {sl5 : Array (Option Value)} {oc5 kV5 dc5 pm5 cd5 ct5 : Value} {f5 : Addr}
    {od6 an6 : Option Addr} {sl6 : Array (Option Value)} {oc6 kV6 dc6 pm6 cd6 ct6 : Value} {f6 : Addr}
    {od7 an7 : Option Addr} {sl7 : Array (Option Value)} {oc7 kV7 dc7 pm7 cd7 ct7 : Value} {f7 : Addr}
    {od8 an8 : Option Addr} {sl8 : Array (Option Value)} {oc8 kV8 dc8 pm8 cd8 ct8 : Value} {f8 : Addr}
    {od9 an9 : Option Addr} {sl9 : Array (Option Value)} {oc9 kV9 dc9 pm9 cd9 ct9 : Value} {f9 : Addr}
    {od10 an10 : Option Addr} {sl10 : Array (Option Value)} {oc10 kV10 dc10 pm10 cd10 ct10 : Value} {f10 : Addr}
    {od11 an11 : Option Addr} {sl11 : Array (Option Value)} {oc11 kV11 dc11 pm11 cd11 ct11 : Value} {f11 : Addr}
    {od12 an12 : Option Addr} {sl12 : Array (Option Value)} {oc12 kV12 dc12 pm12 cd12 ct12 : Value} {f12 : Addr}
    {od13 an13 : Option Addr} {sl13 : Array (Option Value)} {oc13 kV13 dc13 pm13 cd13 ct13 : Value} {f13 : Addr}
    {od14 an14 : Option Addr} {sl14 : Array (Option Value)} {oc14 kV14 dc14 pm14 cd14 ct14 : Value} {f14 : Addr}
    {od15 an15 : Option Addr} {sl15 : Array (Option Value)} {oc15 kV15 dc15 pm15 cd15 ct15 : Value} {f15 : Addr}
    {od16 an16 : Option Addr} {sl16 : Array (Option Value)} {oc16 kV16 dc16 pm16 cd16 ct16 : Value} {f16 : Addr}
    {od17 an17 : Option Addr} {sl17 : Array (Option Value)} {oc17 kV17 dc17 pm17 cd17 ct17 : Value} {f17 : Addr}
    {od18 an18 : Option Addr} {sl18 : Array (Option Value)} {oc18 kV18 dc18 pm18 cd18 ct18 : Value} {f18 : Addr}
    {fI : Addr} {odI anI : Option Addr} {slI : Array (Option Value)} {ocI kVI dcI pmI cdI ctI : Value}
    {C_TurnError : Addr}
    {C_BadGround : Addr}
    {C_BadLength : Addr}
    {C_NoRoot : Addr}
    {C_Roots : Addr}
    {nm_BadGround q_BadGround : Str} {N_BadGround : Addr} {bs_BadGround : List Value} {sn_BadGround : List Str} {sb_BadGround : List Value} {ab_BadGround : Bool} {co_BadGround : Option Bool} {dd_BadGround : Option Addr} {m0_BadGround m1_BadGround m2_BadGround m3_BadGround m5_BadGround : Option Value}
    {t_MOST_ORDER : Tok}
    {od_Roots___init__ an_Roots___init__ : Option Addr} {sl_Roots___init__ : Array (Option Value)} {oc_Roots___init__ kV_Roots___init__ dc_Roots___init__ pm_Roots___init__ cd_Roots___init__ ct_Roots___init__ : Value} {f_Roots___init__ : Addr}
    {od_Roots_sum_of an_Roots_sum_of : Option Addr} {sl_Roots_sum_of : Array (Option Value)} {oc_Roots_sum_of kV_Roots_sum_of dc_Roots_sum_of pm_Roots_sum_of cd_Roots_sum_of ct_Roots_sum_of : Value} {f_Roots_sum_of : Addr}
    {od_Roots_gap_of an_Roots_gap_of : Option Addr} {sl_Roots_gap_of : Array (Option Value)} {oc_Roots_gap_of kV_Roots_gap_of dc_Roots_gap_of pm_Roots_gap_of cd_Roots_gap_of ct_Roots_gap_of : Value} {f_Roots_gap_of : Addr}
    {od_Roots_product_of an_Roots_product_of : Option Addr} {sl_Roots_product_of : Array (Option Value)} {oc_Roots_product_of kV_Roots_product_of dc_Roots_product_of pm_Roots_product_of cd_Roots_product_of ct_Roots_product_of : Value} {f_Roots_product_of : Addr}
    {od_Roots_is_worth an_Roots_is_worth : Option Addr} {sl_Roots_is_worth : Array (Option Value)} {oc_Roots_is_worth kV_Roots_is_worth dc_Roots_is_worth pm_Roots_is_worth cd_Roots_is_worth ct_Roots_is_worth : Value} {f_Roots_is_worth : Addr}
    {od_Roots_worth_of an_Roots_worth_of : Option Addr} {sl_Roots_worth_of : Array (Option Value)} {oc_Roots_worth_of kV_Roots_worth_of dc_Roots_worth_of pm_Roots_worth_of cd_Roots_worth_of ct_Roots_worth_of : Value} {f_Roots_worth_of : Addr}
    (g_TurnError : PySem.W.nsIn K mainGlobals "TurnError" = some (some (.ref C_TurnError)))
    (g_BadGround : PySem.W.nsIn K mainGlobals "BadGround" = some (some (.ref C_BadGround)))
    (g_BadLength : PySem.W.nsIn K mainGlobals "BadLength" = some (some (.ref C_BadLength)))
    (g_NoRoot : PySem.W.nsIn K mainGlobals "NoRoot" = some (some (.ref C_NoRoot)))
    (g_Roots : PySem.W.nsIn K mainGlobals "Roots" = some (some (.ref C_Roots)))
    (on : PySem.W.specialIn K (.builtin "object.__class__") "__get__" = some (some (.builtin "getset_descriptor.__get__")))
    (ot : PySem.W.takesIn K (.builtin "object.__class__") = some true)
    (eT : PySem.W.subIn K (.ref C_TurnError) (.type "BaseException") = some true)
    (hT : PySem.W.hasDictIn K C_TurnError = true)
    (tT : PySem.W.typeIn K (.ref C_TurnError) = some (.type "type"))
    (xL_BadGround : K.lookup C_BadGround = some (excClassObj nm_BadGround q_BadGround C_BadGround N_BadGround bs_BadGround [.ref C_TurnError, .type "ValueError", .type "Exception", .type "BaseException", .type "object"] true sn_BadGround sb_BadGround ab_BadGround co_BadGround dd_BadGround m0_BadGround m1_BadGround m2_BadGround m3_BadGround m5_BadGround "ValueError.__new__"))
    (sa_BadGround : PySem.W.findIn K (.ref C_BadGround) "__setattr__" = some (some (.builtin "object.__setattr__")))
    (ga_BadGround : PySem.W.findIn K (.ref C_BadGround) "__getattribute__" = some (some (.builtin "BaseException.__getattribute__")))
    (gg_BadGround : PySem.W.findIn K (.ref C_BadGround) "__getattr__" = some none)
    (nw_BadGround : PySem.W.findIn K (.ref C_BadGround) "what" = some none)
    (ii_BadGround : PySem.W.findIn K (.ref C_BadGround) "__init__" = some (some (.ref fI)))
    (oc_BadGround : PySem.W.findIn K (.ref C_BadGround) "__class__" = some (some (.builtin "object.__class__")))
    (kC_BadGround : PySem.W.keepIn K (.ref C_BadGround) = true)
    (eC_BadGround : PySem.W.subIn K (.ref C_BadGround) (.type "BaseException") = some true)
    (tC_BadGround : PySem.W.typeIn K (.ref C_BadGround) = some (.type "type"))
    (hC_BadGround : PySem.W.hasDictIn K C_BadGround = true)
    (mo_BadGround : PySem.W.mroIn K C_BadGround (.type "object") = some true)
    (su_BadGround : PySem.W.subIn K (.ref C_BadGround) (.ref C_TurnError) = some true)
    (kv_BadGround : PySem.W.kitOne K (.ref C_BadGround) (.type "ValueError") = some true)
    (kt_BadGround : PySem.W.kitOne K (.ref C_BadGround) (.ref C_TurnError) = some true)
    (lI : K.lookup fI = some ⟨ocI, odI, .func (PySem.W.fnOf "__init__" "TurnError.__init__" (defArgs s_init) (defBody s_init) (defScope s_init) .none kVI dcI pmI anI cdI ctI), slI⟩)
    (cI : PySem.W.codeIn K cdI "TurnError.__init__" = true)
    (kI : PySem.W.keepIn K (.ref fI) = true)
    (tI : PySem.W.typeIn K (.ref fI) = some (.type "function"))
    (g_MOST_ORDER : PySem.W.nsIn K mainGlobals "MOST_ORDER" = some (some (.int 30 t_MOST_ORDER)))
    (pg_Roots : PySem.W.plainGet K C_Roots Str.empty = true)
    (hd_Roots : PySem.W.hasDictIn K C_Roots = true)
    (po_Roots : PySem.W.plainOver K C_Roots = true)
    (sa_Roots : PySem.W.findIn K (.ref C_Roots) "__setattr__" = some (some (.builtin "object.__setattr__")))
    (mk_Roots : PySem.W.makesIn K C_Roots = true)
    (kc_Roots : PySem.W.keepIn K (.ref C_Roots) = true)
    (nf_Roots_order : PySem.W.findIn K (.ref C_Roots) "order" = some none)
    (nf_Roots_rim : PySem.W.findIn K (.ref C_Roots) "rim" = some none)
    (at_Roots___init__ : PySem.W.findIn K (.ref C_Roots) "__init__" = some (some (.ref f_Roots___init__)))
    (lk_Roots___init__ : K.lookup f_Roots___init__ = some ⟨oc_Roots___init__, od_Roots___init__, .func (PySem.W.fnOf "__init__" "Roots.__init__" (defArgs s_Roots___init__) (defBody s_Roots___init__) (defScope s_Roots___init__) .none kV_Roots___init__ dc_Roots___init__ pm_Roots___init__ an_Roots___init__ cd_Roots___init__ ct_Roots___init__), sl_Roots___init__⟩)
    (cn_Roots___init__ : PySem.W.codeIn K cd_Roots___init__ "Roots.__init__" = true)
    (kp_Roots___init__ : PySem.W.keepIn K (.ref f_Roots___init__) = true)
    (fn_Roots___init__ : PySem.W.isFn K (.ref f_Roots___init__) = true)
    (at_Roots_sum_of : PySem.W.findIn K (.ref C_Roots) "sum_of" = some (some (.ref f_Roots_sum_of)))
    (lk_Roots_sum_of : K.lookup f_Roots_sum_of = some ⟨oc_Roots_sum_of, od_Roots_sum_of, .func (PySem.W.fnOf "sum_of" "Roots.sum_of" (defArgs s_Roots_sum_of) (defBody s_Roots_sum_of) (defScope s_Roots_sum_of) .none kV_Roots_sum_of dc_Roots_sum_of pm_Roots_sum_of an_Roots_sum_of cd_Roots_sum_of ct_Roots_sum_of), sl_Roots_sum_of⟩)
    (cn_Roots_sum_of : PySem.W.codeIn K cd_Roots_sum_of "Roots.sum_of" = true)
    (kp_Roots_sum_of : PySem.W.keepIn K (.ref f_Roots_sum_of) = true)
    (fn_Roots_sum_of : PySem.W.isFn K (.ref f_Roots_sum_of) = true)
    (at_Roots_gap_of : PySem.W.findIn K (.ref C_Roots) "gap_of" = some (some (.ref f_Roots_gap_of)))
    (lk_Roots_gap_of : K.lookup f_Roots_gap_of = some ⟨oc_Roots_gap_of, od_Roots_gap_of, .func (PySem.W.fnOf "gap_of" "Roots.gap_of" (defArgs s_Roots_gap_of) (defBody s_Roots_gap_of) (defScope s_Roots_gap_of) .none kV_Roots_gap_of dc_Roots_gap_of pm_Roots_gap_of an_Roots_gap_of cd_Roots_gap_of ct_Roots_gap_of), sl_Roots_gap_of⟩)
    (cn_Roots_gap_of : PySem.W.codeIn K cd_Roots_gap_of "Roots.gap_of" = true)
    (kp_Roots_gap_of : PySem.W.keepIn K (.ref f_Roots_gap_of) = true)
    (fn_Roots_gap_of : PySem.W.isFn K (.ref f_Roots_gap_of) = true)
    (at_Roots_product_of : PySem.W.findIn K (.ref C_Roots) "product_of" = some (some (.ref f_Roots_product_of)))
    (lk_Roots_product_of : K.lookup f_Roots_product_of = some ⟨oc_Roots_product_of, od_Roots_product_of, .func (PySem.W.fnOf "product_of" "Roots.product_of" (defArgs s_Roots_product_of) (defBody s_Roots_product_of) (defScope s_Roots_product_of) .none kV_Roots_product_of dc_Roots_product_of pm_Roots_product_of an_Roots_product_of cd_Roots_product_of ct_Roots_product_of), sl_Roots_product_of⟩)
    (cn_Roots_product_of : PySem.W.codeIn K cd_Roots_product_of "Roots.product_of" = true)
    (kp_Roots_product_of : PySem.W.keepIn K (.ref f_Roots_product_of) = true)
    (fn_Roots_product_of : PySem.W.isFn K (.ref f_Roots_product_of) = true)
    (at_Roots_is_worth : PySem.W.findIn K (.ref C_Roots) "is_worth" = some (some (.ref f_Roots_is_worth)))
    (lk_Roots_is_worth : K.lookup f_Roots_is_worth = some ⟨oc_Roots_is_worth, od_Roots_is_worth, .func (PySem.W.fnOf "is_worth" "Roots.is_worth" (defArgs s_Roots_is_worth) (defBody s_Roots_is_worth) (defScope s_Roots_is_worth) .none kV_Roots_is_worth dc_Roots_is_worth pm_Roots_is_worth an_Roots_is_worth cd_Roots_is_worth ct_Roots_is_worth), sl_Roots_is_worth⟩)
    (cn_Roots_is_worth : PySem.W.codeIn K cd_Roots_is_worth "Roots.is_worth" = true)
    (kp_Roots_is_worth : PySem.W.keepIn K (.ref f_Roots_is_worth) = true)
    (fn_Roots_is_worth : PySem.W.isFn K (.ref f_Roots_is_worth) = true)
    (at_Roots_worth_of : PySem.W.findIn K (.ref C_Roots) "worth_of" = some (some (.ref f_Roots_worth_of)))
    (lk_Roots_worth_of : K.lookup f_Roots_worth_of = some ⟨oc_Roots_worth_of, od_Roots_worth_of, .func (PySem.W.fnOf "worth_of" "Roots.worth_of" (defArgs s_Roots_worth_of) (defBody s_Roots_worth_of) (defScope s_Roots_worth_of) .none kV_Roots_worth_of dc_Roots_worth_of pm_Roots_worth_of an_Roots_worth_of cd_Roots_worth_of ct_Roots_worth_of), sl_Roots_worth_of⟩)
    (cn_Roots_worth_of : PySem.W.codeIn K cd_Roots_worth_of "Roots.worth_of" = true)
    (kp_Roots_worth_of : PySem.W.keepIn K (.ref f_Roots_worth_of) = true)
    (fn_Roots_worth_of : PySem.W.isFn K (.ref f_Roots_worth_of) = true)
    (fk1 : PySem.W.kitOne K (.ref C_BadGround) (.ref C_BadGround) = some true)
    (fk2 : PySem.W.kitAny K (.ref C_BadGround) [.ref C_BadLength, .ref C_NoRoot] = some false)
    (a0 : PySem.W.nsIn K mainGlobals "is_whole" = some (some (.ref f0))) (l0 : K.lookup f0 = some ⟨oc0, od0, .func (PySem.W.fnOf "is_whole" "is_whole" (defArgs s_is_whole) (defBody s_is_whole) (defScope s_is_whole) .none kV0 dc0 pm0 an0 cd0 ct0), sl0⟩) (c0 : PySem.W.codeIn K cd0 "is_whole" = true) (k0 : PySem.W.keepIn K (.ref f0) = true)
    (a1 : PySem.W.nsIn K mainGlobals "divisors" = some (some (.ref f1))) (l1 : K.lookup f1 = some ⟨oc1, od1, .func (PySem.W.fnOf "divisors" "divisors" (defArgs s_divisors) (defBody s_divisors) (defScope s_divisors) .none kV1 dc1 pm1 an1 cd1 ct1), sl1⟩) (c1 : PySem.W.codeIn K cd1 "divisors" = true) (k1 : PySem.W.keepIn K (.ref f1) = true)
    (a2 : PySem.W.nsIn K mainGlobals "divided" = some (some (.ref f2))) (l2 : K.lookup f2 = some ⟨oc2, od2, .func (PySem.W.fnOf "divided" "divided" (defArgs s_divided) (defBody s_divided) (defScope s_divided) .none kV2 dc2 pm2 an2 cd2 ct2), sl2⟩) (c2 : PySem.W.codeIn K cd2 "divided" = true) (k2 : PySem.W.keepIn K (.ref f2) = true)
    (a3 : PySem.W.nsIn K mainGlobals "multiplied" = some (some (.ref f3))) (l3 : K.lookup f3 = some ⟨oc3, od3, .func (PySem.W.fnOf "multiplied" "multiplied" (defArgs s_multiplied) (defBody s_multiplied) (defScope s_multiplied) .none kV3 dc3 pm3 an3 cd3 ct3), sl3⟩) (c3 : PySem.W.codeIn K cd3 "multiplied" = true) (k3 : PySem.W.keepIn K (.ref f3) = true)
    (a4 : PySem.W.nsIn K mainGlobals "wheel" = some (some (.ref f4))) (l4 : K.lookup f4 = some ⟨oc4, od4, .func (PySem.W.fnOf "wheel" "wheel" (defArgs s_wheel) (defBody s_wheel) (defScope s_wheel) .none kV4 dc4 pm4 an4 cd4 ct4), sl4⟩) (c4 : PySem.W.codeIn K cd4 "wheel" = true) (k4 : PySem.W.keepIn K (.ref f4) = true)
    (a5 : PySem.W.nsIn K mainGlobals "_law_box" = some (some (.ref f5))) (l5 : K.lookup f5 = some ⟨oc5, od5, .func (PySem.W.fnOf "_law_box" "_law_box" (defArgs s__law_box) (defBody s__law_box) (defScope s__law_box) .none kV5 dc5 pm5 an5 cd5 ct5), sl5⟩) (c5 : PySem.W.codeIn K cd5 "_law_box" = true) (k5 : PySem.W.keepIn K (.ref f5) = true)
    (a6 : PySem.W.nsIn K mainGlobals "_law_take" = some (some (.ref f6))) (l6 : K.lookup f6 = some ⟨oc6, od6, .func (PySem.W.fnOf "_law_take" "_law_take" (defArgs s__law_take) (defBody s__law_take) (defScope s__law_take) .none kV6 dc6 pm6 an6 cd6 ct6), sl6⟩) (c6 : PySem.W.codeIn K cd6 "_law_take" = true) (k6 : PySem.W.keepIn K (.ref f6) = true)
    (a7 : PySem.W.nsIn K mainGlobals "_law_pick" = some (some (.ref f7))) (l7 : K.lookup f7 = some ⟨oc7, od7, .func (PySem.W.fnOf "_law_pick" "_law_pick" (defArgs s__law_pick) (defBody s__law_pick) (defScope s__law_pick) .none kV7 dc7 pm7 an7 cd7 ct7), sl7⟩) (c7 : PySem.W.codeIn K cd7 "_law_pick" = true) (k7 : PySem.W.keepIn K (.ref f7) = true)
    (a8 : PySem.W.nsIn K mainGlobals "_law_same" = some (some (.ref f8))) (l8 : K.lookup f8 = some ⟨oc8, od8, .func (PySem.W.fnOf "_law_same" "_law_same" (defArgs s__law_same) (defBody s__law_same) (defScope s__law_same) .none kV8 dc8 pm8 an8 cd8 ct8), sl8⟩) (c8 : PySem.W.codeIn K cd8 "_law_same" = true) (k8 : PySem.W.keepIn K (.ref f8) = true)
    (a9 : PySem.W.nsIn K mainGlobals "_law_divided" = some (some (.ref f9))) (l9 : K.lookup f9 = some ⟨oc9, od9, .func (PySem.W.fnOf "_law_divided" "_law_divided" (defArgs s__law_divided) (defBody s__law_divided) (defScope s__law_divided) .none kV9 dc9 pm9 an9 cd9 ct9), sl9⟩) (c9 : PySem.W.codeIn K cd9 "_law_divided" = true) (k9 : PySem.W.keepIn K (.ref f9) = true)
    (a10 : PySem.W.nsIn K mainGlobals "_law_own_wheel" = some (some (.ref f10))) (l10 : K.lookup f10 = some ⟨oc10, od10, .func (PySem.W.fnOf "_law_own_wheel" "_law_own_wheel" (defArgs s__law_own_wheel) (defBody s__law_own_wheel) (defScope s__law_own_wheel) .none kV10 dc10 pm10 an10 cd10 ct10), sl10⟩) (c10 : PySem.W.codeIn K cd10 "_law_own_wheel" = true) (k10 : PySem.W.keepIn K (.ref f10) = true)
    (a11 : PySem.W.nsIn K mainGlobals "_law_rest_by" = some (some (.ref f11))) (l11 : K.lookup f11 = some ⟨oc11, od11, .func (PySem.W.fnOf "_law_rest_by" "_law_rest_by" (defArgs s__law_rest_by) (defBody s__law_rest_by) (defScope s__law_rest_by) .none kV11 dc11 pm11 an11 cd11 ct11), sl11⟩) (c11 : PySem.W.codeIn K cd11 "_law_rest_by" = true) (k11 : PySem.W.keepIn K (.ref f11) = true)
    (a12 : PySem.W.nsIn K mainGlobals "_law_worth" = some (some (.ref f12))) (l12 : K.lookup f12 = some ⟨oc12, od12, .func (PySem.W.fnOf "_law_worth" "_law_worth" (defArgs s__law_worth) (defBody s__law_worth) (defScope s__law_worth) .none kV12 dc12 pm12 an12 cd12 ct12), sl12⟩) (c12 : PySem.W.codeIn K cd12 "_law_worth" = true) (k12 : PySem.W.keepIn K (.ref f12) = true)
    (a13 : PySem.W.nsIn K mainGlobals "_law_exact" = some (some (.ref f13))) (l13 : K.lookup f13 = some ⟨oc13, od13, .func (PySem.W.fnOf "_law_exact" "_law_exact" (defArgs s__law_exact) (defBody s__law_exact) (defScope s__law_exact) .none kV13 dc13 pm13 an13 cd13 ct13), sl13⟩) (c13 : PySem.W.codeIn K cd13 "_law_exact" = true) (k13 : PySem.W.keepIn K (.ref f13) = true)
    (a14 : PySem.W.nsIn K mainGlobals "_law_poly_times" = some (some (.ref f14))) (l14 : K.lookup f14 = some ⟨oc14, od14, .func (PySem.W.fnOf "_law_poly_times" "_law_poly_times" (defArgs s__law_poly_times) (defBody s__law_poly_times) (defScope s__law_poly_times) .none kV14 dc14 pm14 an14 cd14 ct14), sl14⟩) (c14 : PySem.W.codeIn K cd14 "_law_poly_times" = true) (k14 : PySem.W.keepIn K (.ref f14) = true)
    (a15 : PySem.W.nsIn K mainGlobals "_law_made_of" = some (some (.ref f15))) (l15 : K.lookup f15 = some ⟨oc15, od15, .func (PySem.W.fnOf "_law_made_of" "_law_made_of" (defArgs s__law_made_of) (defBody s__law_made_of) (defScope s__law_made_of) .none kV15 dc15 pm15 an15 cd15 ct15), sl15⟩) (c15 : PySem.W.codeIn K cd15 "_law_made_of" = true) (k15 : PySem.W.keepIn K (.ref f15) = true)
    (a16 : PySem.W.nsIn K mainGlobals "_law_pair_right" = some (some (.ref f16))) (l16 : K.lookup f16 = some ⟨oc16, od16, .func (PySem.W.fnOf "_law_pair_right" "_law_pair_right" (defArgs s__law_pair_right) (defBody s__law_pair_right) (defScope s__law_pair_right) .none kV16 dc16 pm16 an16 cd16 ct16), sl16⟩) (c16 : PySem.W.codeIn K cd16 "_law_pair_right" = true) (k16 : PySem.W.keepIn K (.ref f16) = true)
    (a17 : PySem.W.nsIn K mainGlobals "_law_things_right" = some (some (.ref f17))) (l17 : K.lookup f17 = some ⟨oc17, od17, .func (PySem.W.fnOf "_law_things_right" "_law_things_right" (defArgs s__law_things_right) (defBody s__law_things_right) (defScope s__law_things_right) .none kV17 dc17 pm17 an17 cd17 ct17), sl17⟩) (c17 : PySem.W.codeIn K cd17 "_law_things_right" = true) (k17 : PySem.W.keepIn K (.ref f17) = true)
    (a18 : PySem.W.nsIn K mainGlobals "law" = some (some (.ref f18))) (l18 : K.lookup f18 = some ⟨oc18, od18, .func (PySem.W.fnOf "law" "law" (defArgs s_law) (defBody s_law) (defScope s_law) .none kV18 dc18 pm18 an18 cd18 ct18), sl18⟩) (c18 : PySem.W.codeIn K cd18 "law" = true) (k18 : PySem.W.keepIn K (.ref f18) = true)
    (z0 : PySem.W.nsIn K mainGlobals "ValueError" = some none) (z1 : PySem.W.nsIn K mainGlobals "abs" = some none) (z2 : PySem.W.nsIn K mainGlobals "all" = some none) (z3 : PySem.W.nsIn K mainGlobals "any" = some none) (z4 : PySem.W.nsIn K mainGlobals "bool" = some none) (z5 : PySem.W.nsIn K mainGlobals "enumerate" = some none) (z6 : PySem.W.nsIn K mainGlobals "int" = some none) (z7 : PySem.W.nsIn K mainGlobals "isinstance" = some none) (z8 : PySem.W.nsIn K mainGlobals "len" = some none) (z9 : PySem.W.nsIn K mainGlobals "list" = some none) (z10 : PySem.W.nsIn K mainGlobals "max" = some none) (z11 : PySem.W.nsIn K mainGlobals "min" = some none) (z12 : PySem.W.nsIn K mainGlobals "range" = some none) (z13 : PySem.W.nsIn K mainGlobals "repr" = some none) (z14 : PySem.W.nsIn K mainGlobals "str" = some none) (z15 : PySem.W.nsIn K mainGlobals "tuple" = some none) (z16 : PySem.W.nsIn K mainGlobals "zip" = some none) :
    ∃ fd : FuncData, (∀ (s : Shared) (v : Value), BindsTo s fd ⟨[v], []⟩ [("_law_script", v)]) ∧ ∀ base : Heap, K.In base → base.Ns mainGlobals mg → FnG l.prog w K mg base CX0 10 fa fd ["_law_script"] (spLaw K) := by
  have e := hfa.symm.trans (PySem.W.mg_of X G a18)
  cases e
  have T : Blt mg := ⟨PySem.W.mg_none_of X G z0, PySem.W.mg_none_of X G z1, PySem.W.mg_none_of X G z2, PySem.W.mg_none_of X G z3, PySem.W.mg_none_of X G z4, PySem.W.mg_none_of X G z5, PySem.W.mg_none_of X G z6, PySem.W.mg_none_of X G z7, PySem.W.mg_none_of X G z8, PySem.W.mg_none_of X G z9, PySem.W.mg_none_of X G z10, PySem.W.mg_none_of X G z11, PySem.W.mg_none_of X G z12, PySem.W.mg_none_of X G z13, PySem.W.mg_none_of X G z14, PySem.W.mg_none_of X G z15, PySem.W.mg_none_of X G z16⟩
  have F0 := fun_mk (st := s_is_whole) l0 c0 k0
  have b0 := F0.binds (ps := P_is_whole) fun _ _ _ _ _ _ us hl => match us, hl with | [_], _ => rfl
  have F1 := fun_mk (st := s_divisors) l1 c1 k1
  have b1 := F1.binds (ps := P_divisors) fun _ _ _ _ _ _ us hl => match us, hl with | [_], _ => rfl
  have F2 := fun_mk (st := s_divided) l2 c2 k2
  have b2 := F2.binds (ps := P_divided) fun _ _ _ _ _ _ us hl => match us, hl with | [_, _], _ => rfl
  have F3 := fun_mk (st := s_multiplied) l3 c3 k3
  have b3 := F3.binds (ps := P_multiplied) fun _ _ _ _ _ _ us hl => match us, hl with | [_, _], _ => rfl
  have F4 := fun_mk (st := s_wheel) l4 c4 k4
  have b4 := F4.binds (ps := P_wheel) fun _ _ _ _ _ _ us hl => match us, hl with | [_], _ => rfl
  have F5 := fun_mk (st := s__law_box) l5 c5 k5
  have b5 := F5.binds (ps := P__law_box) fun _ _ _ _ _ _ us hl => match us, hl with | [_, _], _ => rfl
  have F6 := fun_mk (st := s__law_take) l6 c6 k6
  have b6 := F6.binds (ps := P__law_take) fun _ _ _ _ _ _ us hl => match us, hl with | [_, _], _ => rfl
  have F7 := fun_mk (st := s__law_pick) l7 c7 k7
  have b7 := F7.binds (ps := P__law_pick) fun _ _ _ _ _ _ us hl => match us, hl with | [_, _], _ => rfl
  have F8 := fun_mk (st := s__law_same) l8 c8 k8
  have b8 := F8.binds (ps := P__law_same) fun _ _ _ _ _ _ us hl => match us, hl with | [_, _], _ => rfl
  have F9 := fun_mk (st := s__law_divided) l9 c9 k9
  have b9 := F9.binds (ps := P__law_divided) fun _ _ _ _ _ _ us hl => match us, hl with | [_, _], _ => rfl
  have F10 := fun_mk (st := s__law_own_wheel) l10 c10 k10
  have b10 := F10.binds (ps := P__law_own_wheel) fun _ _ _ _ _ _ us hl => match us, hl with | [_], _ => rfl
  have F11 := fun_mk (st := s__law_rest_by) l11 c11 k11
  have b11 := F11.binds (ps := P__law_rest_by) fun _ _ _ _ _ _ us hl => match us, hl with | [_, _], _ => rfl
  have F12 := fun_mk (st := s__law_worth) l12 c12 k12
  have b12 := F12.binds (ps := P__law_worth) fun _ _ _ _ _ _ us hl => match us, hl with | [_, _], _ => rfl
  have F13 := fun_mk (st := s__law_exact) l13 c13 k13
  have b13 := F13.binds (ps := P__law_exact) fun _ _ _ _ _ _ us hl => match us, hl with | [_], _ => rfl
  have F14 := fun_mk (st := s__law_poly_times) l14 c14 k14
  have b14 := F14.binds (ps := P__law_poly_times) fun _ _ _ _ _ _ us hl => match us, hl with | [_, _], _ => rfl
  have F15 := fun_mk (st := s__law_made_of) l15 c15 k15
  have b15 := F15.binds (ps := P__law_made_of) fun _ _ _ _ _ _ us hl => match us, hl with | [_], _ => rfl
  have F16 := fun_mk (st := s__law_pair_right) l16 c16 k16
  have b16 := F16.binds (ps := P__law_pair_right) fun _ _ _ _ _ _ us hl => match us, hl with | [_, _, _], _ => rfl
  have F17 := fun_mk (st := s__law_things_right) l17 c17 k17
  have b17 := F17.binds (ps := P__law_things_right) fun _ _ _ _ _ _ us hl => match us, hl with | [_, _, _], _ => rfl
  have F18 := fun_mk (st := s_law) l18 c18 k18
  have F_I := fun_mk (st := s_init) lI cI kI
  have b_I := F_I.binds (ps := N_init) fun _ _ _ _ _ _ us hl => match us, hl with | [_, _], _ => rfl
  have EK_BadGround : ExK K C_BadGround := ⟨⟨⟨nm_BadGround, q_BadGround, N_BadGround, bs_BadGround, _, sn_BadGround, sb_BadGround, ab_BadGround, co_BadGround, dd_BadGround, m0_BadGround, m1_BadGround, m2_BadGround, m3_BadGround, m5_BadGround, xL_BadGround, rfl⟩, sa_BadGround, eC_BadGround, tC_BadGround, kC_BadGround⟩, ⟨ga_BadGround, gg_BadGround, eC_BadGround, hC_BadGround⟩, ⟨ga_BadGround, gg_BadGround, eC_BadGround, hC_BadGround, oc_BadGround, on, ot, mo_BadGround⟩, nw_BadGround⟩
  have R_BadGround : Ref K C_TurnError C_BadGround fI := ⟨EK_BadGround, ii_BadGround, PySem.W.exm_ref eT hT tT su_BadGround, kv_BadGround, kt_BadGround⟩
  have M_MOST_ORDER := PySem.W.mg_of X G g_MOST_ORDER
  have CL_Roots : L2.Cls K C_Roots := ⟨pg_Roots, hd_Roots, po_Roots, sa_Roots⟩
  have F_Roots___init__ := fun_mk (st := s_Roots___init__) lk_Roots___init__ cn_Roots___init__ kp_Roots___init__
  have B_Roots___init__ := F_Roots___init__.binds (ps := P_Roots___init__) fun _ _ _ _ _ _ us hl => match us, hl with | [_, _], _ => rfl
  have MK_Roots : Mk K C_Roots f_Roots___init__ := ⟨mk_Roots, at_Roots___init__, fn_Roots___init__, kc_Roots⟩
  have F_Roots_sum_of := fun_mk (st := s_Roots_sum_of) lk_Roots_sum_of cn_Roots_sum_of kp_Roots_sum_of
  have B_Roots_sum_of := F_Roots_sum_of.binds (ps := P_Roots_sum_of) fun _ _ _ _ _ _ us hl => match us, hl with | [_, _, _], _ => rfl
  have ME_Roots_sum_of : Meth K C_Roots "sum_of" f_Roots_sum_of := ⟨at_Roots_sum_of, fn_Roots_sum_of, kp_Roots_sum_of⟩
  have F_Roots_gap_of := fun_mk (st := s_Roots_gap_of) lk_Roots_gap_of cn_Roots_gap_of kp_Roots_gap_of
  have B_Roots_gap_of := F_Roots_gap_of.binds (ps := P_Roots_gap_of) fun _ _ _ _ _ _ us hl => match us, hl with | [_, _, _], _ => rfl
  have ME_Roots_gap_of : Meth K C_Roots "gap_of" f_Roots_gap_of := ⟨at_Roots_gap_of, fn_Roots_gap_of, kp_Roots_gap_of⟩
  have F_Roots_product_of := fun_mk (st := s_Roots_product_of) lk_Roots_product_of cn_Roots_product_of kp_Roots_product_of
  have B_Roots_product_of := F_Roots_product_of.binds (ps := P_Roots_product_of) fun _ _ _ _ _ _ us hl => match us, hl with | [_, _, _], _ => rfl
  have ME_Roots_product_of : Meth K C_Roots "product_of" f_Roots_product_of := ⟨at_Roots_product_of, fn_Roots_product_of, kp_Roots_product_of⟩
  have F_Roots_is_worth := fun_mk (st := s_Roots_is_worth) lk_Roots_is_worth cn_Roots_is_worth kp_Roots_is_worth
  have B_Roots_is_worth := F_Roots_is_worth.binds (ps := P_Roots_is_worth) fun _ _ _ _ _ _ us hl => match us, hl with | [_, _], _ => rfl
  have ME_Roots_is_worth : Meth K C_Roots "is_worth" f_Roots_is_worth := ⟨at_Roots_is_worth, fn_Roots_is_worth, kp_Roots_is_worth⟩
  have F_Roots_worth_of := fun_mk (st := s_Roots_worth_of) lk_Roots_worth_of cn_Roots_worth_of kp_Roots_worth_of
  have B_Roots_worth_of := F_Roots_worth_of.binds (ps := P_Roots_worth_of) fun _ _ _ _ _ _ us hl => match us, hl with | [_, _], _ => rfl
  have ME_Roots_worth_of : Meth K C_Roots "worth_of" f_Roots_worth_of := ⟨at_Roots_worth_of, fn_Roots_worth_of, kp_Roots_worth_of⟩
  have M_TurnError := PySem.W.mg_of X G g_TurnError
  have M_BadGround := PySem.W.mg_of X G g_BadGround
  have M_BadLength := PySem.W.mg_of X G g_BadLength
  have M_NoRoot := PySem.W.mg_of X G g_NoRoot
  have M_Roots := PySem.W.mg_of X G g_Roots
  refine ⟨_, fun s v => .of_eq rfl, fun base _ _ => ok_law (P := l.prog) (w := w) (base := base) F18 T ⟨⟨_, _, F0, b0, PySem.W.mg_of X G a0⟩, ⟨_, _, F1, b1, PySem.W.mg_of X G a1⟩, ⟨_, _, F2, b2, PySem.W.mg_of X G a2⟩, ⟨_, _, F3, b3, PySem.W.mg_of X G a3⟩, ⟨_, _, F4, b4, PySem.W.mg_of X G a4⟩, ⟨_, _, F5, b5, PySem.W.mg_of X G a5⟩, ⟨_, _, F6, b6, PySem.W.mg_of X G a6⟩, ⟨_, _, F7, b7, PySem.W.mg_of X G a7⟩, ⟨_, _, F8, b8, PySem.W.mg_of X G a8⟩, ⟨_, _, F9, b9, PySem.W.mg_of X G a9⟩, ⟨_, _, F10, b10, PySem.W.mg_of X G a10⟩, ⟨_, _, F11, b11, PySem.W.mg_of X G a11⟩, ⟨_, _, F12, b12, PySem.W.mg_of X G a12⟩, ⟨_, _, F13, b13, PySem.W.mg_of X G a13⟩, ⟨_, _, F14, b14, PySem.W.mg_of X G a14⟩, ⟨_, _, F15, b15, PySem.W.mg_of X G a15⟩, ⟨_, _, F16, b16, PySem.W.mg_of X G a16⟩, ⟨_, _, F17, b17, PySem.W.mg_of X G a17⟩⟩ ⟨F_I, b_I, tI, R_BadGround, M_TurnError, M_BadGround, M_BadLength, M_NoRoot, M_Roots, ⟨_, M_MOST_ORDER⟩, fk1, fk2, ⟨CL_Roots, nf_Roots_order, nf_Roots_rim⟩, ⟨_, _, MK_Roots, F_Roots___init__, B_Roots___init__⟩, ⟨_, _, _, _, _, _, _, _, _, _, F_Roots_sum_of, B_Roots_sum_of, ME_Roots_sum_of, F_Roots_gap_of, B_Roots_gap_of, ME_Roots_gap_of, F_Roots_product_of, B_Roots_product_of, ME_Roots_product_of, F_Roots_is_worth, B_Roots_is_worth, ME_Roots_is_worth, F_Roots_worth_of, B_Roots_worth_of, ME_Roots_worth_of⟩⟩⟩
end My
open PySem PySem.W PyProof.Rows
set_option maxRecDepth 100000 in
set_option maxHeartbeats 0 in
theorem PySem.Challenge.cw_turnsums_k12_exact_worths_multiplied_holds : PySem.Challenge.rw_turnsums_k12_exact_worths_multiplied.Holds := by
  w_on; o_law; k_head; (case hw => w_witness2)
  k_fill
  refine My.walk_ofG (l := PySem.Challenge.rw_turnsums_k12_exact_worths_multiplied) (n := 63) (k := 10) (x := "_law_script") (sp := fun w => My.spLaw _) rfl (by decide) rfl ⟨rfl, by decide, by decide⟩ (fun w h Y => PySem.W.kIn_of Y) ?F (fun _ _ a ns hl _ hS => ⟨a, ns, rfl, hS, hl, fun _ => rfl⟩)
  case F =>
    intro w mg fa h KX G hmg
    refine' My.all_mk KX G hmg ?g_TurnError ?g_BadGround ?g_BadLength ?g_NoRoot ?g_Roots ?on ?ot ?eT ?hT ?tT ?xL_BadGround ?sa_BadGround ?ga_BadGround ?gg_BadGround ?nw_BadGround ?ii_BadGround ?oc_BadGround ?kC_BadGround ?eC_BadGround ?tC_BadGround ?hC_BadGround ?mo_BadGround ?su_BadGround ?kv_BadGround ?kt_BadGround ?lI ?cI ?kI ?tI ?g_MOST_ORDER ?pg_Roots ?hd_Roots ?po_Roots ?sa_Roots ?mk_Roots ?kc_Roots ?nf_Roots_order ?nf_Roots_rim ?at_Roots___init__ ?lk_Roots___init__ ?cn_Roots___init__ ?kp_Roots___init__ ?fn_Roots___init__ ?at_Roots_sum_of ?lk_Roots_sum_of ?cn_Roots_sum_of ?kp_Roots_sum_of ?fn_Roots_sum_of ?at_Roots_gap_of ?lk_Roots_gap_of ?cn_Roots_gap_of ?kp_Roots_gap_of ?fn_Roots_gap_of ?at_Roots_product_of ?lk_Roots_product_of ?cn_Roots_product_of ?kp_Roots_product_of ?fn_Roots_product_of ?at_Roots_is_worth ?lk_Roots_is_worth ?cn_Roots_is_worth ?kp_Roots_is_worth ?fn_Roots_is_worth ?at_Roots_worth_of ?lk_Roots_worth_of ?cn_Roots_worth_of ?kp_Roots_worth_of ?fn_Roots_worth_of ?fk1 ?fk2 ?a0 ?l0 ?c0 ?k0 ?a1 ?l1 ?c1 ?k1 ?a2 ?l2 ?c2 ?k2 ?a3 ?l3 ?c3 ?k3 ?a4 ?l4 ?c4 ?k4 ?a5 ?l5 ?c5 ?k5 ?a6 ?l6 ?c6 ?k6 ?a7 ?l7 ?c7 ?k7 ?a8 ?l8 ?c8 ?k8 ?a9 ?l9 ?c9 ?k9 ?a10 ?l10 ?c10 ?k10 ?a11 ?l11 ?c11 ?k11 ?a12 ?l12 ?c12 ?k12 ?a13 ?l13 ?c13 ?k13 ?a14 ?l14 ?c14 ?k14 ?a15 ?l15 ?c15 ?k15 ?a16 ?l16 ?c16 ?k16 ?a17 ?l17 ?c17 ?k17 ?a18 ?l18 ?c18 ?k18 ?z0 ?z1 ?z2 ?z3 ?z4 ?z5 ?z6 ?z7 ?z8 ?z9 ?z10 ?z11 ?z12 ?z13 ?z14 ?z15 ?z16
    (case g_TurnError => first | k_is | rfl)
    (case g_BadGround => first | k_is | rfl)
    (case g_BadLength => first | k_is | rfl)
    (case g_NoRoot => first | k_is | rfl)
    (case g_Roots => first | k_is | rfl)
    (case on => first | k_is | rfl)
    (case ot => first | k_is | rfl)
    (case eT => first | k_is | rfl)
    (case hT => first | k_is | rfl)
    (case tT => first | k_is | rfl)
    (case xL_BadGround => first | k_is | rfl)
    (case sa_BadGround => first | k_is | rfl)
    (case ga_BadGround => first | k_is | rfl)
    (case gg_BadGround => first | k_is | rfl)
    (case nw_BadGround => first | k_is | rfl)
    (case ii_BadGround => first | k_is | rfl)
    (case oc_BadGround => first | k_is | rfl)
    (case kC_BadGround => first | k_is | rfl)
    (case eC_BadGround => first | k_is | rfl)
    (case tC_BadGround => first | k_is | rfl)
    (case hC_BadGround => first | k_is | rfl)
    (case mo_BadGround => first | k_is | rfl)
    (case su_BadGround => first | k_is | rfl)
    (case kv_BadGround => first | k_is | rfl)
    (case kt_BadGround => first | k_is | rfl)
    (case lI => first | k_is | rfl)
    (case cI => first | k_is | rfl)
    (case kI => first | k_is | rfl)
    (case tI => first | k_is | rfl)
    (case g_MOST_ORDER => first | k_is | rfl)
    (case pg_Roots => first | k_is | rfl)
    (case hd_Roots => first | k_is | rfl)
    (case po_Roots => first | k_is | rfl)
    (case sa_Roots => first | k_is | rfl)
    (case mk_Roots => first | k_is | rfl)
    (case kc_Roots => first | k_is | rfl)
    (case nf_Roots_order => first | k_is | rfl)
    (case nf_Roots_rim => first | k_is | rfl)
    (case at_Roots___init__ => first | k_is | rfl)
    (case lk_Roots___init__ => first | k_is | rfl)
    (case cn_Roots___init__ => first | k_is | rfl)
    (case kp_Roots___init__ => first | k_is | rfl)
    (case fn_Roots___init__ => first | k_is | rfl)
    (case at_Roots_sum_of => first | k_is | rfl)
    (case lk_Roots_sum_of => first | k_is | rfl)
    (case cn_Roots_sum_of => first | k_is | rfl)
    (case kp_Roots_sum_of => first | k_is | rfl)
    (case fn_Roots_sum_of => first | k_is | rfl)
    (case at_Roots_gap_of => first | k_is | rfl)
    (case lk_Roots_gap_of => first | k_is | rfl)
    (case cn_Roots_gap_of => first | k_is | rfl)
    (case kp_Roots_gap_of => first | k_is | rfl)
    (case fn_Roots_gap_of => first | k_is | rfl)
    (case at_Roots_product_of => first | k_is | rfl)
    (case lk_Roots_product_of => first | k_is | rfl)
    (case cn_Roots_product_of => first | k_is | rfl)
    (case kp_Roots_product_of => first | k_is | rfl)
    (case fn_Roots_product_of => first | k_is | rfl)
    (case at_Roots_is_worth => first | k_is | rfl)
    (case lk_Roots_is_worth => first | k_is | rfl)
    (case cn_Roots_is_worth => first | k_is | rfl)
    (case kp_Roots_is_worth => first | k_is | rfl)
    (case fn_Roots_is_worth => first | k_is | rfl)
    (case at_Roots_worth_of => first | k_is | rfl)
    (case lk_Roots_worth_of => first | k_is | rfl)
    (case cn_Roots_worth_of => first | k_is | rfl)
    (case kp_Roots_worth_of => first | k_is | rfl)
    (case fn_Roots_worth_of => first | k_is | rfl)
    (case fk1 => first | k_is | rfl)
    (case fk2 => first | k_is | rfl)
    (case a0 => k_is)
    (case l0 => k_is)
    (case c0 => k_is)
    (case k0 => k_is)
    (case a1 => k_is)
    (case l1 => k_is)
    (case c1 => k_is)
    (case k1 => k_is)
    (case a2 => k_is)
    (case l2 => k_is)
    (case c2 => k_is)
    (case k2 => k_is)
    (case a3 => k_is)
    (case l3 => k_is)
    (case c3 => k_is)
    (case k3 => k_is)
    (case a4 => k_is)
    (case l4 => k_is)
    (case c4 => k_is)
    (case k4 => k_is)
    (case a5 => k_is)
    (case l5 => k_is)
    (case c5 => k_is)
    (case k5 => k_is)
    (case a6 => k_is)
    (case l6 => k_is)
    (case c6 => k_is)
    (case k6 => k_is)
    (case a7 => k_is)
    (case l7 => k_is)
    (case c7 => k_is)
    (case k7 => k_is)
    (case a8 => k_is)
    (case l8 => k_is)
    (case c8 => k_is)
    (case k8 => k_is)
    (case a9 => k_is)
    (case l9 => k_is)
    (case c9 => k_is)
    (case k9 => k_is)
    (case a10 => k_is)
    (case l10 => k_is)
    (case c10 => k_is)
    (case k10 => k_is)
    (case a11 => k_is)
    (case l11 => k_is)
    (case c11 => k_is)
    (case k11 => k_is)
    (case a12 => k_is)
    (case l12 => k_is)
    (case c12 => k_is)
    (case k12 => k_is)
    (case a13 => k_is)
    (case l13 => k_is)
    (case c13 => k_is)
    (case k13 => k_is)
    (case a14 => k_is)
    (case l14 => k_is)
    (case c14 => k_is)
    (case k14 => k_is)
    (case a15 => k_is)
    (case l15 => k_is)
    (case c15 => k_is)
    (case k15 => k_is)
    (case a16 => k_is)
    (case l16 => k_is)
    (case c16 => k_is)
    (case k16 => k_is)
    (case a17 => k_is)
    (case l17 => k_is)
    (case c17 => k_is)
    (case k17 => k_is)
    (case a18 => k_is)
    (case l18 => k_is)
    (case c18 => k_is)
    (case k18 => k_is)
    (case z0 => k_is)
    (case z1 => k_is)
    (case z2 => k_is)
    (case z3 => k_is)
    (case z4 => k_is)
    (case z5 => k_is)
    (case z6 => k_is)
    (case z7 => k_is)
    (case z8 => k_is)
    (case z9 => k_is)
    (case z10 => k_is)
    (case z11 => k_is)
    (case z12 => k_is)
    (case z13 => k_is)
    (case z14 => k_is)
    (case z15 => k_is)
    (case z16 => k_is)

