import PyProof.Rows.All
import Wide.All
import OpenK.AllK
import Wide.FinOn
import HandS.ForMost
import HandS.IsInst
import HandS.Style
import HandS.Wide
import HandS.WideMore
import HandS.Zip
import HandS.Flow
import HandS.SetFor
import HandS.Strs
import HandS.SortInts
import HandS.ExcInit
import HandS.ExcField
import HandS.ExcIs
import HandS.ExcValue
import HandS.WordsExc
import HandS.NoneIn
import HandS.Conv
import KE.KExcIs
import PySem.Challenge.RW_turnsums_k10_roots_of_rests
set_option Elab.async false
set_option linter.all false
set_option maxRecDepth 100000
set_option maxHeartbeats 4000000
namespace My
open PySem L2
def top (i : Nat) : Stmt := PySem.Challenge.pw_turnsums_k10_roots_of_rests.main.body.getD i (.Pass ⟨0, 0, 0, 0⟩)
/-- a def of the text: where it stands, how it is called -/
structure Df (K : PySem.W.Frag) (mg : Str → Option Value) (x : Str) (st : Stmt) (ps : List Str) (f : Addr) (fd : FuncData) : Prop where
  F : Fun K x x st f fd
  b : Binds K fd ps []
  g : mg x = some (.ref f)
/-! heaps: all but the box stays -/
theorem same_upd {H H' : Hp} {p : Addr} {o : HO} (h : Same H H') (n : H' p = none) : Same H (upd H' p o) := fun b x e => by
  rw [upd_ne (ne_of_none (h b x e) n)]
  exact h b x e
theorem same_new {H : Hp} {p : Addr} {o : HO} (n : H p = none) : Same H (upd H p o) := same_upd (Same.refl H) n
theorem same_mut {H H' : Hp} {p : Addr} {o : HO} (h : Same H H') (n : H p = none) : Same H (upd H' p o) := fun b x e => by
  rw [upd_ne (ne_of_none e n)]
  exact h b x e
theorem same_t {K : PySem.W.Frag} {H H' : Hp} {a : Addr} {xs : List V} (e : Same H H') (h : SqT K H a xs) : SqT K H' a xs := by
  rcases h with (h | ⟨o, h⟩) | h
  · exact .inl (.inl (e _ _ h))
  · exact .inl (.inr ⟨o, e _ _ h⟩)
  · exact .inr h
def Keep (b : Addr) (H H' : Hp) : Prop := ∀ a o, a ≠ b → H a = some o → H' a = some o
theorem Keep.refl (b : Addr) (H : Hp) : Keep b H H := fun _ _ _ h => h
theorem Keep.trans {b : Addr} {H H1 H2 : Hp} (a : Keep b H H1) (c : Keep b H1 H2) : Keep b H H2 := fun x o n h => c x o n (a x o n h)
theorem keepS {b : Addr} {H H' : Hp} (h : Same H H') : Keep b H H' := fun x o _ e => h x o e
theorem keep_same {b : Addr} {H0 H H' : Hp} (a : Same H0 H) (n : H0 b = none) (k : Keep b H H') : Same H0 H' := fun x o e => k x o (ne_of_none e n) (a x o e)
theorem keep_upd {b : Addr} {H H' : Hp} {o : HO} (h : Keep b H H') : Keep b H (upd H' b o) := fun a u n e => by
  rw [upd_ne n]
  exact h a u n e
theorem keep_new {b p : Addr} {H H' : Hp} {o : HO} (h : Keep b H H') (n : H' p = none) : Keep b H (upd H' p o) := fun a u na e => by
  rw [upd_ne (ne_of_none (h a u na e) n)]
  exact h a u na e
theorem Keep.seq {K : PySem.W.Frag} {b a : Addr} {H H' : Hp} {xs : List V} (e : Keep b H H') (n : a ≠ b) (h : SqL K H a xs) : SqL K H' a xs := by
  rcases h with (h | ⟨o, h⟩) | h
  · exact .inl (.inl (e _ _ n h))
  · exact .inl (.inr ⟨o, e _ _ n h⟩)
  · exact .inr h
def BoxAt (H : Hp) (b : Addr) (n : Int) : Prop := ∃ x y z : Int, H b = some (.lst [.int x, .int y, .int z]) ∧ 0 ≤ x ∧ 0 ≤ y ∧ y ≤ 4294967296 ∧ 0 ≤ z ∧ z ≤ n
theorem BoxAt.mono {H : Hp} {b : Addr} {n m : Int} (h : BoxAt H b n) (e : n ≤ m) : BoxAt H b m := by
  obtain ⟨x, y, z, a1, a2, a3, a4, a5, a6⟩ := h
  exact ⟨x, y, z, a1, a2, a3, a4, a5, by omega⟩
theorem BoxAt.same {H H' : Hp} {b : Addr} {n : Int} (h : BoxAt H b n) (e : Same H H') : BoxAt H' b n := by
  obtain ⟨x, y, z, a1, a2⟩ := h
  exact ⟨x, y, z, e _ _ a1, a2⟩
theorem BoxAt.some {H : Hp} {b : Addr} {n : Int} (h : BoxAt H b n) : ∃ o, H b = some o := by
  obtain ⟨x, y, z, a1, a2⟩ := h
  exact ⟨_, a1⟩
theorem BoxAt.ne {H : Hp} {b p : Addr} {n : Int} (h : BoxAt H b n) (e : H p = none) : p ≠ b := by
  obtain ⟨o, h⟩ := h.some
  exact (ne_of_none h e).symm
theorem szl {n : Nat} (h : n ≤ 60000) : n ≤ sizeLine := Nat.le_trans h (by decide)
theorem szm {n : Nat} (h : n ≤ 60000) : n < sizeLine := Nat.lt_of_le_of_lt h (by decide)
theorem pw6 : (10 : Int) ^ Int.toNat 6 = 1000000 := by decide
theorem pw9 : (10 : Int) ^ Int.toNat 9 = 1000000000 := by decide
theorem newO {H H' : Hp} {p : Addr} {o : HO} (e : upd H p o = H') (hp : H p = none) : Same H H' ∧ H' p = some o := by
  subst e
  exact ⟨same_new hp, upd_same⟩
theorem mutO {H H' : Hp} {p : Addr} {o : HO} (e : upd H p o = H') : Keep p H H' ∧ H' p = some o := by
  subst e
  exact ⟨keep_upd (Keep.refl _ _), upd_same⟩
/-- a word of ours that the walk must not open -/
inductive Hold (p : Prop) : Prop
  | mk : p → Hold p
theorem Hold.un {p : Prop} (h : Hold p) : p := by
  cases h with
  | mk h => exact h
theorem holdN {W : Nat → L2.St → Hp → Prop} {m : Nat} : ∀ (σ' : L2.St) (H' : Hp), Hold (∃ m', m' < m ∧ W m' σ' H') → ∃ m', m' < m ∧ W m' σ' H' := fun _ _ h => h.un
theorem ite_dec {c A B : Prop} [Decidable c] (hc : c) (h : A) : if decide c = true then A else B := by
  rw [decide_eq_true hc]
  exact iteT h
def rLenQ (K : PySem.W.Frag) : List V → Hp → VK → Prop := fun xs H Q => ∃ p ys, xs = [.ref p] ∧ (SqL K H p ys ∨ SqT K H p ys) ∧ Q (.int ys.length) H
theorem iteTe {b : Bool} {A B : Prop} (e : b = true) (h : A) : if b = true then A else B := by
  rw [if_pos e]
  exact h
theorem iteFe {b : Bool} {A B : Prop} (e : b = false) (h : B) : if b = true then A else B := by
  rw [e]
  exact iteF h
theorem cmul_b {i : Int} {b : Bool} : CMul i (if b then 1 else 0) := by
  refine .inr ?_
  cases b <;> exact ⟨by decide, by decide⟩
theorem at_ints {ns : List Int} {k : Int} (h0 : 0 ≤ k) (h : k < (ns.length : Int)) : ∃ c, c ∈ ns ∧ atI (ns.map V.int) k = some (.int c) := by
  have hk : k.toNat < ns.length := by omega
  refine ⟨ns[k.toNat], List.getElem_mem hk, at_of (j := k.toNat) (by omega) ?_⟩
  rw [List.getElem?_map, List.getElem?_eq_getElem hk]
  rfl
theorem at_some {xs : List V} {k : Int} (h0 : 0 ≤ k) (h : k < (xs.length : Int)) : ∃ v, v ∈ xs ∧ atI xs k = some v := by
  have hk : k.toNat < xs.length := by omega
  exact ⟨xs[k.toNat], List.getElem_mem hk, at_of (j := k.toNat) (by omega) (List.getElem?_eq_getElem hk)⟩
theorem int_mem {ns : List Int} {v : V} (h : v ∈ ns.map V.int) : ∃ c, c ∈ ns ∧ v = .int c := by
  obtain ⟨c, hc, e⟩ := List.mem_map.mp h
  exact ⟨c, hc, e.symm⟩
structure Blt (mg : Str → Option Value) : Prop where
  b_ValueError : mg "ValueError" = none
  b_abs : mg "abs" = none
  b_all : mg "all" = none
  b_any : mg "any" = none
  b_bool : mg "bool" = none
  b_int : mg "int" = none
  b_isinstance : mg "isinstance" = none
  b_len : mg "len" = none
  b_list : mg "list" = none
  b_max : mg "max" = none
  b_min : mg "min" = none
  b_range : mg "range" = none
  b_set : mg "set" = none
  b_sorted : mg "sorted" = none
  b_str : mg "str" = none
  b_tuple : mg "tuple" = none
  b_zip : mg "zip" = none
/-! ### sorted(set(xs)), xs a list of few ints -/
section
open PySem.Spec PyProof.Rows PySem.Calls
abbrev bareSet (w : World) : Obj := { cls := .type "set", dict := none, data := .set #[] 0 (.fresh 0 0 (!w.params.followText "set-order")) }
/-- what set(xs) leaves behind -/
def SetLeft (w : World) (s : Shared) (ns : List Int) (h' : Heap) (c : Nat) : Prop := SetR w h' s.heap.objs.size (fun j => decide (j ∈ ns)) c ∧ c ≤ ns.length ∧ ∀ b o, s.heap.get? b = some o → h'.get? b = some o
variable {P : Program} {w : World} {A : Around} {E : Value → Shared → Prop} {s : Shared}
theorem items_ints {items : Array Value} {ns : List Int} (hi : IntsAre items.toList ns) (i : Nat) (v : Value) (hv : items[i]? = some v) : ∃ k t, ns[i]? = some k ∧ v = .int k t := by
  have hl : items.size = ns.length := by
    rw [← Array.length_toList]
    exact hi.length
  have hlt : i < ns.length := by
    rw [← hl]
    exact (Array.getElem?_eq_some_iff.mp hv).1
  obtain ⟨t, e⟩ := hi.int_at i v (by rw [Array.getElem?_toList]; exact hv)
  refine ⟨ns[i], t, List.getElem?_eq_getElem hlt, e.trans ?_⟩
  rw [List.getD_eq_getElem?_getD, List.getElem?_eq_getElem hlt]
  rfl
set_option maxHeartbeats 3200000 in
theorem set_of_list {l : Addr} {items : Array Value} {ns : List Int} {Q : Value → Shared → Prop} (hh : A.handled = none) (hl : s.heap.IsList l items) (hi : IntsAre items.toList ns) (hb : ns.length + 1 < scanBound)
    (h : ∀ (h' : Heap) (tk c : Nat), SetLeft w s ns h' c → Q (.ref s.heap.objs.size) { s with heap := h', toks := tk }) : wpAny (model P w) A (call (.type "set") [.ref l]) Q E s := by
  have hsz : items.size = ns.length := by
    rw [← Array.length_toList]
    exact hi.length
  obtain ⟨mc, mt, hmro⟩ := F.called_set.mro
  have a1 := F.called_set.made; have a2 := F.called_set.sub; have a3 := F.called_set.notType; have a4 := F.called_set.canCreate; have a5 := F.typeCall_set_1 (.ref l)
  refine wpAny_call (codeAny_of_tree (show wpAny _ _ (callAny (.type "set") _) _ _ _ from wpAny_pure ⟨Code.quiet_builtin _ (by decide +kernel), codeAny_builtin F.entry_type_call ?_⟩))
  rw [Around.under_plain (weight_type_call_type "set" [.ref l] []) rfl]; repeat (any_goals (first | assumption | wp_step))
  refine codeAny_mono (code_set_led1 (.ref l) (E := E) (Q₁ := fun v s' => v = .ref s.heap.objs.size ∧ s' = { s with heap := s.heap.push (bareSet w) }) ⟨rfl, rfl⟩) fun res s1 hres => ?_
  match res, hres with
  | .error e, hres => exact hres
  | .ok .next, hres => exact hres.elim
  | .ok .cont, hres => exact hres.elim
  | .ok .brk, hres => exact hres.elim
  | .ok (.ret v), hres =>
    obtain ⟨rfl, rfl⟩ := hres
    have g0 : (s.heap.push (bareSet w)).get? s.heap.objs.size = some (bareSet w) := Heap.get?_push_size _ rfl
    have ty0 : Shared.TypeIs { s with heap := s.heap.push (bareSet w) } (.ref s.heap.objs.size) "set" := ⟨_, g0, rfl⟩
    have i1 := F.called_set.init.lookup; have i2 := F.called_set.init.bind (.ref s.heap.objs.size)
    repeat (any_goals (first | assumption | wp_step))
    refine codeAny_mono (codeAny_call_builtin (R := wants (fun v s' => v = .none ∧ ∃ h' tk c, s' = { s with heap := h', toks := tk } ∧ SetLeft w s ns h' c) E) F.called_set.init.plain F.entry_set_init (check_set_init_1 ty0 ?_)) fun res2 s2 hres2 => ?_
    · obtain ⟨⟨lc, ld, la, ls⟩, hol, hcl, nl, hdl⟩ := hl
      simp only at hcl hdl; subst hcl; subst hdl
      have hol1 := Heap.get?_push_of_some (bareSet w) hol
      have hL1 : (s.heap.push (bareSet w)).IsList l items := ⟨_, hol1, rfl, nl, rfl⟩
      have n1 := F.sub_list_set; have n2 := F.sub_list_frozenset; have n3 : (Value.type "list" == Value.type "dict") = false := by decide
      unfold Builtin.«set.__init__» noKeywords Builtin.Frozenset.updateFrom; generalize hgo : pyIter = go; wp_walk; subst hgo
      refine wpAny_pyIter_list hL1 (wpAny_bind (wpAny_runValue ?_))
      have ll := Heap.lt_size hol
      have hhd : A.in1.in1.in1.handled = none := by simp [hh]
      have sz1 : (s.heap.push (bareSet w)).objs.size = s.heap.objs.size + 1 := Heap.size_push ..
      have off : l ≠ (s.heap.push (bareSet w)).objs.size := by rw [sz1]; exact Nat.ne_of_lt (Nat.lt_succ_of_lt ll)
      have out : s.heap.objs.size ∉ [(s.heap.push (bareSet w)).objs.size, l] := by
        intro z
        rcases List.mem_cons.mp z with z | z
        · rw [sz1] at z
          exact absurd z (Nat.ne_of_lt (Nat.lt_succ_self _))
        · exact absurd (List.mem_singleton.mp z) (Nat.ne_of_gt ll)
      refine set_update_ints ((Walks.list hhd _ l off items).toS) s.heap.objs.size out ns hsz hb (items_ints hi) (items.size - 0) 0 _ (by omega) (Nat.zero_le _) ⟨⟨_, Heap.get?_push_size _ rfl, rfl, rfl⟩, hL1.push _⟩ ⟨0, Nat.le_refl 0, setR_new_at (Heap.get?_push_of_some _ g0)⟩ ?_
      rintro ⟨h', g', d', tk', os'⟩ c' hm hc' hS'
      obtain ⟨e1, e2, e3⟩ := (show g' = s.gens ∧ d' = s.drawn ∧ os' = s.os from ⟨hm.gens, hm.drawn, hm.os⟩)
      subst e1; subst e2; subst e3
      refine wpAny_pure (show wpAny _ _ (ret Value.none) _ _ _ from wpAny_pure ⟨rfl, h', tk', c', rfl, hS', by omega, fun b o e => ?_⟩)
      have lb := Heap.lt_size e
      refine hm.heap b o ?_ (Heap.get?_push_of_some _ (Heap.get?_push_of_some _ e))
      intro z
      rcases List.mem_cons.mp z with z | z
      · exact absurd z (Nat.ne_of_lt lb)
      · have z2 := List.mem_singleton.mp z
        rw [sz1] at z2
        exact absurd z2 (Nat.ne_of_lt (Nat.lt_succ_of_lt lb))
    · match res2, hres2 with
      | .error e, hres2 => exact hres2
      | .ok .next, hres2 => exact hres2.elim
      | .ok .cont, hres2 => exact hres2.elim
      | .ok .brk, hres2 => exact hres2.elim
      | .ok (.ret v2), hres2 =>
        obtain ⟨rfl, h', tk, c', rfl, hS'⟩ := hres2
        repeat (any_goals (first | assumption | wp_step))
        exact h _ _ _ hS'
end
open PySem.Spec PyProof.Rows in
/-- sorted of a set of ints, however many -/
theorem set_sorted {P : Program} {w : World} {A : Around} {E : Value → Shared → Prop} {s : Shared} {a : Addr} {S : Int → Bool} {n : Nat} {Q : Value → Shared → Prop} (R : SetR w s.heap a S n) (hh : A.handled = none)
    (q : ∀ s' p (out : List Value) (c : Nat) (ms : List Int), (∀ b o, s.heap.get? b = some o → s'.heap.get? b = some o) → s'.gens = s.gens → s'.os = s.os → s.heap.objs.size ≤ p →
      s'.heap.get? p = some (seqObj "list" out.toArray c) → IntsAre out ms → ms.Pairwise (· < ·) → (∀ k, k ∈ ms ↔ S k = true) → ms.length = n → Q (.ref p) s') : wpAny (model P w) A (call (.builtin "sorted") [.ref a]) Q E s := by
  obtain ⟨o, es, ep, t, g1, g2, g3, good, nod, mem, g4, g5, g6, g7, g8⟩ := R
  refine Calls.call_function_entry kind_sorted plain_sorted entry_sorted (args_sorted1 _) ?_; unfold Builtin.«sorted»
  refine wpAny_bind (m := checkCount "sorted" 1 1 _) (wpAny_pure (wpAny_bind (collect_set (A := A.in1) hh ⟨o, g1, g2.1, g3⟩ g5 g4 g7 g8 fun s1 vs k1 z1 e1 e2 pm => ?_)))
  have len : vs.length = n := by
    rw [pm.length_eq, List.length_map, Array.length_toList]
    exact g6
  have ivs : ∀ e ∈ es.toList, SrtO.iv e.2 = keyOf e := fun e he => by
    obtain ⟨k, tk, h1, _⟩ := good e he
    unfold keyOf
    rw [h1]
    rfl
  have hI : IntsAre vs (vs.map SrtO.iv) := SrtO.ints_iv fun v hv => by
    obtain ⟨e, he, ev⟩ := List.mem_map.mp (pm.mem_iff.mp hv)
    obtain ⟨k, tk, h1, _⟩ := good e he
    exact ⟨k, tk, ev.symm.trans h1⟩
  have prm : (vs.map SrtO.iv).Perm (es.toList.map keyOf) := by
    refine (pm.map SrtO.iv).trans ?_
    rw [List.map_map]
    exact List.Perm.of_eq (List.map_congr_left ivs)
  have zn : n ≤ sizeLine := by
    unfold scanBound at g4
    exact szl (by omega)
  refine wpAny_bind (wpAny_newList ?_ (by rw [len]; exact zn))
  have at1 : (s1.heap.push (seqObj "list" vs.toArray 0)).get? s1.heap.objs.size = some (seqObj "list" vs.toArray 0) := Heap.get?_push_size _ rfl
  refine wpAny_bind (wpAny_holding (wpAny_call_entry slot_list_sort ⟨_, at1, rfl⟩ entry_list_sort (SrtO.list_sort_ord SrtO.swo_int at1 (by rw [len]; exact zn) (fun two => SrtO.ints_sortable hI two) fun out o1 o2 => ⟨_, rfl, ?_⟩) (args_list_sort _)))
  obtain ⟨j1, j2, j3⟩ := SrtO.ints_out hI o1 o2
  obtain ⟨c, at2⟩ := sortedHeap_at (vs := vs) (out := out.toArray) at1
  have prm2 := j2.trans prm
  refine wpAny_pure ⟨_, rfl, q _ s1.heap.objs.size out c _ (fun b u e => ?_) e1 e2 z1 at2 j1 (lt_of_le_nodup _ j3 (prm2.nodup_iff.mpr nod)) (fun k => by rw [prm2.mem_iff, ← mem k]) (by rw [prm2.length_eq, List.length_map, Array.length_toList]; exact g6)⟩
  have e3 := k1 b u e
  have l3 := Heap.lt_size e3
  exact (sortedHeap_old (vs := vs) (out := out.toArray) (Nat.ne_of_lt l3) (by rw [size_push']; exact Nat.lt_succ_of_lt l3)).trans (Heap.get?_push_of_some _ e3)
def tSortSet (K : PySem.W.Frag) (ta : TE) : TE := fun σ H Q => ta σ H fun x H1 => ∃ (l : Addr) (ns : List Int), x = .ref l ∧ SqL K H1 l (ns.map V.int) ∧ ns.length ≤ 4000 ∧
  ∀ (out : List Int) (p : Addr), H1 p = none → out.Pairwise (· < ·) → (∀ k, k ∈ out ↔ k ∈ ns) → out.length ≤ ns.length → Q (.ref p) (upd H1 p (.lst (out.map V.int)))
open PySem.Spec PyProof.Rows in
theorem pe_sortSet {X : Cx} {a : Expr} {ta : TE} {p p2 q pos : Pos} (hg : Gl X "sorted") (hm : X.mg "sorted" = none) (hg2 : Gl X "set") (hm2 : X.mg "set" = none) (ha : PE X a ta) (hc : X.calm = true := by rfl)
    (na : starEach [a] X.env = (false, eval a X.env) :: starEach [] X.env := by rfl) : PE X (.Call (.Name "sorted" p) [.Call (.Name "set" p2) [a] [] q] [] pos) (tSortSet X.K ta) := by
  refine ⟨fun pins s σ H Q I h => ?_⟩
  refine Call_ (ld_blt I hg hm boot_sorted (callWith_builtin1 (args_cons (Call_ (ld_blt I hg2 hm2 boot_set (callWith_type1 (args_cons (thn (ha.run pins s σ H _ I h) fun v s1 ⟨x, H1, I1, r1, q1⟩ => args_nil ?_) na) na rfl))) rfl) rfl rfl))
  obtain ⟨l, ns, rfl, hq, hn, q1⟩ := q1
  cases r1
  obtain ⟨its, r, pl, hz⟩ := I1.list hq
  have hd := I1.ok.hd hc
  refine set_of_list hd pl.isList (by simpa using ints_of_vals r) (by unfold scanBound; omega) fun h' tk c hL => args_nil ?_
  obtain ⟨R1, hcn, kept⟩ := hL
  refine set_sorted (s := { s1 with heap := h', toks := tk }) R1 hd fun s' pp out cc ms k g o hp hgt hi hs hmem hlen => ?_
  have kk : ∀ b u, s1.heap.get? b = some u → s'.heap.get? b = some u := fun b u e => k b u (kept b u e)
  have hpp : s1.heap.objs.size ≤ pp := Nat.le_trans (Nat.le_of_lt R1.lt) hp
  have fr : H1 pp = none := I1.hok.fresh hpp
  have sl : (ms.map V.int).length ≤ sizeLine := by
    rw [List.length_map, hlen]
    exact szl (by omega)
  have hos : s'.os = s1.os := o
  have J : Inv X pins σ (upd H1 pp (.lst (ms.map V.int))) { s1 with heap := s'.heap, gens := s'.gens, drawn := s'.drawn, toks := s'.toks } :=
    I1.call (ch := []) (Un.laid kk hpp fr) (I1.hok.laid kk hpp ⟨sl, out, cc, vals_of_ints hi, hgt⟩) (by rw [g]; exact I1.bare) (fun _ z => nomatch z)
  have es : s' = { s1 with heap := s'.heap, gens := s'.gens, drawn := s'.drawn, toks := s'.toks } := by
    obtain ⟨b1, b2, b3, b4, b5⟩ := s'
    simp only at hos
    subst hos
    rfl
  rw [es]
  exact ⟨.ref pp, _, J, rfl, q1 ms pp fr hs (fun j => (hmem j).trans decide_eq_true_iff) (by omega)⟩
local macro_rules | `(tactic| walk_at "ev1") => `(tactic| first
  | with_reducible assumption
  | ((with_reducible show _ = _); exact rfl)
  | ((first | with_reducible show (_ : Int) = _ | with_reducible show (_ : Int) < _ | with_reducible show (_ : Int) ≤ _ | with_reducible show (_ : Nat) < _ | with_reducible show (_ : Nat) ≤ _); first | omega | decide | (simp only [pw6, pw9]; omega) | (simp only [List.length_cons, List.length_nil, List.length_append, List.length_map, List.length_replicate]; omega))
  | assumption
  | exact upd_same
  | exact SqL.of upd_same
  | exact Or.inl (SqL.of upd_same)
  | exact Or.inl (by assumption)
  | exact Or.inr (by assumption)
  | omega
  | exact (show CDiv _ _ from ⟨by omega, by omega⟩)
  | exact (show CPow _ _ from ⟨by omega, by omega, by omega⟩)
  | exact (show CMul _ _ from .inl ⟨by omega, by omega⟩)
  | exact (show CMul _ _ from .inr ⟨by omega, by omega⟩)
  | exact (show CMul _ _ from cmul_b)
  | exact (show CDivW _ _ from wide_div (b := 31) (by omega) (by omega) (by decide) (by decide))
  | exact (Or.inl ⟨rfl, _, SqL.of (by assumption)⟩)
  | exact ClsV.ty _
  | exact .cons (.ty _) (.cons (.ty _) .nil)
  | (refine szl ?_; simp only [List.length_cons, List.length_nil, List.length_append, List.length_map, List.length_replicate]; omega)
  | (refine szm ?_; simp only [List.length_cons, List.length_nil, List.length_append, List.length_map, List.length_replicate]; omega))
local macro_rules | `(tactic| walk_at "s") => `(tactic| (first
  | (refine And.intro ?l ?_; (case l => walk_at "ev1"))
  | with_reducible refine iteT ?_
  | with_reducible refine iteF ?_
  | with_reducible refine ite_dec rfl ?_
  | with_reducible refine iteNS rfl ?_
  | with_reducible refine iteNS (by assumption) ?_
  | (apply Or.inl; apply Exists.intro; apply And.intro rfl)
  | (apply Or.inr; apply Exists.intro; apply And.intro rfl)
  | ((fail_if_success (refine @Exists.intro (Nat → Nat → L2.St → Hp → Prop) _ ?_ ?_)); (fail_if_success (refine @Exists.intro (Nat → L2.St → Hp → Prop) _ ?_ ?_)); (fail_if_success (refine @Exists.intro (L2.St → Hp → Prop) _ ?_ ?_)); (fail_if_success (refine @Exists.intro (Hp → Prop) _ ?_ ?_)); (fail_if_success (refine @Exists.intro (Nat → Nat → Hp → Prop) _ ?_ ?_)); apply Exists.intro)))
local macro_rules | `(tactic| walk_at "ev") => `(tactic| repeat (walk_at "s"))
/-! ### a caught exception that a name keeps behind its clause -/
/-- at a: an exception of the class at C, its dict at d -/
def XOb (C d a : Addr) : HO := .ext fun h => ∃ (ob : Obj) (fl : Array Value), h.get? a = some ob ∧ Zc (.ref C) (some d) ob ∧ ob.data = .fields fl
theorem xob_ok {P : Program} {w : World} {H : Hp} {h : Heap} {C d a : Addr} {ob : Obj} {fl : Array Value} (q1 : h.get? a = some ob) (q2 : Zc (.ref C) (some d) ob) (q3 : ob.data = .fields fl) : ObjOk P w H h a (XOb C d a) :=
  ⟨⟨ob, fl, q1, q2, q3⟩, ⟨ob, q1⟩, fun _ _ ⟨u, v, r1, r2⟩ k => ⟨u, v, k u r1, r2⟩⟩
/-- an object of the heap that nobody tracks is tracked from now on -/
theorem track {X : Cx} {pins : List (Addr × Obj)} {σ : L2.St} {H : Hp} {s : Shared} {a : Addr} {o : HO} (I : Inv X pins σ H s) (n0 : X.s_0.heap.get? a = none) (hn : H a = none) (nL : a ≠ X.env.locals) (nC : ∀ x c, X.env.cells.lookup x = some c → c ≠ a)
    (nP : ∀ p ∈ X.pn ++ pins, p.1 ≠ a) (new : ObjOk X.prog X.w (upd H a o) s.heap a o) : Inv X pins σ (upd H a o) s := by
  have ne : ∀ {b : Addr} {u : HO}, H b = some u → b ≠ a := fun e => ne_of_none e hn
  refine ⟨I.ok, I.os, I.bare, ⟨I.base.keep, I.base.slot, fun b u e n hx => ?_, I.base.there, fun b xs e => ?_, fun b u v e => ?_, fun b ps e => ?_⟩, I.loc, I.cell, ?_, fun x c e => ?_, fun p hp => ?_, I.hok.laidN (fun _ _ z => z) hn new, I.len⟩
  · have : b ≠ a := fun z => by
      rw [z, n0] at e
      cases e
    rw [upd_ne this]
    exact I.base.free b u e n hx
  · have q := I.base.tups b xs e
    rw [upd_ne (ne q)]
    exact q
  · have q := I.base.frzs b u v e
    rw [upd_ne (ne q)]
    exact q
  · obtain ⟨m, q⟩ := I.base.tbls b ps e
    exact ⟨m, by rw [upd_ne (ne q)]; exact q⟩
  · rw [upd_ne nL.symm]
    exact I.free
  · rw [upd_ne (nC x c e)]
    exact I.freeC x c e
  · obtain ⟨e, n, r⟩ := I.pin p hp
    exact ⟨e, by rw [upd_ne (nP p hp)]; exact n, r⟩
/-- what 'except x as n: ..' wishes, the exception tracked behind it -/
def wKeep (K : PySem.W.Frag) (c : Value) (i : Nat) (ts : Addr → TS) (Wout : WX) (D : Ends) : WX := fun cls d σ H =>
  ∃ b, PySem.W.exmOne K cls c = some b ∧ (b = true → ∃ C dd, cls = .ref C ∧ d = some dd ∧ ∀ a, H a = none →
    ts a { nx := fun σ2 H2 => D.nx (σ2.set i none) (upd H2 a (XOb C dd a)), rt := fun _ _ => False, bk := fun _ _ => False, ct := fun _ _ => False } (σ.set i (some (.ref a))) H) ∧ (b = false → Wout cls d σ H)
section
variable {X : Cx} {x n : Str} {c : Value} {i : Nat} {body suite : List Stmt} {b₀ : Stmt} {np pos pos' : Pos} {tb : WX → TS} {ts : Addr → TS} {Wout : WX}
theorem ps_try_keep (hs : X.stack = X.env :: X.outer) (hf : X.env.frame = some X.env.locals) (hex : X.ex = []) (hN : X.N.Nodup) (hi : X.N[i]? = some n) (hln : X.env.kindOf n = some .local) (hc : Names X x c) (tk : Takes X Wout)
    (hb : ∀ (W : WX) (pn : List (Addr × Obj)) (xe : Value → Shared → Prop), Takes (X.tr pn xe) W → PassesOwn (model X.prog X.w) X.A X.env xe → PSs (X.tr pn xe) body (tb W))
    (hsu : ∀ (a : Addr) (pn : List (Addr × Obj)), PSs (X.suite a pn) (b₀ :: suite) (ts a)) :
    PS X (.Try body [.ExceptHandler (some (.Name x np)) (some n) (b₀ :: suite) pos'] [] [] pos) (fun D σ H => tb (wKeep X.K c i ts Wout D) D σ H) := by
  refine ⟨fun pins s σ H D I h => ?_⟩
  have ok := I.ok
  have fr : X.A.frames = some (X.env :: X.outer) := ok.frames.trans (congrArg some hs)
  refine wpAny_Try_except (wpAny_mono ((hb (wKeep X.K c i ts Wout D) (X.pn ++ pins) (fun e s1 => wpAny (model X.prog X.w) X.A (noteFrame e X.env)
    (fun _ s2 => wpAny (model X.prog X.w) X.A (setFlight e none) (fun _ s3 => wpAny (model X.prog X.w) X.A (handleBy e X.env [.ExceptHandler (some (.Name x np)) (some n) (b₀ :: suite) pos']) (SP X pins D) X.xe s3) X.xe s2) X.xe s1)
    (fun u s1 fly => ?_) PassesOwn.looking).run [] s σ H D (I.toTry _) h) (fun f s1 q => ?_) (fun _ _ z => z))
  · obtain ⟨a, B, s0, pins1, σ1, H1, cls, d, rfl, J0, nb, up, sky, na, os, ag, b, hm, yes, no⟩ := fly
    have J : Inv X pins σ1 H1 s0 := J0.ofTry ok
    have sky1 : Sky B (X.env :: X.outer) a (Zc cls d) X.env.locals s1.heap := hs ▸ sky
    show wpAny (model X.prog X.w) X.A (noteFrame (.ref a) X.env) _ _ _
    refine Sky.land Zc.steady fr hf sky1 fun g3 fly3 up3 => ?_
    have J3 : Inv X pins σ1 H1 { s1 with heap := g3 } := J.landed nb fly3.1 (up.trans up3) os ag
    obtain ⟨o3, f3, e3, z3, d3⟩ := fly3.there
    have away : a ∉ frs (X.env :: X.outer) := fun hmem => by
      obtain ⟨_, o', e', hnf⟩ := fly3.2.2.1.mem hmem
      cases e3.symm.trans e'
      exact hnf _ d3
    have nL : a ≠ X.env.locals := fun z => away (List.mem_filterMap.mpr ⟨X.env, List.mem_cons_self, hf.trans (congrArg some z.symm)⟩)
    have nF : a ∉ X.fs := fun hmem => by
      obtain ⟨e, he, q⟩ := List.mem_filterMap.mp hmem
      exact away (List.mem_filterMap.mpr ⟨e, List.mem_cons_of_mem _ he, q⟩)
    have nB : B.get? a = none := fly3.2.1
    have n0 : X.s_0.heap.get? a = none := by
      cases e : X.s_0.heap.get? a with
      | none => rfl
      | some o =>
        obtain ⟨o', q⟩ := J.base.there a o e (by rw [hex]; exact fun z => nomatch z)
        have q2 := nb a o' q (by rw [hs]; exact away)
        rw [nB] at q2
        cases q2
    have nP : ∀ p ∈ X.pn ++ pins, p.1 ≠ a := fun p hp z => by
      obtain ⟨q, _⟩ := J.pin p hp
      have q2 := nb p.1 p.2 q (by rw [hs, z]; exact away)
      rw [z, nB] at q2
      cases q2
    have S3 := J3.suite e3 d3 na nL nF
    have lt : PySem.W.Looks (model X.prog X.w) g3 (typeOf (.ref a)) cls := fun A Q E s k q => wpAny_typeOf_ref (k _ _ e3) (by rw [z3.1]; exact q)
    have lm := PySem.W.exm_one (M := model X.prog X.w) J3.kIn lt hm
    refine wpAny_handleBy_cons (codeAny_handlers_test ?_) (fun q => nomatch q)
    have named : ∀ {Q E : Value → Shared → Prop}, Q c { s1 with heap := g3 } → wpAny (model X.prog X.w) (X.A.mark (some (.ref a))) (eval (.Name x np) X.env) Q E { s1 with heap := g3 } := fun {Q E} q => by
      rcases hc with ⟨hg, hdb, hm1 | ⟨hm1, hv, hnn⟩⟩
      · exact ld_glob (X := X.suite a ((a, o3) :: (X.pn ++ pins))) S3 hg hm1 q hdb
      · exact ld_blt (X := X.suite a ((a, o3) :: (X.pn ++ pins))) S3 hg hm1 hv q hnn hdb
    refine named (lm.here ?_)
    cases b with
    | true =>
      obtain ⟨C, dd, ec, ed, yes⟩ := yes rfl
      refine codeAny_handlers_suite_as (HandSPX.lands_againZ fly3 fun g4 fly4 up4 => ?_)
      have J4 : Inv X pins σ1 H1 { s1 with heap := g4 } := J.landed nb fly4.1 ((up.trans up3).trans up4) os ag
      obtain ⟨o4, f4, e4, z4, d4⟩ := fly4.there
      refine store_ok (X := X.suite a ((a, o4) :: (X.pn ++ pins))) (v := .ref a) (J4.suite e4 d4 na nL nF) hN hi (.inl hln) rfl (fun s5 S5 => ?_) (.inr hln)
      refine wpAny_mono ((hsu a ((a, o4) :: (X.pn ++ pins))).run [] s5 _ H1 _ S5 (yes a na)) (fun f s6 q6 => ?_) (fun _ _ z => z.elim)
      cases f with
      | next =>
        obtain ⟨σ6, H6, S6, q6⟩ := q6
        refine gone_ok (X := X.suite a ((a, o4) :: (X.pn ++ pins))) (pins := []) S6 hN hi hln fun s7 S7 => ?_
        obtain ⟨e7, n7, _⟩ := S7.pin (a, o4) (List.mem_append_left _ List.mem_cons_self)
        refine ⟨_, _, track (S7.unsuite ok) n0 n7 nL (fun y c' ey z => ?_) nP (xob_ok (C := C) (d := dd) e7 (by rw [← ec, ← ed]; exact z4) d4), q6⟩
        obtain ⟨v, ob, q1, q2⟩ := S7.cell y c' ey
        subst z
        cases e7.symm.trans q1
        cases d4.symm.trans q2
      | brk =>
        obtain ⟨_, _, _, q6⟩ := q6
        exact q6.elim
      | cont =>
        obtain ⟨_, _, _, q6⟩ := q6
        exact q6.elim
      | ret u =>
        obtain ⟨_, _, _, _, _, q6⟩ := q6
        exact q6.elim
    | false =>
      show wpAny _ X.A (handleBy (.ref a) X.env []) _ _ _
      refine wpAny_handleBy_nil ?_
      obtain ⟨k1, k2, k3, ob, fl, T, oT, tl, he, hz, hd, h1, hr⟩ := id fly3
      unfold PySem.passOn
      refine wpAny_bind (wpAny_field he hd h1 ?_)
      rw [if_neg (show ¬ ((Value.ref T == Value.none) = true) from by simp)]
      have fin : wpAny (model X.prog X.w) X.A (setFlight (.ref a) X.env.frame) (fun _ s4 => wpAny (model X.prog X.w) X.A (throw (.ref a) : Sem Flow) (SP X pins D) X.xe s4) X.xe { s1 with heap := g3 } := by
        rw [hf]
        exact HandSPX.setFlight_upZ fly3 fun g4 held4 up4 => wpAny_throw (tk _ _ ⟨a, B, s0, pins, σ1, H1, cls, d, rfl, J, nb, (up.trans up3).trans up4, .inr (.inr (hs ▸ held4)), na, os, ag, no rfl⟩)
      first
        | exact wpAny_bind (wpAny_pure (wpAny_bind fin))
        | exact wpAny_bind fin
  · cases f with
    | next =>
      obtain ⟨σ1, H1, J, q⟩ := q
      exact wpAny_execs_nil ⟨σ1, H1, J.ofTry ok, q⟩
    | brk =>
      obtain ⟨σ1, H1, J, q⟩ := q
      exact ⟨σ1, H1, J.ofTry ok, q⟩
    | cont =>
      obtain ⟨σ1, H1, J, q⟩ := q
      exact ⟨σ1, H1, J.ofTry ok, q⟩
    | ret u =>
      obtain ⟨v, σ1, H1, J, r, q⟩ := q
      exact ⟨v, σ1, H1, J.ofTry ok, r, q⟩
end
/-- what is told of an own exception class -/
structure ExK (K : PySem.W.Frag) (C : Addr) : Prop where
  oex : OexC K C
  xf : XfC K C
  ec : ExcC K C
  nw : PySem.W.findIn K (.ref C) "what" = some none
/-- an exception object, tracked, with its fields -/
def XAt (H : Hp) (a C : Addr) (fs : List (Str × V)) : Prop := ∃ d, H a = some (XOb C d a) ∧ H d = some (.xd fs)
theorem XAt.same {H H' : Hp} {a C : Addr} {fs : List (Str × V)} (h : XAt H a C fs) (e : Same H H') : XAt H' a C fs := by
  obtain ⟨d, h1, h2⟩ := h
  exact ⟨d, e _ _ h1, e _ _ h2⟩
theorem xat_inst {X : Cx} {pins : List (Addr × Obj)} {σ : L2.St} {H : Hp} {s : Shared} {a C : Addr} {fs : List (Str × V)} (I : Inv X pins σ H s) (h : XAt H a C fs) : ∃ (ob od : Obj) (mA : Str → Option Value), PySem.W.InstAt s.heap a ob C (some od) ∧ (∀ name, PySem.W.lookIn name od = some (mA name)) ∧ ∀ f, RelO (fs.lookup f) (mA f) := by
  obtain ⟨d, h1, h2⟩ := h
  obtain ⟨⟨ob, fl, q1, q2, q3⟩, _, _⟩ := (show ObjOk X.prog X.w H s.heap a (XOb C d a) from I.hok a _ h1)
  obtain ⟨mA, hns, hr⟩ := (show ObjOk X.prog X.w H s.heap d (.xd fs) from I.hok d _ h2)
  obtain ⟨od, ho, hl⟩ := lookIn_ns hns
  exact ⟨ob, od, mA, ⟨q1, q2.1, by unfold PySem.W.notCls; rw [q3] <;> rfl, by rw [q2.2]; exact ho⟩, hl, hr⟩
/-- isinstance(e, c), e tracked -/
def rIsX (K : PySem.W.Frag) : List V → Hp → VK → Prop := fun xs H Q => ∃ (a C : Addr) (fs : List (Str × V)) (c : V) (cv : Value) (b : Bool), xs = [.ref a, c] ∧ XAt H a C fs ∧ ExK K C ∧ ClsV c cv ∧ PySem.W.kitOne K (.ref C) cv = some b ∧ Q (.bl b) H
def rIsXT (K : PySem.W.Frag) : List V → Hp → VK → Prop := fun xs H Q => ∃ (a C tp : Addr) (fs : List (Str × V)) (cs : List V) (us : List Value) (b : Bool), xs = [.ref a, .ref tp] ∧ H tp = some (.tup cs) ∧ XAt H a C fs ∧ ExK K C ∧ Paired ClsV cs us ∧ PySem.W.kitAny K (.ref C) us = some b ∧ Q (.bl b) H
theorem kit_x {K : PySem.W.Frag} {a C : Addr} {ob od : Obj} (E : ExK K C) : PySem.W.KitX K (.ref a) (.ref C) (fun h => PySem.W.InstAt h a ob C (some od)) := by
  obtain ⟨cd, hc, _⟩ := PySem.W.any_some E.ec.hd
  exact PySem.W.kitx_exc (by rw [hc]; rfl) E.ec.hg E.ec.hk E.ec.hs E.ec.ha E.ec.hn E.ec.ht E.ec.hm
theorem call_isX {X : Cx} : CallR X (.builtin "isinstance") (rIsX X.K) := by
  intro pins s σ H xs us Q I r h
  obtain ⟨a, C, fs, c, cv, b, rfl, hx, E, k, e, q⟩ := h
  obtain ⟨u1, u2, rfl, r1, r2⟩ := vals2 r
  cases (show u1 = Value.ref a from r1)
  have e2 := k.eq r2
  subst e2
  obtain ⟨ob, od, mA, J, _, _⟩ := xat_inst I hx
  exact PySem.W.kia_one (kit_x E) I.kIn J e (fun z => nomatch z) fun tk => ⟨.bl b, H, I.tok tk, rfl, q⟩
theorem call_isXT {X : Cx} : CallR X (.builtin "isinstance") (rIsXT X.K) := by
  intro pins s σ H xs us Q I r h
  obtain ⟨a, C, tp, fs, cs, ws, b, rfl, hT, hx, E, k, e, q⟩ := h
  obtain ⟨u1, u2, rfl, r1, r2⟩ := vals2 r
  cases (show u1 = Value.ref a from r1)
  cases (show u2 = Value.ref tp from r2)
  obtain ⟨ob, od, mA, J, _, _⟩ := xat_inst I hx
  obtain ⟨_, its, rv, o, h1, h2, n, h3⟩ := (show ObjOk X.prog X.w H s.heap tp (.tup cs) from I.hok tp _ hT)
  have e3 := ClsV.all k rv
  subst e3
  rcases o with ⟨oc, od', dt, sl⟩
  dsimp only at h2 h3
  cases h2
  cases h3
  exact PySem.W.kia_tup (kit_x E) I.kIn J h1 e (fun z => nomatch z) fun tk => ⟨.bl b, H, I.tok tk, rfl, q⟩
/-- e.f, e tracked -/
def tXw (K : PySem.W.Frag) (f : Str) (te : TE) : TE := fun σ H Q => te σ H fun x H1 => ∃ (a C : Addr) (fs : List (Str × V)) (v : V), x = .ref a ∧ XAt H1 a C fs ∧ ExK K C ∧ PySem.W.findIn K (.ref C) f = some none ∧ fs.lookup f = some v ∧ Q v H1
theorem pe_xw {X : Cx} {e : Expr} {te : TE} {pos : Pos} {n : Str} (he : PE X e te) (hb : attributeBase e n X.env (eval e X.env) = eval e X.env := by rfl) : PE X (.Attribute e n pos) (tXw X.K n te) := by
  refine ⟨fun pins s σ H Q I h => attr_of hb (thn (he.run pins s σ H _ I h) fun u s1 hh => ?_)⟩
  obtain ⟨x, H1, I1, rx, a, C, fs, v, ex, hx, E, hno, l, q⟩ := hh
  subst ex
  cases (show u = Value.ref a from rx)
  obtain ⟨ob, od, mA, J, hl, hr⟩ := xat_inst I1 hx
  obtain ⟨u, hu, ru⟩ := RelO.some_of (v := v) (o := mA n) (by rw [← l]; exact hr n)
  exact HandSPX.exc_get I1.kIn J E.xf.ga E.xf.gg E.xf.exC (PySem.W.findObj_own E.xf.hdC hno rfl (by rw [hl, hu])) (handed_of ru) ⟨v, H1, I1.tok _, ru, q⟩
/-! ### methods and classes, what they raise wished for at the caller's slots -/
def tMethS (C : Addr) (m : Str) (sp : Sp) (E : L2.St → XK) (ta : TE) (t : TA) : TE := fun σ H Q => ta σ H fun x H1 => ∃ a dx fs, x = .ref a ∧ H1 a = some (.ins C dx fs) ∧ fs.lookup m = none ∧ t σ H1 fun vs H2 => sp (x :: vs) H2 Q (E σ)
def tMakeS (C : Addr) (sp : Sp) (E : L2.St → XK) (t : TA) : TE := fun σ H Q => t σ H fun vs H1 => ∀ x dx, H1 x = none → H1 dx = none → dx ≠ x → sp (.ref x :: vs) (upd (upd H1 dx (.own x)) x (.ins C dx [])) (fun v H2 => v = .non ∧ Q (.ref x) H2) (E σ)
section
variable {X : Cx} {CX : CXT} {k : Nat} {f C : Addr} {fd : FuncData} {ps : List Str} {sp : Sp} {E : L2.St → XK} {x m : Str} {p pos apos : Pos} {e o : Expr} {es : List Expr} {ta : TE} {t : TA}
theorem pe_methS {pl : Sem Bool} (he : PE X o ta) (c : L2.Cls X.K C) (hm : Meth X.K C m f) (F : FnOk X.prog X.w X.K X.mg X.base CX k f fd ps sp) (hr : Room k X.A) (hb : Binds X.K fd ps []) (hx : ∀ σ, PassesAt CX X σ (E σ)) (ha : PA X (e :: es) t)
    (hst : starEach (e :: es) X.env = (false, eval e X.env) :: starEach es X.env := by rfl) (hpl : (backTo pos (starEach es X.env)).any (·.1) = false := by rfl)
    (ht : eval (.Call (.Attribute o m apos) (e :: es) [] pos) X.env = (do
      let ov ← eval o X.env
      standAt apos.atName
      let (f, first) ← holding [ov] (getMethod ov m pl)
      callWith pos f first (backTo pos (starEach (e :: es) X.env)) (backToKw pos (keywordEach [] X.env))) := by rfl) : PE X (.Call (.Attribute o m apos) (e :: es) [] pos) (tMethS C m sp E ta t) := by
  refine ⟨fun pins s σ H Q I h => PySem.W.methodCall_KW (pl := pl) (thn (he.run pins s σ H _ I h) fun u s1 q1 => ?_) ht⟩
  obtain ⟨y, H1, I1, ry, a, dx, fs, ey, ea, l, q⟩ := q1
  subst ey
  cases (show u = Value.ref a from ry)
  refine getmeth_ok I1 ea c hm l (PySem.W.callWith_K (first := [.ref a]) (h₀ := X.base) I.ok.mod.kin hm.kp (thn (ha.run pos pins s1 σ H1 _ I1 q) fun us s2 q2 => ?_) hst hpl)
  obtain ⟨vs, H2, I2, r, q2⟩ := q2
  exact ⟨I2.kIn, run_fnS (us := .ref a :: us) (vs := .ref a :: vs) F hr hb (hx σ) I2 (.cons rfl r) q2⟩
theorem run_makeS {pins : List (Addr × Obj)} {σ : L2.St} {H : Hp} {s : Shared} {Q : VK} {us : List Value} {vs : List V} (M : Mk X.K C f) (F : FnOk X.prog X.w X.K X.mg X.base CX k f fd ps sp) (hr : Room (k + 1) X.A) (hb : Binds X.K fd ps []) (hx : PassesAt CX X σ (E σ)) (I : Inv X pins σ H s) (r : Vals vs us)
    (h : ∀ y dx, H y = none → H dx = none → dx ≠ y → sp (.ref y :: vs) (upd (upd H dx (.own y)) y (.ins C dx [])) (fun v H2 => v = .non ∧ Q (.ref y) H2) (E σ)) : wpAny (model X.prog X.w) X.A (call (.ref C) us) (EP X pins σ Q) X.xe s := by
  have hq := h (s.heap.objs.size + 1) s.heap.objs.size (I.hok.fresh (Nat.le_succ _)) (I.hok.fresh (Nat.le_refl _)) (Nat.ne_of_lt (Nat.lt_succ_self _))
  have J := Inv.made (C := C) I
  have r2 : Vals (V.ref (s.heap.objs.size + 1) :: vs) (Value.ref (s.heap.objs.size + 1) :: us) := .cons rfl r
  have hl : (Value.ref (s.heap.objs.size + 1) :: us).length = ps.length := r2.length.symm.trans (F.len _ _ _ _ hq)
  have bi := hb _ (Value.ref (s.heap.objs.size + 1) :: us) J.kIn (by rw [List.append_nil]; exact hl)
  rw [List.append_nil] at bi
  refine wpAny_call (make_map (f := f) I.kIn M.makes M.init (beq_iff_eq.mp M.fn) (codeAny_mono (F.run _ X.stack _ _ ⟨_, []⟩ _ _ _ (E σ) (hr.make C us []) (J.env0.make C us []) bi r2 hq) fun rs s1 q1 => ?_))
  cases rs with
  | error er => exact hx pins _ _ er s1 J q1
  | ok fl =>
    cases fl with
    | ret u =>
      obtain ⟨v, H3, I3, rv, ev, q3⟩ := J.after q1
      subst ev
      exact ⟨rv, ⟨V.ref (s.heap.objs.size + 1), H3, I3, rfl, q3⟩⟩
    | next => exact q1.elim
    | brk => exact q1.elim
    | cont => exact q1.elim
theorem pe_makeS (M : Mk X.K C f) (F : FnOk X.prog X.w X.K X.mg X.base CX k f fd ps sp) (hr : Room (k + 1) X.A) (hg : Gl X x) (hm : X.mg x = some (.ref C)) (hb : Binds X.K fd ps []) (hx : ∀ σ, PassesAt CX X σ (E σ)) (ha : PA X (e :: es) t)
    (hdb : (x == ("__debug__" : Str)) = false := by decide) (he : starEach (e :: es) X.env = (false, eval e X.env) :: starEach es X.env := by rfl) (hpl : (backTo pos (starEach es X.env)).any (·.1) = false := by rfl) : PE X (.Call (.Name x p) (e :: es) [] pos) (tMakeS C sp E t) := by
  refine ⟨fun pins s σ H Q I h => wpAny_Call_Name_kw (ld_glob I hg hm (PySem.W.callWith_K (h₀ := X.base) I.ok.mod.kin M.kp (thn (ha.run pos pins s σ H _ I h) fun us s1 q1 => ?_) he hpl) hdb)⟩
  obtain ⟨vs, H1, I1, r, q⟩ := q1
  exact ⟨I1.kIn, run_makeS M F hr hb (hx σ) I1 r q⟩
end
/-! ### the drawing -/
theorem log2_lt60 {t : Int} (h0 : 0 < t) (h : t < 1152921504606846976) : t.natAbs.log2 < 9000 := by
  have h1 : t.natAbs < 2 ^ 60 := by
    have : (2 : Nat) ^ 60 = 1152921504606846976 := by decide
    omega
  exact Nat.lt_trans ((Nat.log2_lt (by omega)).mpr h1) (by decide)
abbrev s__law_take : Stmt := top 17
abbrev N__law_take : List Str := ["_law_box_here", "_law_top", "_law_found", "_law_once"]
abbrev P__law_take : List Str := ["_law_box_here", "_law_top"]
theorem sc__law_take : FnScope N__law_take P__law_take (defScope s__law_take) := ⟨rfl, rfl, rfl, by decide +kernel, rfl, by decide +kernel, by decide +kernel⟩
def spTake : Sp := fun vs H Q _ => ∃ (b : Addr) (top n : Int), vs = [.ref b, .int top] ∧ BoxAt H b n ∧ 0 < top ∧ top < 1152921504606846976 ∧ n < 1048576 ∧ ∀ r H', 0 ≤ r → r < top → Keep b H H' → BoxAt H' b (n + 1) → Q (.int r) H'
section
variable {P : Program} {w : World} {K : PySem.W.Frag} {mg : Str → Option Value} {base : Heap}
theorem ok_take {f : Addr} {fd : FuncData} {k : Nat} (F : Fun K "_law_take" "_law_take" s__law_take f fd) : FnOk P w K mg base CX0 (k + 1) f fd P__law_take spTake := by
  have nd := sc__law_take.nd
  refine F.ok sc__law_take (fun vs H Q E h => ?_) (fun cdv A outer s H vs Q E hr h => ?_)
  · obtain ⟨b, top, n, rfl, _⟩ := h
    rfl
  · obtain ⟨b, top, n, rfl, ⟨x, y, z, hb, hx, hy, hy2, hz, hzn⟩, ht, ht2, hn, q⟩ := h
    refine ⟨_, (pss_cons (ps_if (pt_cmpR op_gt (pe_ix (r := rIxL K) ix_list (pv 0) (pe_int) (fun _ _ => rfl)) (pe_int) (nomark _)) (pss_cons (ps_set (i := 2) nd rfl (Or.inl rfl) (pe_op op_mod (pe_ix (r := rIxL K) ix_list (pv 0) (pe_int) (fun _ _ => rfl)) (pv 1)))
      (pss_cons (ps_asg (pe_op op_fdivW (pe_ix (r := rIxL K) ix_list (pv 0) (pe_int) (fun _ _ => rfl)) (pv 1)) (pg_sub (pv 0) (pe_int) set_list))
      (pss_one (ps_ret (pv 2))))) pss_nil)
      (pss_cons (ps_asg (pe_op op_add (pe_ix (r := rIxL K) ix_list (pv 0) (pe_int) (fun _ _ => rfl)) (pe_int)) (pg_sub (pv 0) (pe_int) set_list))
      (pss_cons (ps_set (i := 3) nd rfl (Or.inl rfl) (pe_op op_mod (pe_op op_pow (pe_op op_add (pe_ix (r := rIxL K) ix_list (pv 0) (pe_int) (fun _ _ => rfl)) (pe_op op_mul (pe_int) (pe_ix (r := rIxL K) ix_list (pv 0) (pe_int) (fun _ _ => rfl)))) (pe_int)) (pe_int)))
      (pss_one (ps_ret (pe_op op_mod (pe_op op_fdivW (pe_op op_mod (pe_op op_add (pe_op op_mul (pv 3) (pe_op op_add (pe_op op_mod (pv 3) (pe_int)) (pe_int))) (pe_op op_mul (pe_ix (r := rIxL K) ix_list (pv 0) (pe_int) (fun _ _ => rfl)) (pe_int))) (pe_int)) (pe_int)) (pv 1))))))), ?_⟩
    have hL : SqL K H b [.int x, .int y, .int z] := SqL.of hb
    have cw : ∀ i : Int, CDivW i top := fun i => ⟨ht, log2_lt60 ht ht2⟩
    have cw6 : ∀ i : Int, CDivW i 64 := fun i => ⟨by decide, by decide⟩
    have cw1 := cw x
    walk_at "ev"
    refine ite2 (fun e => ?_) (fun e => ?_)
    · have e1 : 0 < x := of_decide_eq_true e
      walk_at "ev"
      exact q _ _ (Int.emod_nonneg _ (by omega)) (Int.emod_lt_of_pos _ ht) (keep_upd (Keep.refl _ _)) ⟨_, _, _, upd_same, Int.ediv_nonneg hx (by omega), hy, hy2, hz, by omega⟩
    · walk_at "ev"
      exact q _ _ (Int.emod_nonneg _ (by omega)) (Int.emod_lt_of_pos _ ht) (keep_upd (Keep.refl _ _)) ⟨_, _, _, upd_same, hx, hy, hy2, by omega, by omega⟩
end
abbrev s__law_pick : Stmt := top 18
abbrev N__law_pick : List Str := ["_law_box_here", "_law_things"]
abbrev P__law_pick : List Str := ["_law_box_here", "_law_things"]
theorem sc__law_pick : FnScope N__law_pick P__law_pick (defScope s__law_pick) := ⟨rfl, rfl, rfl, by decide +kernel, rfl, by decide +kernel, by decide +kernel⟩
def spPick (K : PySem.W.Frag) : Sp := fun vs H Q _ => ∃ (b a : Addr) (xs : List V) (n : Int), vs = [.ref b, .ref a] ∧ BoxAt H b n ∧ SqL K H a xs ∧ a ≠ b ∧ 0 < (xs.length : Int) ∧ (xs.length : Int) < 1048576 ∧ n < 1048576 ∧ ∀ v H', v ∈ xs → Keep b H H' → BoxAt H' b (n + 1) → Q v H'
section
variable {P : Program} {w : World} {K : PySem.W.Frag} {mg : Str → Option Value} {base : Heap}
theorem ok_pick {f fT : Addr} {fd fdT : FuncData} {k : Nat} (F : Fun K "_law_pick" "_law_pick" s__law_pick f fd) (T : Blt mg) (D__law_take : Df K mg "_law_take" s__law_take P__law_take fT fdT) : FnOk P w K mg base CX0 (k + 2) f fd P__law_pick (spPick K) := by
  have G__law_take : FnOk P w K mg base CX0 (k + 1) fT fdT P__law_take spTake := ok_take D__law_take.F
  have nd := sc__law_pick.nd
  refine F.ok sc__law_pick (fun vs H Q E h => ?_) (fun cdv A outer s H vs Q E hr h => ?_)
  · obtain ⟨b, a, xs, n, rfl, _⟩ := h
    rfl
  · obtain ⟨b, a, xs, n, rfl, hb, hL, hne, h0, h1, hn, q⟩ := h
    refine ⟨_, (pss_one (ps_ret (pe_ix (r := rIxL K) ix_list (pv 1) (pe_call G__law_take (hr.mono (by omega)) (by rfl) D__law_take.g D__law_take.F.kp D__law_take.b .nil pass0 (pa_cons (pv 0) (pa_cons (pe_callB (r := rLenQ K) call_len_seq (by rfl) T.b_len (by decide +kernel) (pa_cons (pv 1) pa_nil)) pa_nil))) (fun _ _ => rfl)))), ?_⟩
    walk_at "ev"
    intro r H' hr0 hr1 hk hb'
    obtain ⟨v, hv, hat⟩ := at_some hr0 hr1
    have hL' := hk.seq hne hL
    walk_at "ev"
    exact q _ _ hv hk hb'
end
abbrev s__law_box : Stmt := top 16
abbrev N__law_box : List Str := ["_law_script", "_law_k", "_law_cell"]
abbrev P__law_box : List Str := ["_law_script", "_law_k"]
theorem sc__law_box : FnScope N__law_box P__law_box (defScope s__law_box) := ⟨rfl, rfl, rfl, by decide +kernel, rfl, by decide +kernel, by decide +kernel⟩
def spBox (K : PySem.W.Frag) : Sp := fun vs H Q _ => ∃ (a : Addr) (ns : List Int) (k : Int), vs = [.ref a, .int k] ∧ SqL K H a (ns.map V.int) ∧ 0 ≤ k ∧ k ≤ 100000 ∧ ∀ p H', H p = none → Same H H' → BoxAt H' p 0 → Q (.ref p) H'
section
variable {P : Program} {w : World} {K : PySem.W.Frag} {mg : Str → Option Value} {base : Heap}
theorem ok_box {f : Addr} {fd : FuncData} {k : Nat} (F : Fun K "_law_box" "_law_box" s__law_box f fd) (T : Blt mg) : FnOk P w K mg base CX0 (k + 1) f fd P__law_box (spBox K) := by
  have nd := sc__law_box.nd
  refine F.ok sc__law_box (fun vs H Q E h => ?_) (fun cdv A outer s H vs Q E hr h => ?_)
  · obtain ⟨b, top, n, rfl, _⟩ := h
    rfl
  · obtain ⟨a, ns, k, rfl, hL, h0, h1, q⟩ := h
    refine ⟨_, (pss_cons (ps_set (i := 2) nd rfl (Or.inl rfl) (pe_int))
      (pss_cons (ps_if (pt_cmpR op_lt (pv 1) (pe_callB (r := rLenQ K) call_len_seq (by rfl) T.b_len (by decide +kernel) (pa_cons (pv 0) pa_nil)) (nomark _)) (pss_one (ps_set (i := 2) nd rfl (Or.inl rfl) (pe_ix (r := rIxL K) ix_list (pv 0) (pv 1) (fun _ _ => rfl)))) pss_nil)
      (pss_one (ps_ret (pe_lst (pa_cons (pe_op op_mul (pe_callB call_abs (by rfl) T.b_abs (by decide +kernel) (pa_cons (pv 2) pa_nil)) (pe_callTy call_int1 (by rfl) T.b_int (by decide +kernel) (pa_cons (pe_cmpR op_ge (pe_callB call_abs (by rfl) T.b_abs (by decide +kernel) (pa_cons (pv 2) pa_nil)) (pe_op op_pow (pe_int) (pe_int)) (nomark _)) pa_nil))) (pa_cons (pe_op op_add (pe_op op_add (pe_op op_mod (pv 2) (pe_int)) (pe_op op_mul (pe_int) (pv 1))) (pe_int)) (pa_cons (pe_int) pa_nil)))))))), ?_⟩
    have fin : ∀ c : Int, ∀ p, H p = none → Q (.ref p) (upd H p (.lst [.int ((if c < 0 then -c else c) * (if decide ((10 : Int) ^ 18 ≤ if c < 0 then -c else c) then 1 else 0)), .int (c % 2147483629 + 7919 * k + 11), .int 0])) := by
      intro c p hp
      refine q p _ hp (same_new hp) ⟨_, _, _, upd_same, ?_, ?_, ?_, by omega, by omega⟩
      · refine Int.mul_nonneg ?_ ?_
        · split <;> omega
        · split <;> omega
      · have := Int.emod_nonneg c (show (2147483629 : Int) ≠ 0 by decide)
        omega
      · have := Int.emod_lt_of_pos c (show (0 : Int) < 2147483629 by decide)
        omega
    walk_at "ev"
    refine ite2 (fun e => ?_) (fun e => ?_)
    · have e1 : k < ((ns.map V.int).length : Int) := of_decide_eq_true e
      rw [List.length_map] at e1
      obtain ⟨c, hc, hat⟩ := at_ints h0 e1
      walk_at "ev"
      exact fin c
    · walk_at "ev"
      exact fin 0
end
/-! ### the mathematics of primes -/
def Rough (n d : Int) : Prop := ∀ e : Int, 2 ≤ e → e < d → ¬ e ∣ n
inductive Fac : Int → List Int → Prop
  | one : Fac 1 []
  | cons {n p q : Int} {ps : List Int} : 2 ≤ p → n = p * q → 1 ≤ q → Rough n p → Fac q ps → Fac n (p :: ps)
theorem Fac.uniq : ∀ {n : Int} {xs ys : List Int}, Fac n xs → Fac n ys → xs = ys := by
  intro n xs ys h
  induction h generalizing ys with
  | one =>
    intro k
    cases k with
    | one => rfl
    | cons h1 h2 h3 h4 h5 =>
      rename_i p q ps
      have : 2 * 1 ≤ p * q := Int.mul_le_mul h1 h3 (by omega) (by omega)
      omega
  | cons h1 h2 h3 h4 h5 ih =>
    rename_i n p q ps
    intro k
    cases k with
    | one =>
      have : 2 * 1 ≤ p * q := Int.mul_le_mul h1 h3 (by omega) (by omega)
      omega
    | cons g1 g2 g3 g4 g5 =>
      rename_i p' q' ps'
      have e : p = p' := by
        rcases Int.lt_trichotomy p p' with l | l | l
        · exact absurd ⟨q, h2⟩ (g4 p h1 l)
        · exact l
        · exact absurd ⟨q', g2⟩ (h4 p' g1 l)
      subst e
      have e2 : q = q' := by
        have : p * q = p * q' := by omega
        exact Int.eq_of_mul_eq_mul_left (by omega) this
      subst e2
      rw [ih g5]
theorem Fac.len1 {n : Int} {xs : List Int} (h : Fac n xs) (e : xs.length = 1) : xs = [n] := by
  cases h with
  | one => simp at e
  | cons h1 h2 h3 h4 h5 =>
    rename_i p q ps
    have : ps = [] := by
      cases ps with
      | nil => rfl
      | cons a r => simp at e
    subst this
    cases h5 with
    | one =>
      rw [h2, Int.mul_one]
theorem Fac.self {n : Int} (h : 2 ≤ n) (r : Rough n n) : Fac n [n] := .cons h (by omega) (by omega) r .one
theorem Rough.of_fac {n : Int} (h : Fac n [n]) : 2 ≤ n ∧ Rough n n := by
  cases h with
  | cons h1 h2 h3 h4 h5 => exact ⟨h1, h4⟩
theorem Rough.step {n d : Int} (h : Rough n d) (e : ¬ d ∣ n) : Rough n (d + 1) := fun c h1 h2 => by
  by_cases q : c = d
  · rw [q]; exact e
  · exact h c h1 (by omega)
theorem Rough.quot {n p q d : Int} (h : Rough n d) (e : n = p * q) : Rough q d := fun c h1 h2 k => h c h1 h2 (by rw [e]; exact Int.dvd_trans k (Int.dvd_mul_left p q))
/-- nothing below d divides n, d squared is above n: n has no divisor at all -/
theorem Rough.top {n d : Int} (h : Rough n d) (hd : 2 ≤ d) (hn : 2 ≤ n) (e : n < d * d) : Rough n n := fun c h1 h2 k => by
  obtain ⟨q, hq⟩ := k
  by_cases hc : c < d
  · exact h c h1 hc ⟨q, hq⟩
  · have hq0 : 0 < q := by
      apply Int.lt_of_not_ge
      intro z
      have : c * q ≤ 0 := Int.mul_nonpos_of_nonneg_of_nonpos (by omega) z
      omega
    have hq1 : q ≠ 1 := by
      intro z
      rw [z] at hq
      omega
    have hqd : q < d := by
      apply Int.lt_of_not_ge
      intro z
      have : d * d ≤ c * q := Int.mul_le_mul (by omega) z (by omega) (by omega)
      omega
    exact h q (by omega) hqd ⟨c, by rw [hq, Int.mul_comm]⟩
theorem dvd_iff {n d : Int} : n % d = 0 ↔ d ∣ n := ⟨Int.dvd_of_emod_eq_zero, Int.emod_eq_zero_of_dvd⟩
/-- a divisor taken out -/
theorem Fac.out {n num d : Int} {found : List Int} (h : ∀ ps, Fac num ps → Fac n (found ++ ps)) (hd : 2 ≤ d) (h1 : 1 ≤ num) (r : Rough num d) (e : num % d = 0) :
    (∀ ps, Fac (num / d) ps → Fac n ((found ++ [d]) ++ ps)) ∧ 1 ≤ num / d ∧ Rough (num / d) d ∧ 2 * (num / d) ≤ num := by
  have e1 : num = d * (num / d) := (Int.mul_ediv_cancel' (Int.dvd_of_emod_eq_zero e)).symm
  generalize num / d = q at *
  have q0 : 0 < q := by
    apply Int.lt_of_not_ge
    intro z
    have : d * q ≤ 0 := Int.mul_nonpos_of_nonneg_of_nonpos (by omega) z
    omega
  refine ⟨fun ps f => ?_, q0, r.quot e1, ?_⟩
  · rw [List.append_assoc]
    exact h _ (.cons hd e1 q0 r f)
  · have : 2 * q ≤ d * q := Int.mul_le_mul_of_nonneg_right hd (by omega)
    omega
theorem pow_len {L : Nat} {num n : Int} (h : 2 ^ L * num.toNat ≤ n.toNat) (h1 : 1 ≤ num) (hn : n ≤ 1000000000) : L ≤ 30 := by
  apply Nat.le_of_not_gt
  intro z
  have a : 2 ^ 31 ≤ 2 ^ L := Nat.pow_le_pow_right (by decide) z
  have b : 2 ^ L * 1 ≤ 2 ^ L * num.toNat := Nat.mul_le_mul_left _ (by omega)
  have h31 : (2 : Nat) ^ 31 = 2147483648 := by decide
  omega
theorem pow_step {L : Nat} {num q n : Int} (h : 2 ^ L * num.toNat ≤ n.toNat) (e : 2 * q ≤ num) : 2 ^ (L + 1) * q.toNat ≤ n.toNat := by
  have : 2 ^ (L + 1) * q.toNat = 2 ^ L * (2 * q.toNat) := by rw [Nat.pow_succ, Nat.mul_assoc]
  rw [this]
  exact Nat.le_trans (Nat.mul_le_mul_left _ (by omega)) h
/-! ### kinds of things -/
inductive Kd (K : PySem.W.Frag) (H : Hp) : V → String → Prop
  | non : Kd K H .non "NoneType"
  | bl (b : Bool) : Kd K H (.bl b) "bool"
  | int (i : Int) : Kd K H (.int i) "int"
  | str (x : Str) : Kd K H (.str x) "str"
  | lst {a : Addr} {xs : List V} : SqL K H a xs → Kd K H (.ref a) "list"
  | tup {a : Addr} {xs : List V} : SqT K H a xs → Kd K H (.ref a) "tuple"
theorem Kd.ty {K : PySem.W.Frag} {H : Hp} {x : V} {t : String} (h : Kd K H x t) : TyX K H x (.type t) := by
  cases h with
  | non => exact .base .non
  | bl b => exact .base (.bl b)
  | int i => exact .base (.int i)
  | str x => exact .base (.str x)
  | lst h =>
    rcases h with (h | ⟨o, h⟩) | ⟨o, its, n, h1, h2, _⟩
    · exact .base (.lst h)
    · exact .base (.frz h)
    · exact .kList h1 h2
  | tup h =>
    rcases h with (h | ⟨o, h⟩) | ⟨o, its, n, h1, h2, _⟩
    · exact .base (.tup h)
    · exact .fTuple h
    · exact .kTuple h1 h2
theorem Kd.same {K : PySem.W.Frag} {H H' : Hp} {x : V} {t : String} (h : Kd K H x t) (e : Same H H') : Kd K H' x t := by
  cases h with
  | non => exact .non
  | bl b => exact .bl b
  | int i => exact .int i
  | str x => exact .str x
  | lst h => exact .lst (e.seq h)
  | tup h => exact .tup (same_t e h)
def tis (t c : String) : Bool := t == c || (t == "bool" && c == "int")
theorem Kd.kit {K : PySem.W.Frag} {H : Hp} {x : V} {t : String} (h : Kd K H x t) : PySem.W.kitOne K (.type t) (.type "int") = some (tis t "int") ∧ PySem.W.kitOne K (.type t) (.type "bool") = some (tis t "bool") ∧ PySem.W.kitOne K (.type t) (.type "str") = some (tis t "str") ∧ PySem.W.kitOne K (.type t) (.type "list") = some (tis t "list") ∧ PySem.W.kitOne K (.type t) (.type "tuple") = some (tis t "tuple") := by
  cases h <;> exact ⟨kit_ty (by decide +kernel), kit_ty (by decide +kernel), kit_ty (by decide +kernel), kit_ty (by decide +kernel), kit_ty (by decide +kernel)⟩
theorem kit_lt {K : PySem.W.Frag} {t : String} {a b : Bool} (h1 : PySem.W.kitOne K (.type t) (.type "list") = some a) (h2 : PySem.W.kitOne K (.type t) (.type "tuple") = some b) : PySem.W.kitAny K (.type t) [.type "list", .type "tuple"] = some (a || b) := by
  refine kitAny_cons h1 (fun e => kitAny_cons h2 (fun e2 => ?_) (fun e2 => ?_)) (fun e => by rw [e]; rfl)
  · rw [e, e2]
    exact kitAny_nil
  · rw [e, e2]
    rfl
/-! ### == of lists of ints -/
theorem dp_ints {K : PySem.W.Frag} {H : Hp} : ∀ ns : List Int, DpAll K H (ns.map V.int) (ns.map PyData.int)
  | [] => .nil
  | n :: r => .cons (.int n) (dp_ints r)
theorem eqv_ints : ∀ ns ms : List Int, PyData.eqvAll (ns.map PyData.int) (ms.map PyData.int) = decide (ns = ms)
  | [], [] => by simp [PyData.eqvAll]
  | [], _ :: _ => by simp [PyData.eqvAll]
  | _ :: _, [] => by simp [PyData.eqvAll]
  | a :: r, b :: t => by
    simp only [List.map_cons, PyData.eqvAll, PyData.eqv, eqv_ints r t]
    by_cases h : a = b <;> by_cases h' : r = t <;> simp [h, h']
theorem eqd_ints {K : PySem.W.Frag} {H : Hp} {a b : Addr} {ns ms : List Int} {Q : VK} (ha : SqL K H a (ns.map V.int)) (hb : SqL K H b (ms.map V.int)) (q : Q (.bl (decide (ns = ms))) H) : rEqD K (.ref a) (.ref b) H Q := by
  refine ⟨_, _, .lst ha (dp_ints ns), .lst hb (dp_ints ms), PySem.W.ke_shaped_ints ns, PySem.W.ke_shaped_ints ms, ?_⟩
  have e : PyData.eqv (.list (ns.map PyData.int)) (.list (ms.map PyData.int)) = decide (ns = ms) := by
    rw [PyData.eqv]
    exact eqv_ints ns ms
  rw [e]
  exact q
abbrev s_factors : Stmt := top 9
abbrev N_factors : List Str := ["number", "found", "divisor"]
abbrev P_factors : List Str := ["number"]
theorem sc_factors : FnScope N_factors P_factors (defScope s_factors) := ⟨rfl, rfl, rfl, by decide +kernel, rfl, by decide +kernel, by decide +kernel⟩
def spFactors : Sp := fun vs H Q _ => ∃ (n : Int), vs = [.int n] ∧ 1 ≤ n ∧ n ≤ 1000000000 ∧ ∀ xs p H', Fac n xs → H p = none → Same H H' → H' p = some (.lst (xs.map V.int)) → Q (.ref p) H'
section
variable {P : Program} {w : World} {K : PySem.W.Frag} {mg : Str → Option Value} {base : Heap}
theorem ok_factors {f : Addr} {fd : FuncData} {k : Nat} (F : Fun K "factors" "factors" s_factors f fd) : FnOk P w K mg base CX0 (k + 1) f fd P_factors spFactors := by
  have nd := sc_factors.nd
  refine F.ok sc_factors (fun vs H Q E h => ?_) (fun cdv A outer s H vs Q E hr h => ?_)
  · obtain ⟨n, rfl, _⟩ := h
    rfl
  · obtain ⟨n, rfl, hn1, hn2, q⟩ := h
    refine ⟨_, (pss_cons (ps_set (i := 1) nd rfl (Or.inl rfl) (pe_lst pa_nil))
      (pss_cons (ps_set (i := 2) nd rfl (Or.inl rfl) (pe_int))
      (pss_cons (ps_while PassesOwn.never (pt_cmpR op_le (pe_op op_mul (pv 2) (pv 2)) (pv 0) (nomark _))
      (pss_one (ps_if (pt_cmpR op_eq (pe_op op_mod (pv 0) (pv 2)) (pe_int) (nomark _)) (pss_cons (ps_expr (pe_bm PySem.F.plainAttrs_list PySem.F.slot_list_append PySem.F.type_list_append mt_append (pv 1) (pa_cons (pv 2) pa_nil)))
      (pss_one (ps_aug (i := 0) nd rfl (Or.inl rfl) (pv 2) iop_fdivW))) (pss_one (ps_aug (i := 2) nd rfl (Or.inl rfl) (pe_int) ip_add)))))
      (pss_cons (ps_if (pt_cmpR op_gt (pv 0) (pe_int) (nomark _)) (pss_one (ps_expr (pe_bm PySem.F.plainAttrs_list PySem.F.slot_list_append PySem.F.type_list_append mt_append (pv 1) (pa_cons (pv 0) pa_nil)))) pss_nil)
      (pss_one (ps_ret (pv 1))))))), ?_⟩
    walk_at "ev"
    intro p hp
    generalize hG : upd _ p _ = H1
    obtain ⟨sm, hp1⟩ := newO hG hp
    refine ⟨fun m σ H' => ∃ (num d : Int) (found : List Int), σ = [some (.int num), some (.ref p), some (.int d)] ∧ m = (num - d).toNat + num.toNat ∧ 1 ≤ num ∧ num ≤ n ∧ 2 ≤ d ∧ d ≤ n + 2 ∧ 2 ^ found.length * num.toNat ≤ n.toNat ∧ Rough num d ∧ (∀ ps, Fac num ps → Fac n (found ++ ps)) ∧ Same H H' ∧ H' p = some (.lst (found.map V.int)), ⟨_, n, 2, [], rfl, rfl, hn1, by omega, by omega, by omega, by simp, fun e h1 h2 => by omega, fun ps f => f, sm, hp1⟩, ?_⟩
    rintro m σ H' ⟨num, d, found, rfl, rfl, h1, h2, h3, h4, h5, hr', hf, sm', hp'⟩
    have hL := pow_len h5 h1 hn2
    have cm : CMul d d := .inl ⟨by omega, by omega⟩
    walk_at "ev"
    refine ite2 (fun e => ?_) (fun e => ?_)
    · have e1 : d * d ≤ num := of_decide_eq_true e
      refine ⟨_, holdN, ?_⟩
      walk_at "ev"
      refine ite2 (fun e2 => ?_) (fun e2 => ?_)
      · have e3 : num % d = 0 := V.int.inj (of_decide_eq_true e2)
        obtain ⟨o1, o2, o3, o4⟩ := Fac.out hf h3 h1 hr' e3
        walk_at "ev"
        refine .mk ⟨(num / d - d).toNat + (num / d).toNat, by omega, num / d, d, found ++ [d], rfl, rfl, o2, by omega, h3, h4, ?_, o3, o1, same_mut sm' hp, by rw [upd_same, List.map_append]; rfl⟩
        rw [List.length_append]
        exact pow_step h5 o4
      · have e3 : ¬ num % d = 0 := fun z => e2 (decide_eq_true (congrArg V.int z))
        have e4 : 2 * d ≤ d * d := Int.mul_le_mul_of_nonneg_right h3 (by omega)
        walk_at "ev"
        exact .mk ⟨(num - (d + 1)).toNat + num.toNat, by omega, num, d + 1, found, rfl, rfl, h1, h2, by omega, by omega, h5, hr'.step (fun z => e3 (dvd_iff.mpr z)), hf, sm', hp'⟩
    · have e1 : ¬ d * d ≤ num := fun z => e (decide_eq_true z)
      walk_at "ev"
      refine ite2 (fun e2 => ?_) (fun e2 => ?_)
      · have e3 : 1 < num := of_decide_eq_true e2
        walk_at "ev"
        refine q (found ++ [num]) _ _ (hf _ (Fac.self (by omega) (hr'.top h3 (by omega) (by omega)))) hp (same_mut sm' hp) (by rw [upd_same, List.map_append]; rfl)
      · have e3 : ¬ 1 < num := fun z => e2 (decide_eq_true z)
        have e4 : num = 1 := by omega
        walk_at "ev"
        subst e4
        have fin := hf [] .one
        rw [List.append_nil] at fin
        exact q found _ _ fin hp sm' hp'
end
/-! ### the law's own comparing, of like things -/
abbrev s__law_same : Stmt := top 19
abbrev N__law_same : List Str := ["_law_found", "_law_due", "_law_one", "_law_two"]
abbrev P__law_same : List Str := ["_law_found", "_law_due"]
theorem sc__law_same : FnScope N__law_same P__law_same (defScope s__law_same) := ⟨rfl, rfl, rfl, by decide +kernel, rfl, by decide +kernel, by decide +kernel⟩
def Fit : Nat → PyData → Prop
  | 0, .list _ => False
  | 0, .tuple _ => False
  | n + 1, .list ds => ds.length ≤ 4000 ∧ ∀ e ∈ ds, Fit n e
  | n + 1, .tuple ds => ds.length ≤ 4000 ∧ ∀ e ∈ ds, Fit n e
  | _, .dict _ => False
  | _, _ => True
theorem dpall_len {K : PySem.W.Frag} {H : Hp} : ∀ {xs : List V} {ds : List PyData}, DpAll K H xs ds → xs.length = ds.length
  | _, _, .nil => rfl
  | _, _, .cons _ h => by rw [List.length_cons, List.length_cons, dpall_len h]
theorem dpall_get {K : PySem.W.Frag} {H : Hp} : ∀ {xs : List V} {ds : List PyData} {i : Nat} {x : V}, DpAll K H xs ds → xs[i]? = some x → ∃ d, ds[i]? = some d ∧ Dp K H x d
  | _, _, _, _, .nil, h => by simp at h
  | _, _, 0, _, .cons (d := d) h1 h2, h => ⟨d, rfl, by
      have e := Option.some.inj h
      rw [← e]
      exact h1⟩
  | _, _, i + 1, _, .cons h1 h2, h => dpall_get (i := i) h2 h
mutual
theorem dp_same {K : PySem.W.Frag} {H H' : Hp} (e : Same H H') : ∀ {x : V} {d : PyData}, Dp K H x d → Dp K H' x d
  | _, _, .non => .non
  | _, _, .bl b => .bl b
  | _, _, .int i => .int i
  | _, _, .str x => .str x
  | _, _, .lst h a => .lst (e.seq h) (dpall_same e a)
  | _, _, .tup h a => .tup (same_t e h) (dpall_same e a)
theorem dpall_same {K : PySem.W.Frag} {H H' : Hp} (e : Same H H') : ∀ {xs : List V} {ds : List PyData}, DpAll K H xs ds → DpAll K H' xs ds
  | _, _, .nil => .nil
  | _, _, .cons h a => .cons (dp_same e h) (dpall_same e a)
end
def spSame (K : PySem.W.Frag) (n : Nat) : Sp := fun vs H Q _ => ∃ (x y : V) (d : PyData), vs = [x, y] ∧ Dp K H x d ∧ Dp K H y d ∧ Fit n d ∧ ∀ H', Same H H' → Q (.bl true) H'
/-- a comprehension over pairs -/
theorem lc_pairs {J : It} {xs ys : List V} {g : TG} {tt : TT} {te : TE} {vs : List Nat} {σ : L2.St} {H1 : Hp} {D : Addr} {Qd : Hp → Prop} (Pv : Nat → Hp → Prop) (h0 : Pv 0 (upd H1 D (.lst [])))
    (hgo : ∀ i H, Pv i H → i < xs.length → J.go i H) (hy : ∀ i H v H', Pv i H → i < xs.length → J.yld i H v H' → ∃ T x y, v = .ref T ∧ H T = none ∧ H' = upd H T (.tup [x, y]) ∧ xs[i]? = some x ∧ ys[i]? = some y)
    (hst : ∀ H, Pv xs.length H → J.stop xs.length H)
    (hs : ∀ i x y T H H', xs[i]? = some x → ys[i]? = some y → Pv i H → H T = none → H' = upd H T (.tup [x, y]) → g (.ref T) (wipe σ vs) H' fun σ2 H2 => wipe σ2 vs = wipe σ vs ∧ tt σ2 H2 fun b H3 =>
      if b = true then te σ2 H3 fun y H4 => ∃ acc, H4 D = some (.lst acc) ∧ acc.length < sizeLine ∧ Pv (i + 1) (upd H4 D (.lst (acc ++ [y]))) else Pv (i + 1) H3) (hd : ∀ H, Pv xs.length H → Qd H) :
    ∃ W : Nat → Nat → Hp → Prop, (∃ m, W 0 m (upd H1 D (.lst []))) ∧ ∀ i m H, W i m H →
      (J.stop i H ∧ Qd H) ∨ (J.go i H ∧ ∃ Nx : Hp → Prop, (∀ H', Nx H' → ∃ m', m' < m ∧ W (i + 1) m' H') ∧ ∀ x H', J.yld i H x H' → g x (wipe σ vs) H' fun σ2 H2 => wipe σ2 vs = wipe σ vs ∧ tt σ2 H2 fun b H3 =>
        if b = true then te σ2 H3 fun y H4 => ∃ acc, H4 D = some (.lst acc) ∧ acc.length < sizeLine ∧ Nx (upd H4 D (.lst (acc ++ [y]))) else Nx H3) := by
  refine ⟨fun i m H => m = xs.length - i ∧ i ≤ xs.length ∧ Pv i H, ⟨xs.length, by simp, Nat.zero_le _, h0⟩, ?_⟩
  rintro i m H ⟨rfl, hi, p⟩
  by_cases hlt : i < xs.length
  · refine .inr ⟨hgo i H p hlt, Pv (i + 1), fun H' p' => ⟨xs.length - (i + 1), by omega, rfl, hlt, p'⟩, fun v H' yl => ?_⟩
    obtain ⟨T, x, y, rfl, hT, e, f1, f2⟩ := hy i H v H' p hlt yl
    exact hs i x y T H H' f1 f2 p hT e
  · have e : i = xs.length := by omega
    subst e
    exact .inl ⟨hst H p, hd H p⟩
theorem q_dec {Q : VK} {x : V} {H : Hp} (h : Q (.bl true) H) : Q (.bl (decide (x = x))) H := by
  rw [decide_eq_true rfl]
  exact h
theorem all_true : ∀ n : Nat, (List.replicate n true).all id = true
  | 0 => rfl
  | n + 1 => by
    rw [List.replicate_succ, List.all_cons, all_true n]
    rfl
section
variable {P : Program} {w : World} {K : PySem.W.Frag} {mg : Str → Option Value} {base : Heap}
theorem same_step {f : Addr} {fd : FuncData} {n : Nat} {spI : Sp} (D__law_same : Df K mg "_law_same" s__law_same P__law_same f fd) (T : Blt mg) (G__law_same : FnOk P w K mg base CX0 n f fd P__law_same spI) (hG : ∀ m, n = m + 1 → spI = spSame K m) : FnOk P w K mg base CX0 (n + 1) f fd P__law_same (spSame K n) := by
  have nd := sc__law_same.nd
  refine D__law_same.F.ok sc__law_same (fun vs H Q E h => ?_) (fun cdv A outer s H vs Q E hr h => ?_)
  · obtain ⟨x, y, d, rfl, _⟩ := h
    rfl
  · obtain ⟨x, y, d, rfl, hx, hy, hf, q⟩ := h
    refine ⟨_, (pss_cons (ps_if (pt_val (pe_callB (r := rIsiT K) call_isiT (by rfl) T.b_isinstance (by decide +kernel) (pa_cons (pv 1) (pa_cons (pe_tup (pa_cons (pe_bltn (v := .ty "list") (by rfl) T.b_list (by decide +kernel) rfl) (pa_cons (pe_bltn (v := .ty "tuple") (by rfl) T.b_tuple (by decide +kernel) rfl) pa_nil))) pa_nil)))) (pss_cons (ps_if (PW.pt (pw_or (pt_cmpR op_ne (pe_callB (r := rIsi K) call_isi (by rfl) T.b_isinstance (by decide +kernel) (pa_cons (pv 0) (pa_cons (pe_bltn (v := .ty "list") (by rfl) T.b_list (by decide +kernel) rfl) pa_nil))) (pe_callB (r := rIsi K) call_isi (by rfl) T.b_isinstance (by decide +kernel) (pa_cons (pv 1) (pa_cons (pe_bltn (v := .ty "list") (by rfl) T.b_list (by decide +kernel) rfl) pa_nil))) (nomark _)) (pw_or1 (pt_cmpR op_ne (pe_callB (r := rIsi K) call_isi (by rfl) T.b_isinstance (by decide +kernel) (pa_cons (pv 0) (pa_cons (pe_bltn (v := .ty "tuple") (by rfl) T.b_tuple (by decide +kernel) rfl) pa_nil))) (pe_callB (r := rIsi K) call_isi (by rfl) T.b_isinstance (by decide +kernel) (pa_cons (pv 1) (pa_cons (pe_bltn (v := .ty "tuple") (by rfl) T.b_tuple (by decide +kernel) rfl) pa_nil))) (nomark _))))) (pss_one (ps_ret (pe_bl))) pss_nil)
      (pss_cons (ps_if (pt_cmpR op_ne (pe_callB (r := rLenQ K) call_len_seq (by rfl) T.b_len (by decide +kernel) (pa_cons (pv 0) pa_nil)) (pe_callB (r := rLenQ K) call_len_seq (by rfl) T.b_len (by decide +kernel) (pa_cons (pv 1) pa_nil)) (nomark _)) (pss_one (ps_ret (pe_bl))) pss_nil)
      (pss_one (ps_ret (pe_callB (r := rAll K) (cr_all rfl) (by rfl) T.b_all (by decide +kernel) (pa_cons (pe_lc (own := [("_law_one", 2), ("_law_two", 3)]) (g := gTup K 2 (gCons (gName 2) (gCons (gName 3) gNil))) (by rfl) nd (RZ.pi_zipA (by rfl) T.b_zip (pa_cons (pv 0) (pa_cons (pv 1) pa_nil))) (blkOk_by (own := [("_law_one", 2), ("_law_two", 3)]) (N := N__law_same) (sc := defScope s__law_same) (by decide +kernel)) (fun _ _ _ _ _ => (pg_tup (by rfl) (pgs_cons (pg_name (i := 2) nd rfl (Or.inl rfl)) (pgs_cons (pg_name (i := 3) nd rfl (Or.inl rfl)) pgs_nil)))) (fun _ _ _ _ _ => pts_nil) (fun _ _ _ _ _ => (pe_call G__law_same (hr.mono (by omega)) (by rfl) D__law_same.g D__law_same.F.kp D__law_same.b .nil pass0 (pa_cons (pv 2) (pa_cons (pv 3) pa_nil))))) pa_nil)))))) pss_nil)
      (pss_cons (ps_if (PW.pt (pw_or (pt_cmpR op_isN (pv 1) (pe_non) (nomark _)) (pw_or1 (pt_val (pe_callB (r := rIsi K) call_isi (by rfl) T.b_isinstance (by decide +kernel) (pa_cons (pv 1) (pa_cons (pe_bltn (v := .ty "str") (by rfl) T.b_str (by decide +kernel) rfl) pa_nil))))))) (pss_one (ps_ret (pe_and (pe_cmpR op_eq (pv 0) (pv 1) (nomark _)) (pe_one (pe_cmpR op_eq (pe_callB (r := rIsi K) call_isi (by rfl) T.b_isinstance (by decide +kernel) (pa_cons (pv 0) (pa_cons (pe_bltn (v := .ty "str") (by rfl) T.b_str (by decide +kernel) rfl) pa_nil))) (pe_callB (r := rIsi K) call_isi (by rfl) T.b_isinstance (by decide +kernel) (pa_cons (pv 1) (pa_cons (pe_bltn (v := .ty "str") (by rfl) T.b_str (by decide +kernel) rfl) pa_nil))) (nomark _)))))) pss_nil)
      (pss_one (ps_ret (pe_and (pe_callB (r := rIsi K) call_isi (by rfl) T.b_isinstance (by decide +kernel) (pa_cons (pv 0) (pa_cons (pe_bltn (v := .ty "int") (by rfl) T.b_int (by decide +kernel) rfl) pa_nil))) (pe_and (pe_cmpR op_eq (pe_callB (r := rIsi K) call_isi (by rfl) T.b_isinstance (by decide +kernel) (pa_cons (pv 0) (pa_cons (pe_bltn (v := .ty "bool") (by rfl) T.b_bool (by decide +kernel) rfl) pa_nil))) (pe_callB (r := rIsi K) call_isi (by rfl) T.b_isinstance (by decide +kernel) (pa_cons (pv 1) (pa_cons (pe_bltn (v := .ty "bool") (by rfl) T.b_bool (by decide +kernel) rfl) pa_nil))) (nomark _)) (pe_one (pe_cmpR op_eq (pv 0) (pv 1) (nomark _))))))))), ?_⟩
    cases hx with
    | non =>
      cases hy
      walk_at "ev"
      intro p hp
      generalize hH : upd _ p _ = H1
      obtain ⟨sm, hp1⟩ := newO hH hp
      have kd : Kd K H1 .non "NoneType" := .non
      have ty := kd.ty
      obtain ⟨k1, k2, k3, k4, k5⟩ := kd.kit
      have ka := kit_lt k4 k5
      walk_at "ev"
      exact q_dec (q _ sm)
    | bl b =>
      cases hy
      walk_at "ev"
      intro p hp
      generalize hH : upd _ p _ = H1
      obtain ⟨sm, hp1⟩ := newO hH hp
      have kd : Kd K H1 (.bl b) "bool" := .bl b
      have ty := kd.ty
      obtain ⟨k1, k2, k3, k4, k5⟩ := kd.kit
      have ka := kit_lt k4 k5
      walk_at "ev"
      exact q_dec (q _ sm)
    | int i =>
      cases hy
      walk_at "ev"
      intro p hp
      generalize hH : upd _ p _ = H1
      obtain ⟨sm, hp1⟩ := newO hH hp
      have kd : Kd K H1 (.int i) "int" := .int i
      have ty := kd.ty
      obtain ⟨k1, k2, k3, k4, k5⟩ := kd.kit
      have ka := kit_lt k4 k5
      walk_at "ev"
      exact q_dec (q _ sm)
    | str z =>
      cases hy
      walk_at "ev"
      intro p hp
      generalize hH : upd _ p _ = H1
      obtain ⟨sm, hp1⟩ := newO hH hp
      have kd : Kd K H1 (.str z) "str" := .str z
      have ty := kd.ty
      obtain ⟨k1, k2, k3, k4, k5⟩ := kd.kit
      have ka := kit_lt k4 k5
      walk_at "ev"
      exact q_dec (q _ sm)
    | lst hs ha =>
      rename_i a xs ds
      cases hy with
      | lst ht hb =>
      rename_i b ys
      have el : ys.length = xs.length := (dpall_len hb).trans (dpall_len ha).symm
      have el' : V.int (xs.length : Int) = V.int (ys.length : Int) := by rw [el]
      cases n with
      | zero => exact hf.elim
      | succ n =>
      have hf' : ds.length ≤ 4000 ∧ ∀ e ∈ ds, Fit n e := hf
      have hS := hG n rfl
      subst hS
      walk_at "ev"
      intro p hp
      generalize hH : upd _ p _ = H1
      obtain ⟨sm, hp1⟩ := newO hH hp
      have hs1 := sm.seq hs
      have ht1 := sm.seq ht
      have kd : Kd K H1 (.ref a) "list" := .lst hs1
      have ty := kd.ty
      have kd' : Kd K H1 (.ref b) "list" := .lst ht1
      have ty' := kd'.ty
      obtain ⟨k1, k2, k3, k4, k5⟩ := kd.kit
      have ka := kit_lt k4 k5
      walk_at "ev"
      refine .inl ⟨hs1, ht1, fun D hD => ?_⟩
      refine lc_pairs (xs := xs) (ys := ys) (fun i H' => Hold (Same H1 H' ∧ H' D = some (.lst ((List.replicate i true).map V.bl)))) (.mk ⟨same_new hD, upd_same⟩) ?_ ?_ ?_ ?_ ?_
      · intro i H' hP hi
        obtain ⟨sm2, hD2⟩ := hP.un
        have hi2 : i < ys.length := by omega
        exact ⟨xs, ys, _, _, sm2.seq hs1, sm2.seq ht1, List.getElem?_eq_getElem hi, List.getElem?_eq_getElem hi2⟩
      · intro i H' v H'' hP hi yl
        obtain ⟨sm2, hD2⟩ := hP.un
        obtain ⟨T, x, y, e1, e2, e3, f1, f2⟩ := yl
        exact ⟨T, x, y, e1, e2, e3, f1 _ (sm2.seq hs1), f2 _ (sm2.seq ht1)⟩
      · intro H' hP
        obtain ⟨sm2, hD2⟩ := hP.un
        exact ⟨xs, ys, sm2.seq hs1, sm2.seq ht1, .inl (Nat.le_refl _)⟩
      · intro i x y T' H' H'' hx hy hP hT e
        obtain ⟨sm2, hD2⟩ := hP.un
        obtain ⟨sm3, hT3⟩ := newO e.symm hT
        have hT4 : SqT K H'' T' [x, y] := SqT.of hT3
        obtain ⟨d, hd, hdx⟩ := dpall_get ha hx
        obtain ⟨d', hd', hdy⟩ := dpall_get hb hy
        have ed : d' = d := Option.some.inj (hd'.symm.trans hd)
        subst ed
        have sm4 : Same H H'' := (sm.trans sm2).trans sm3
        have dx := dp_same sm4 hdx
        have dy := dp_same sm4 hdy
        have ft := hf'.2 _ (List.mem_of_getElem? hd)
        have hil : i < xs.length := (List.getElem?_eq_some_iff.mp hx).1
        have hdl := dpall_len ha
        have hlen : i ≤ 4000 := by omega
        walk_at "ev"
        intro H5 sm5
        have hD5 := sm5 _ _ (sm3 _ _ hD2)
        refine ⟨_, hD5, szm (by simp; omega), .mk ⟨same_mut ((sm2.trans sm3).trans sm5) hD, ?_⟩⟩
        rw [upd_same, List.replicate_succ', List.map_append]
        rfl
      · intro H' hP
        obtain ⟨sm2, hD2⟩ := hP.un
        refine ⟨D, List.replicate xs.length true, rfl, SqL.of hD2, ?_⟩
        rw [all_true]
        exact q _ (sm.trans sm2)
    | tup hs ha =>
      rename_i a xs ds
      cases hy with
      | tup ht hb =>
      rename_i b ys
      have el : ys.length = xs.length := (dpall_len hb).trans (dpall_len ha).symm
      have el' : V.int (xs.length : Int) = V.int (ys.length : Int) := by rw [el]
      cases n with
      | zero => exact hf.elim
      | succ n =>
      have hf' : ds.length ≤ 4000 ∧ ∀ e ∈ ds, Fit n e := hf
      have hS := hG n rfl
      subst hS
      walk_at "ev"
      intro p hp
      generalize hH : upd _ p _ = H1
      obtain ⟨sm, hp1⟩ := newO hH hp
      have hs1 := same_t sm hs
      have ht1 := same_t sm ht
      have kd : Kd K H1 (.ref a) "tuple" := .tup hs1
      have ty := kd.ty
      have kd' : Kd K H1 (.ref b) "tuple" := .tup ht1
      have ty' := kd'.ty
      obtain ⟨k1, k2, k3, k4, k5⟩ := kd.kit
      have ka := kit_lt k4 k5
      walk_at "ev"
      refine .inr ⟨hs1, ht1, fun D hD => ?_⟩
      refine lc_pairs (xs := xs) (ys := ys) (fun i H' => Hold (Same H1 H' ∧ H' D = some (.lst ((List.replicate i true).map V.bl)))) (.mk ⟨same_new hD, upd_same⟩) ?_ ?_ ?_ ?_ ?_
      · intro i H' hP hi
        obtain ⟨sm2, hD2⟩ := hP.un
        have hi2 : i < ys.length := by omega
        exact ⟨xs, ys, _, _, same_t sm2 hs1, same_t sm2 ht1, List.getElem?_eq_getElem hi, List.getElem?_eq_getElem hi2⟩
      · intro i H' v H'' hP hi yl
        obtain ⟨sm2, hD2⟩ := hP.un
        obtain ⟨T, x, y, e1, e2, e3, f1, f2⟩ := yl
        exact ⟨T, x, y, e1, e2, e3, f1 _ (same_t sm2 hs1), f2 _ (same_t sm2 ht1)⟩
      · intro H' hP
        obtain ⟨sm2, hD2⟩ := hP.un
        exact ⟨xs, ys, same_t sm2 hs1, same_t sm2 ht1, .inl (Nat.le_refl _)⟩
      · intro i x y T' H' H'' hx hy hP hT e
        obtain ⟨sm2, hD2⟩ := hP.un
        obtain ⟨sm3, hT3⟩ := newO e.symm hT
        have hT4 : SqT K H'' T' [x, y] := SqT.of hT3
        obtain ⟨d, hd, hdx⟩ := dpall_get ha hx
        obtain ⟨d', hd', hdy⟩ := dpall_get hb hy
        have ed : d' = d := Option.some.inj (hd'.symm.trans hd)
        subst ed
        have sm4 : Same H H'' := (sm.trans sm2).trans sm3
        have dx := dp_same sm4 hdx
        have dy := dp_same sm4 hdy
        have ft := hf'.2 _ (List.mem_of_getElem? hd)
        have hil : i < xs.length := (List.getElem?_eq_some_iff.mp hx).1
        have hdl := dpall_len ha
        have hlen : i ≤ 4000 := by omega
        walk_at "ev"
        intro H5 sm5
        have hD5 := sm5 _ _ (sm3 _ _ hD2)
        refine ⟨_, hD5, szm (by simp; omega), .mk ⟨same_mut ((sm2.trans sm3).trans sm5) hD, ?_⟩⟩
        rw [upd_same, List.replicate_succ', List.map_append]
        rfl
      · intro H' hP
        obtain ⟨sm2, hD2⟩ := hP.un
        refine ⟨D, List.replicate xs.length true, rfl, SqL.of hD2, ?_⟩
        rw [all_true]
        exact q _ (sm.trans sm2)
theorem ok_same {f : Addr} {fd : FuncData} (D__law_same : Df K mg "_law_same" s__law_same P__law_same f fd) (T : Blt mg) : ∀ n : Nat, FnOk P w K mg base CX0 (n + 1) f fd P__law_same (spSame K n)
  | 0 => same_step (spI := fun _ _ _ _ => False) D__law_same T ⟨fun _ _ _ _ h => h.elim, fun _ _ _ _ _ _ _ _ _ _ _ _ _ h => h.elim⟩ (fun m h => by omega)
  | n + 1 => same_step D__law_same T (ok_same D__law_same T n) (fun m h => by cases h; rfl)
end
theorem srt_ext : ∀ {l m : List Int}, l.Pairwise (· < ·) → m.Pairwise (· < ·) → (∀ k, k ∈ l ↔ k ∈ m) → l = m
  | [], [], _, _, _ => rfl
  | [], y :: m, _, _, h => by
    have := (h y).mpr List.mem_cons_self
    simp at this
  | x :: l, [], _, _, h => by
    have := (h x).mp List.mem_cons_self
    simp at this
  | x :: l, y :: m, hl, hm, h => by
    obtain ⟨hx, hl'⟩ := List.pairwise_cons.mp hl
    obtain ⟨hy, hm'⟩ := List.pairwise_cons.mp hm
    have e : x = y := by
      have a1 := (h x).mp List.mem_cons_self
      have a2 := (h y).mpr List.mem_cons_self
      rcases List.mem_cons.mp a1 with e | e
      · exact e
      · rcases List.mem_cons.mp a2 with e2 | e2
        · exact e2.symm
        · have := hy x e
          have := hx y e2
          omega
    subst e
    rw [srt_ext hl' hm' fun k => ?_]
    constructor
    · intro hk
      rcases List.mem_cons.mp ((h k).mp (List.mem_cons_of_mem _ hk)) with e | e
      · have := hx k hk
        omega
      · exact e
    · intro hk
      rcases List.mem_cons.mp ((h k).mpr (List.mem_cons_of_mem _ hk)) with e | e
      · have := hy k hk
        omega
      · exact e
theorem Fac.len {n : Int} {xs : List Int} (h : Fac n xs) (hn : n ≤ 1000000000) : xs.length ≤ 30 := by
  have key : ∀ {n : Int} {xs : List Int}, Fac n xs → 2 ^ xs.length * 1 ≤ n.toNat ∧ 1 ≤ n := by
    intro n xs h
    induction h with
    | one => exact ⟨by decide, by decide⟩
    | cons h1 h2 h3 h4 h5 ih =>
      rename_i n p q ps
      obtain ⟨i1, i2⟩ := ih
      have : 2 * q ≤ p * q := Int.mul_le_mul_of_nonneg_right h1 (by omega)
      refine ⟨?_, by omega⟩
      rw [List.length_cons, Nat.pow_succ]
      omega
  obtain ⟨k1, k2⟩ := key h
  exact pow_len (num := 1) (n := n) (by simpa using k1) (by decide) hn
theorem Fac.pos {n : Int} {xs : List Int} (h : Fac n xs) : 1 ≤ n := by
  induction h with
  | one => decide
  | cons h1 h2 h3 h4 h5 ih =>
    rename_i n p q ps
    have : 1 * 1 ≤ p * q := Int.mul_le_mul (by omega) ih (by omega) (by omega)
    omega
theorem Fac.le {n : Int} {xs : List Int} (h : Fac n xs) : ∀ q ∈ xs, q ≤ n := by
  induction h with
  | one => intro q hq; simp at hq
  | cons h1 h2 h3 h4 h5 ih =>
    rename_i n p q ps
    intro x hx
    rcases List.mem_cons.mp hx with e | e
    · rw [e]
      have : p * 1 ≤ p * q := Int.mul_le_mul_of_nonneg_left h3 (by omega)
      omega
    · have := ih x e
      have : 1 * q ≤ p * q := Int.mul_le_mul_of_nonneg_right (by omega) (by omega)
      omega
theorem Fac.primes {n : Int} {xs : List Int} (h : Fac n xs) : ∀ q ∈ xs, 2 ≤ q ∧ Rough q q := by
  induction h with
  | one => intro q hq; simp at hq
  | cons h1 h2 h3 h4 h5 ih =>
    rename_i n p q ps
    intro x hx
    rcases List.mem_cons.mp hx with e | e
    · rw [e]
      exact ⟨h1, fun c c1 c2 c3 => h4 c c1 c2 (Int.dvd_trans c3 ⟨q, h2⟩)⟩
    · exact ih x e
/-! ### the sieve: mathematics -/
def pk (m j : Nat) : Bool := (List.range' 2 (m - 2)).all fun d => decide (j < d * d) || decide (j % d ≠ 0)
theorem pk_iff {m j : Nat} : pk m j = true ↔ ∀ d, 2 ≤ d → d < m → d * d ≤ j → ¬ d ∣ j := by
  unfold pk
  rw [List.all_eq_true]
  constructor
  · intro h d h1 h2 h3 h4
    have := h d (List.mem_range'_1.mpr ⟨h1, by omega⟩)
    rw [Bool.or_eq_true, decide_eq_true_iff, decide_eq_true_iff] at this
    rcases this with z | z
    · omega
    · exact z (Nat.mod_eq_zero_of_dvd h4)
  · intro h d hd
    have h1 := List.mem_range'_1.mp hd
    rw [Bool.or_eq_true, decide_eq_true_iff, decide_eq_true_iff]
    by_cases z : j < d * d
    · exact .inl z
    · exact .inr fun e => h d h1.1 (by omega) (by omega) (Nat.dvd_of_mod_eq_zero e)
theorem pk_ext {a b : Bool} (h : a = true ↔ b = true) : a = b := by
  cases a <;> cases b <;> simp at h ⊢
theorem pk_two (j : Nat) : pk 2 j = true := pk_iff.mpr fun d h1 h2 => by omega
/-- no marking at m: it was marked itself -/
theorem pk_skip {m j : Nat} (hm : 2 ≤ m) (h : pk m m = false) : pk (m + 1) j = pk m j := by
  refine pk_ext ?_
  rw [pk_iff, pk_iff]
  constructor
  · intro k d h1 h2
    exact k d h1 (by omega)
  · intro k d h1 h2 h3 h4
    by_cases e : d < m
    · exact k d h1 e h3 h4
    · have e2 : d = m := by omega
      subst e2
      have hn : ¬ pk d d = true := by rw [h]; exact Bool.false_ne_true
      apply hn
      rw [pk_iff]
      intro c c1 c2 c3 c4
      have hle : d * 1 ≤ d * d := Nat.mul_le_mul_left d (by omega)
      exact k c c1 c2 (by omega) (Nat.dvd_trans c4 h4)
/-- .. or its square is beyond -/
theorem pk_far {m j : Nat} (h : j < m * m) : pk (m + 1) j = pk m j := by
  refine pk_ext ?_
  rw [pk_iff, pk_iff]
  constructor
  · intro k d h1 h2
    exact k d h1 (by omega)
  · intro k d h1 h2 h3 h4
    by_cases e : d < m
    · exact k d h1 e h3 h4
    · have e2 : d = m := by omega
      subst e2
      omega
/-- what is marked behind t turns at m -/
def mk (m t j : Nat) : Bool := pk m j && !(decide (m * m ≤ j) && decide (j % m = 0) && decide (j < m * m + t * m))
theorem mk_zero (m j : Nat) : mk m 0 j = pk m j := by
  unfold mk
  by_cases h : m * m ≤ j
  · have : decide (j < m * m + 0 * m) = false := decide_eq_false (by omega)
    rw [this, Bool.and_false, Bool.not_false, Bool.and_true]
  · simp [h]
theorem mk_step {m t j : Nat} (hm : 0 < m) : mk m (t + 1) j = if j = m * m + t * m then false else mk m t j := by
  unfold mk
  have es : (t + 1) * m = t * m + m := by rw [Nat.add_mul, Nat.one_mul]
  split
  · rename_i e
    have h1 : j % m = 0 := by
      rw [e, ← Nat.add_mul]
      exact Nat.mul_mod_left _ _
    have h2 : m * m ≤ j := by omega
    have h3 : j < m * m + (t + 1) * m := by omega
    simp [h1, h2, h3]
  · rename_i e
    by_cases h1 : j % m = 0
    · by_cases h2 : m * m ≤ j
      · have h3 : (j < m * m + (t + 1) * m) ↔ (j < m * m + t * m) := by
          constructor
          · intro z
            apply Nat.lt_of_not_ge
            intro y
            apply e
            obtain ⟨q, hq⟩ := Nat.dvd_of_mod_eq_zero h1
            have a1 : m * (m + t) ≤ m * q := by rw [Nat.mul_add, Nat.mul_comm m t, ← hq]; omega
            have a2 : m * q < m * (m + t + 1) := by rw [Nat.mul_add, Nat.mul_add, Nat.mul_comm m t, ← hq]; omega
            have b1 := Nat.le_of_mul_le_mul_left a1 hm
            have b2 := Nat.lt_of_mul_lt_mul_left a2
            have b3 : q = m + t := by omega
            rw [hq, b3, Nat.mul_add, Nat.mul_comm m t]
          · intro z
            omega
        simp only [h3]
      · simp [h2]
    · simp [h1]
theorem mk_last {m t j : Nat} (hm : 2 ≤ m) (h : j < m * m + t * m) : mk m t j = pk (m + 1) j := by
  refine pk_ext ?_
  unfold mk
  rw [Bool.and_eq_true, pk_iff, pk_iff]
  constructor
  · rintro ⟨k, z⟩ d h1 h2 h3 h4
    by_cases e : d < m
    · exact k d h1 e h3 h4
    · have e2 : d = m := by omega
      subst e2
      have := Nat.mod_eq_zero_of_dvd h4
      simp [h, h3, this] at z
  · intro k
    refine ⟨fun d h1 h2 => k d h1 (by omega), ?_⟩
    by_cases h2 : m * m ≤ j
    · have h3 : ¬ j % m = 0 := fun e => k m hm (by omega) h2 (Nat.dvd_of_mod_eq_zero e)
      simp [h3]
    · simp [h2]
/-- the list of truths -/
def bls (n : Nat) (f : Nat → Bool) : List V := (List.range n).map fun j => V.bl (f j)
theorem bls_len (n : Nat) (f : Nat → Bool) : (bls n f).length = n := by
  unfold bls
  rw [List.length_map, List.length_range]
theorem bls_get {n j : Nat} {f : Nat → Bool} (h : j < n) : (bls n f)[j]? = some (.bl (f j)) := by
  unfold bls
  rw [List.getElem?_map, List.getElem?_range h]
  rfl
theorem bls_at {n : Nat} {f : Nat → Bool} {k : Int} (h0 : 0 ≤ k) (h : k < (n : Int)) : atI (bls n f) k = some (.bl (f k.toNat)) := at_of (j := k.toNat) (by omega) (bls_get (by omega))
theorem bls_ext {n : Nat} {f g : Nat → Bool} (h : ∀ j, j < n → f j = g j) : bls n f = bls n g := by
  unfold bls
  refine List.map_congr_left fun j hj => ?_
  rw [h j (List.mem_range.mp hj)]
theorem bls_set {n j : Nat} {f : Nat → Bool} {b : Bool} : (bls n f).set j (.bl b) = bls n fun i => if i = j then b else f i := by
  refine List.ext_getElem? fun i => ?_
  rw [List.getElem?_set]
  by_cases hi : i < n
  · rw [bls_get hi, bls_get hi, bls_len]
    by_cases e : j = i
    · subst e
      simp [hi]
    · have e2 : ¬ i = j := fun z => e z.symm
      simp [e, e2]
  · have h1 : (bls n f)[i]? = none := List.getElem?_eq_none (by rw [bls_len]; omega)
    have h2 : (bls n fun i => if i = j then b else f i)[i]? = none := List.getElem?_eq_none (by rw [bls_len]; omega)
    rw [h1, h2, bls_len]
    by_cases e : j = i
    · subst e
      simp [hi]
    · simp [e]
theorem bls_rep : ∀ n : Nat, (List.replicate n [V.bl true]).flatten = bls n fun _ => true
  | 0 => rfl
  | n + 1 => by
    have ih := bls_rep n
    rw [List.replicate_succ', List.flatten_append, ih]
    unfold bls
    rw [List.range_succ, List.map_append]
    rfl
theorem rg_pos {i j c : Int} (hc : 0 < c) (hc2 : c < 1073741824) (hi : 0 ≤ i) (hij : i < j) (hj : j < 1099511627776) : RgC i j c ((j - i - 1) / c + 1).toNat := by
  have h0 : 0 ≤ (j - i - 1) / c := Int.ediv_nonneg (by omega) (by omega)
  have h1 : (j - i - 1) / c ≤ j - i - 1 := Int.ediv_le_self _ (by omega)
  have e : Builtin.Range.rangeSize i j c = (j - i - 1) / c + 1 := by
    unfold Builtin.Range.rangeSize
    rw [if_pos hc, if_pos hij]
  refine ⟨by omega, by omega, ?_, by rw [e]; omega⟩
  unfold Builtin.Range.small
  rw [e]
  generalize (j - i - 1) / c = z at *
  simp only [Builtin.Range.rangeFitsLong, Bool.and_eq_true, Bool.or_eq_true, decide_eq_true_eq, beq_iff_eq]
  rw [if_pos hc, Bool.and_eq_true, decide_eq_true_iff, decide_eq_true_iff]
  omega
abbrev s__law_sieve : Stmt := top 20
abbrev N__law_sieve : List Str := ["_law_top", "_law_plain", "_law_one", "_law_other"]
abbrev P__law_sieve : List Str := ["_law_top"]
theorem sc__law_sieve : FnScope N__law_sieve P__law_sieve (defScope s__law_sieve) := ⟨rfl, rfl, rfl, by decide +kernel, rfl, by decide +kernel, by decide +kernel⟩
def prs (top : Nat) : List Int := ((List.range' 2 (top - 1)).filter (pk (top + 1))).map Int.ofNat
def spSieve : Sp := fun vs H Q _ => ∃ (top : Nat), vs = [.int (top : Int)] ∧ 4 ≤ top ∧ top ≤ 20000 ∧ ∀ p H', H p = none → Same H H' → H' p = some (.lst ((prs top).map V.int)) → Q (.ref p) H'
section
variable {P : Program} {w : World} {K : PySem.W.Frag} {mg : Str → Option Value} {base : Heap}
theorem ok_sieve {f : Addr} {fd : FuncData} {k : Nat} (F : Fun K "_law_sieve" "_law_sieve" s__law_sieve f fd) (T : Blt mg) : FnOk P w K mg base CX0 (k + 1) f fd P__law_sieve spSieve := by
  have nd := sc__law_sieve.nd
  refine F.ok sc__law_sieve (fun vs H Q E h => ?_) (fun cdv A outer s H vs Q E hr h => ?_)
  · obtain ⟨n, rfl, _⟩ := h
    rfl
  · obtain ⟨top, rfl, ht1, ht2, q⟩ := h
    refine ⟨_, (pss_cons (ps_set (i := 1) nd rfl (Or.inr rfl) (pe_op op_rep (pe_lst (pa_cons (pe_bl) pa_nil)) (pe_op op_add (pv 0) (pe_int))))
      (pss_cons (ps_for PassesOwn.never rfl (pi_range2 (by rfl) T.b_range (pa_cons (pe_int) (pa_cons (pe_op op_add (pv 0) (pe_int)) pa_nil))) (pg_name (i := 2) nd rfl (Or.inl rfl))
      (pss_one (ps_if (PW.pt (pw_and (pt_val (pe_ix (r := rIxL K) ix_list (pv 1) (pv 2) (fun _ _ => rfl))) (pw_and1 (pt_cmpR op_le (pe_op op_mul (pv 2) (pv 2)) (pv 0) (nomark _))))) (pss_one (ps_for PassesOwn.never rfl (pi_range3 (by rfl) T.b_range (pa_cons (pe_op op_mul (pv 2) (pv 2)) (pa_cons (pe_op op_add (pv 0) (pe_int)) (pa_cons (pv 2) pa_nil)))) (pg_name (i := 3) nd rfl (Or.inl rfl))
      (pss_one (ps_asg (pe_bl) (pg_sub (pv 1) (pv 3) set_list))))) pss_nil)))
      (pss_one (ps_ret (pe_lc (own := [("_law_one", 2)]) (g := gName 2) (by rfl) nd (pi_range2 (by rfl) T.b_range (pa_cons (pe_int) (pa_cons (pe_op op_add (pv 0) (pe_int)) pa_nil))) (blkOk_by (own := [("_law_one", 2)]) (N := N__law_sieve) (sc := defScope s__law_sieve) (by decide +kernel)) (fun _ _ _ _ _ => (pg_name (i := 2) nd rfl (Or.inl rfl))) (fun _ _ _ _ _ => pts_one (pt_val (pe_ix (r := rIxL K) ix_list (pv 1) (pv 2) (fun _ _ => rfl)))) (fun _ _ _ _ _ => (pv 2))))))), ?_⟩
    walk_at "ev"
    intro p0 hp0
    generalize hG0 : upd _ p0 _ = H0
    obtain ⟨sm0, hp0'⟩ := newO hG0 hp0
    walk_at "ev"
    intro p hp
    generalize hG : upd _ p _ = H1
    obtain ⟨sm1, hp1⟩ := newO hG hp
    have hpf : H p = none := sm0.free hp
    have etop : ((top : Int) + 1).toNat = top + 1 := by omega
    rw [etop, bls_rep] at hp1
    walk_at "ev"
    refine for_range (lo := 2) (n := ((top : Int) + 1 - 2).toNat) (fun i σ H' => Hold (∃ s2 s3, σ = [some (.int (top : Int)), some (.ref p), s2, s3] ∧ Same H H' ∧ H' p = some (.lst (bls (top + 1) (pk (2 + i)))))) (.mk ⟨none, none, rfl, sm0.trans sm1, ?_⟩) ?_ ?_
    · rw [hp1]
      rw [bls_ext (f := fun _ => true) (g := pk (2 + 0)) (fun j _ => (pk_two j).symm)]
    · intro i σ H' hi hP
      obtain ⟨s2, s3, rfl, sm, hp'⟩ := hP.un
      have hi' : i < top - 1 := by omega
      have hL : SqL K H' p (bls (top + 1) (pk (2 + i))) := SqL.of hp'
      have hat : atI (bls (top + 1) (pk (2 + i))) (2 + (i : Int)) = some (.bl (pk (2 + i) (2 + i))) := at_of (j := 2 + i) (by omega) (bls_get (by omega))
      have hcm : CMul (2 + (i : Int)) (2 + i) := .inl ⟨by omega, by omega⟩
      walk_at "ev"
      refine ite2 (fun e => ?_) (fun e => ?_)
      · walk_at "ev"
        refine ite2 (fun e2 => ?_) (fun e2 => ?_)
        · have e3 : (2 + (i : Int)) * (2 + i) ≤ top := of_decide_eq_true e2
          have hrg := rg_pos (i := (2 + (i : Int)) * (2 + i)) (j := (top : Int) + 1) (c := 2 + (i : Int)) (by omega) (by omega) (Int.mul_nonneg (by omega) (by omega)) (by omega) (by omega)
          have ec : (((2 + i : Nat) : Int)) = 2 + (i : Int) := by omega
          have em : (((2 + i) * (2 + i) : Nat) : Int) = (2 + (i : Int)) * (2 + i) := by rw [Int.natCast_mul, ec]
          have hn : ∀ t : Nat, t < (((top : Int) + 1 - (2 + (i : Int)) * (2 + i) - 1) / (2 + i) + 1).toNat → (2 + i) * (2 + i) + t * (2 + i) < top + 1 := by
            intro t ht
            have h1 : (t : Int) ≤ ((top : Int) + 1 - (2 + (i : Int)) * (2 + i) - 1) / (2 + i) := by omega
            have h2 := Int.mul_le_mul_of_nonneg_right h1 (show (0 : Int) ≤ 2 + (i : Int) by omega)
            have h3 := Int.ediv_mul_le ((top : Int) + 1 - (2 + (i : Int)) * (2 + i) - 1) (show (2 + (i : Int)) ≠ 0 by omega)
            have et : ((t * (2 + i) : Nat) : Int) = (t : Int) * (2 + i) := by rw [Int.natCast_mul, ec]
            omega
          have hN : top < (2 + i) * (2 + i) + (((top : Int) + 1 - (2 + (i : Int)) * (2 + i) - 1) / (2 + i) + 1).toNat * (2 + i) := by
            have h3 := Int.lt_ediv_add_one_mul_self ((top : Int) + 1 - (2 + (i : Int)) * (2 + i) - 1) (show (0 : Int) < 2 + (i : Int) by omega)
            have h0 : 0 ≤ ((top : Int) + 1 - (2 + (i : Int)) * (2 + i) - 1) / (2 + i) := Int.ediv_nonneg (by omega) (by omega)
            have et : (((((top : Int) + 1 - (2 + (i : Int)) * (2 + i) - 1) / (2 + i) + 1).toNat * (2 + i) : Nat) : Int) = (((top : Int) + 1 - (2 + (i : Int)) * (2 + i) - 1) / (2 + i) + 1) * (2 + i) := by
              rw [Int.natCast_mul, ec, Int.toNat_of_nonneg (by omega)]
            omega
          generalize hnn : (((top : Int) + 1 - (2 + (i : Int)) * (2 + i) - 1) / (2 + i) + 1).toNat = nn at *
          walk_at "ev"
          refine for_rangeC (lo := (2 + (i : Int)) * (2 + i)) (c := 2 + (i : Int)) (n := nn) (fun t σ H' => Hold (∃ s3, σ = [some (.int (top : Int)), some (.ref p), some (.int (2 + (i : Int))), s3] ∧ Same H H' ∧ H' p = some (.lst (bls (top + 1) (mk (2 + i) t))))) (.mk ⟨s3, rfl, sm, ?_⟩) ?_ ?_
          · rw [hp', bls_ext (fun j _ => (mk_zero (2 + i) j).symm)]
          · intro t σ H2 ht hP2
            obtain ⟨z3, rfl, sm2, hp2⟩ := hP2.un
            have hlt := hn t ht
            have eo : ((2 + (i : Int)) * (2 + i) + (t : Int) * (2 + i)) = (((2 + i) * (2 + i) + t * (2 + i) : Nat) : Int) := by
              rw [Int.natCast_add, em, Int.natCast_mul, ec]
            have hix : ixN (bls (top + 1) (mk (2 + i) t)).length ((2 + (i : Int)) * (2 + i) + (t : Int) * (2 + i)) = some ((2 + i) * (2 + i) + t * (2 + i)) := by
              rw [bls_len, eo]
              unfold ixN
              rw [if_pos (by omega), if_pos (by omega)]
              rfl
            walk_at "ev"
            refine .mk ⟨_, rfl, same_mut sm2 hpf, ?_⟩
            rw [upd_same, bls_set]
            rw [bls_ext (fun j _ => (mk_step (m := 2 + i) (t := t) (j := j) (by omega)).symm)]
          · intro σ H2 hP2
            obtain ⟨z3, rfl, sm2, hp2⟩ := hP2.un
            refine .mk ⟨_, _, rfl, sm2, ?_⟩
            rw [hp2, bls_ext (fun j hj => mk_last (m := 2 + i) (t := nn) (j := j) (by omega) (by omega))]
            rfl
        · have e3 : ¬ (2 + (i : Int)) * (2 + i) ≤ top := fun z => e2 (decide_eq_true z)
          have ec : (((2 + i : Nat) : Int)) = 2 + (i : Int) := by omega
          have em : (((2 + i) * (2 + i) : Nat) : Int) = (2 + (i : Int)) * (2 + i) := by rw [Int.natCast_mul, ec]
          refine .mk ⟨_, _, rfl, sm, ?_⟩
          rw [hp', bls_ext (fun j hj => (pk_far (m := 2 + i) (j := j) (by omega)).symm)]
          rfl
      · have e1 : pk (2 + i) (2 + i) = false := by
          cases z : pk (2 + i) (2 + i) with
          | true => exact absurd z e
          | false => rfl
        walk_at "ev"
        refine .mk ⟨_, _, rfl, sm, ?_⟩
        rw [hp', bls_ext (fun j hj => (pk_skip (m := 2 + i) (j := j) (by omega) e1).symm)]
        rfl
    · intro σ H' hP
      obtain ⟨s2, s3, rfl, sm, hp'⟩ := hP.un
      have etn : ((top : Int) + 1 - 2).toNat = top - 1 := by omega
      have et2 : 2 + ((top : Int) + 1 - 2).toNat = top + 1 := by omega
      rw [et2] at hp'
      walk_at "ev"
      intro D hD
      have hDp : p ≠ D := ne_of_none hp' hD
      refine lc_range (lo := 2) (n := ((top : Int) + 1 - 2).toNat) (fun i H' => Hold (Same H H' ∧ H' p = some (.lst (bls (top + 1) (pk (top + 1)))) ∧ H' D = some (.lst ((((List.range' 2 i).filter (pk (top + 1))).map Int.ofNat).map V.int)))) (.mk ⟨same_upd sm hD, by rw [upd_ne hDp]; exact hp', upd_same⟩) ?_ ?_
      · intro i H2 hi hP2
        obtain ⟨sm2, hp2, hD2⟩ := hP2.un
        have hL : SqL K H2 p (bls (top + 1) (pk (top + 1))) := SqL.of hp2
        have hat : atI (bls (top + 1) (pk (top + 1))) (2 + (i : Int)) = some (.bl (pk (top + 1) (2 + i))) := at_of (j := 2 + i) (by omega) (bls_get (by omega))
        have hfl : ((((List.range' 2 i).filter (pk (top + 1))).map Int.ofNat).map V.int).length < sizeLine := by
          rw [List.length_map, List.length_map]
          refine szm (Nat.le_trans (List.length_filter_le _ _) ?_)
          rw [List.length_range']
          omega
        walk_at "ev"
        refine ite2 (fun e => ?_) (fun e => ?_)
        · walk_at "ev"
          refine .mk ⟨same_mut sm2 (sm.free hD), by rw [upd_ne hDp]; exact hp2, ?_⟩
          rw [upd_same, List.range'_concat, List.filter_append, List.map_append, List.map_append]
          simp [e]
        · have e1 : pk (top + 1) (2 + i) = false := by
            cases z : pk (top + 1) (2 + i) with
            | true => exact absurd z e
            | false => rfl
          refine .mk ⟨sm2, hp2, ?_⟩
          rw [hD2, List.range'_concat, List.filter_append, List.map_append, List.map_append]
          simp [e1]
      · intro H2 hP2
        obtain ⟨sm2, hp2, hD2⟩ := hP2.un
        rw [etn] at hD2
        exact q D H2 (sm.free hD) sm2 hD2
end
/-! ### the law's own dividing -/
theorem mem_prs {top : Nat} {x : Int} : x ∈ prs top ↔ ∃ j : Nat, x = (j : Int) ∧ 2 ≤ j ∧ j ≤ top ∧ pk (top + 1) j = true := by
  unfold prs
  rw [List.mem_map]
  constructor
  · rintro ⟨j, hj, e⟩
    have h1 := List.mem_filter.mp hj
    have h2 := List.mem_range'_1.mp h1.1
    exact ⟨j, e.symm, h2.1, by omega, h1.2⟩
  · rintro ⟨j, e, h1, h2, h3⟩
    exact ⟨j, List.mem_filter.mpr ⟨List.mem_range'_1.mpr ⟨h1, by omega⟩, h3⟩, e.symm⟩
theorem prs_sorted (top : Nat) : (prs top).Pairwise (· < ·) := by
  unfold prs
  rw [List.pairwise_map]
  refine List.Pairwise.imp (R := fun a b : Nat => a < b) (fun {a b} h => ?_) ((List.pairwise_lt_range' (s := 2) (n := top - 1) (step := 1)).sublist List.filter_sublist)
  show (a : Int) < (b : Int)
  omega
theorem prs_len (top : Nat) : (prs top).length ≤ top := by
  unfold prs
  rw [List.length_map]
  refine Nat.le_trans (List.length_filter_le _ _) ?_
  rw [List.length_range']
  omega
theorem prs_div {top : Nat} : ∀ d : Nat, 2 ≤ d → d ≤ top → ∃ x : Nat, (x : Int) ∈ prs top ∧ x ≤ d ∧ x ∣ d := by
  intro d
  induction d using Nat.strongRecOn with
  | ind d ih =>
    intro h1 h2
    by_cases h : pk (top + 1) d = true
    · exact ⟨d, mem_prs.mpr ⟨d, rfl, h1, h2, h⟩, Nat.le_refl _, Nat.dvd_refl _⟩
    · have : ∃ c, 2 ≤ c ∧ c * c ≤ d ∧ c ∣ d := by
        apply Classical.byContradiction
        intro z
        apply h
        rw [pk_iff]
        intro c c1 c2 c3 c4
        exact z ⟨c, c1, c3, c4⟩
      obtain ⟨c, c1, c2, c3⟩ := this
      have c4 : 2 * c ≤ c * c := Nat.mul_le_mul_right c c1
      obtain ⟨x, x1, x2, x3⟩ := ih c (by omega) c1 (by omega)
      exact ⟨x, x1, by omega, Nat.dvd_trans x3 c3⟩
theorem rough_of {top : Nat} {m p : Int} {i : Nat} (h : ∀ x ∈ (prs top).take i, ¬ x ∣ m) (hp : (prs top)[i]? = some p) : Rough m p := by
  intro d h1 h2 h3
  have hm : p ∈ prs top := List.mem_of_getElem? hp
  obtain ⟨j, ej, j1, j2, j3⟩ := mem_prs.mp hm
  obtain ⟨x, x1, x2, x3⟩ := prs_div d.toNat (by omega) (by omega : d.toNat ≤ top)
  have x4 : (x : Int) ∣ d := by
    have := Int.natCast_dvd_natCast.mpr x3
    rwa [Int.toNat_of_nonneg (by omega)] at this
  refine h x ?_ (Int.dvd_trans x4 h3)
  obtain ⟨l, hl⟩ := List.getElem?_of_mem x1
  obtain ⟨l1, l2⟩ := List.getElem?_eq_some_iff.mp hl
  obtain ⟨i1, i2⟩ := List.getElem?_eq_some_iff.mp hp
  have hli : l < i := by
    apply Nat.lt_of_not_ge
    intro z
    rcases Nat.lt_or_eq_of_le z with y | y
    · have := (List.pairwise_iff_getElem.mp (prs_sorted top)) i l i1 l1 y
      omega
    · subst y
      omega
  refine List.mem_iff_getElem?.mpr ⟨l, ?_⟩
  rw [List.getElem?_take_of_lt hli]
  exact hl
theorem rough_end {top : Nat} {m : Int} (h : ∀ x ∈ prs top, ¬ x ∣ m) : Rough m (top + 1) := by
  intro d h1 h2 h3
  obtain ⟨x, x1, x2, x3⟩ := prs_div d.toNat (by omega) (by omega : d.toNat ≤ top)
  have x4 : (x : Int) ∣ d := by
    have := Int.natCast_dvd_natCast.mpr x3
    rwa [Int.toNat_of_nonneg (by omega)] at this
  exact h x x1 (Int.dvd_trans x4 h3)
/-! ### powers by rests -/
theorem emod_pow (a m : Int) : ∀ k : Nat, (a % m) ^ k % m = a ^ k % m
  | 0 => by rw [Int.pow_zero, Int.pow_zero]
  | k + 1 => by rw [Int.pow_succ, Int.pow_succ, Int.mul_emod, emod_pow a m k, Int.emod_emod_of_dvd _ (Int.dvd_refl m), ← Int.mul_emod]
theorem mul_pow_mod (t b m : Int) (k : Nat) : t * (b % m) ^ k % m = t * b ^ k % m := by
  rw [Int.mul_emod, emod_pow, ← Int.mul_emod]
theorem mod_mul_mod (t x m : Int) : t % m * x % m = t * x % m := by
  rw [Int.mul_emod, Int.emod_emod_of_dvd _ (Int.dvd_refl m), ← Int.mul_emod]
theorem pow_sq (b : Int) : ∀ k : Nat, (b * b) ^ k = b ^ (2 * k)
  | 0 => by rw [Nat.mul_zero, Int.pow_zero, Int.pow_zero]
  | k + 1 => by
    rw [Int.pow_succ, pow_sq b k, show 2 * (k + 1) = 2 * k + 1 + 1 by omega, Int.pow_succ, Int.pow_succ, Int.mul_assoc]
theorem step_odd {t b m e : Int} (h : e % 2 = 1) (he : 0 ≤ e) : t * b % m * (b * b % m) ^ (e / 2).toNat % m = t * b ^ e.toNat % m := by
  rw [mul_pow_mod, mod_mul_mod, pow_sq]
  have : e.toNat = 2 * (e / 2).toNat + 1 := by omega
  rw [this, Int.pow_succ, Int.mul_comm (b ^ _) b, ← Int.mul_assoc]
theorem step_even {t b m e : Int} (h : ¬ e % 2 = 1) (he : 0 ≤ e) : t * (b * b % m) ^ (e / 2).toNat % m = t * b ^ e.toNat % m := by
  rw [mul_pow_mod, pow_sq]
  have : e.toNat = 2 * (e / 2).toNat := by omega
  rw [← this]
abbrev s_power_rest : Stmt := top 10
abbrev N_power_rest : List Str := ["number", "power", "by", "told"]
abbrev P_power_rest : List Str := ["number", "power", "by"]
theorem sc_power_rest : FnScope N_power_rest P_power_rest (defScope s_power_rest) := ⟨rfl, rfl, rfl, by decide +kernel, rfl, by decide +kernel, by decide +kernel⟩
def spPow : Sp := fun vs H Q _ => ∃ (b e m : Int), vs = [.int b, .int e, .int m] ∧ 0 ≤ e ∧ 1 ≤ m ∧ m ≤ 1000000 ∧ Q (.int (b ^ e.toNat % m)) H
section
variable {P : Program} {w : World} {K : PySem.W.Frag} {mg : Str → Option Value} {base : Heap}
theorem ok_power {f : Addr} {fd : FuncData} {k : Nat} (F : Fun K "power_rest" "power_rest" s_power_rest f fd) : FnOk P w K mg base CX0 (k + 1) f fd P_power_rest spPow := by
  have nd := sc_power_rest.nd
  refine F.ok sc_power_rest (fun vs H Q E h => ?_) (fun cdv A outer s H vs Q E hr h => ?_)
  · obtain ⟨b, e, m, rfl, _⟩ := h
    rfl
  · obtain ⟨b, e, m, rfl, he, hm1, hm2, q⟩ := h
    refine ⟨_, (pss_cons (ps_set (i := 3) nd rfl (Or.inl rfl) (pe_op op_mod (pe_int) (pv 2)))
      (pss_cons (ps_set (i := 0) nd rfl (Or.inl rfl) (pe_op op_mod (pv 0) (pv 2)))
      (pss_cons (ps_while PassesOwn.never (pt_cmpR op_gt (pv 1) (pe_int) (nomark _))
      (pss_cons (ps_if (pt_cmpR op_eq (pe_op op_mod (pv 1) (pe_int)) (pe_int) (nomark _)) (pss_one (ps_set (i := 3) nd rfl (Or.inl rfl) (pe_op op_mod (pe_op op_mul (pv 3) (pv 0)) (pv 2)))) pss_nil)
      (pss_cons (ps_set (i := 0) nd rfl (Or.inl rfl) (pe_op op_mod (pe_op op_mul (pv 0) (pv 0)) (pv 2)))
      (pss_one (ps_aug (i := 1) nd rfl (Or.inl rfl) (pe_int) iop_fdivW)))))
      (pss_one (ps_ret (pv 3)))))), ?_⟩
    walk_at "ev"
    have r0 : ∀ x : Int, 0 ≤ x % m ∧ x % m < m := fun x => ⟨Int.emod_nonneg _ (by omega), Int.emod_lt_of_pos _ (by omega)⟩
    refine ⟨fun z σ H' => H' = H ∧ ∃ (x p t : Int), σ = [some (.int x), some (.int p), some (.int m), some (.int t)] ∧ z = p.toNat ∧ 0 ≤ p ∧ 0 ≤ t ∧ t < m ∧ 0 ≤ x ∧ x < m ∧ t * x ^ p.toNat % m = b ^ e.toNat % m, ⟨_, rfl, b % m, e, 1 % m, rfl, rfl, he, (r0 _).1, (r0 _).2, (r0 _).1, (r0 _).2, ?_⟩, ?_⟩
    · rw [mod_mul_mod, mul_pow_mod, Int.one_mul]
    · rintro z σ H' ⟨rfl, x, p, t, rfl, rfl, p0, t0, t1, x0, x1, inv⟩
      have cm1 : CMul t x := .inl ⟨by omega, by omega⟩
      have cm2 : CMul x x := .inl ⟨by omega, by omega⟩
      walk_at "ev"
      refine ite2 (fun c => ?_) (fun c => ?_)
      · have c1 : 0 < p := of_decide_eq_true c
        refine ⟨_, holdN, ?_⟩
        walk_at "ev"
        refine ite2 (fun d => ?_) (fun d => ?_)
        · have d1 : p % 2 = 1 := V.int.inj (of_decide_eq_true d)
          walk_at "ev"
          exact .mk ⟨(p / 2).toNat, by omega, rfl, x * x % m, p / 2, t * x % m, rfl, rfl, by omega, (r0 _).1, (r0 _).2, (r0 _).1, (r0 _).2, by rw [step_odd d1 p0]; exact inv⟩
        · have d1 : ¬ p % 2 = 1 := fun z => d (decide_eq_true (congrArg V.int z))
          walk_at "ev"
          exact .mk ⟨(p / 2).toNat, by omega, rfl, x * x % m, p / 2, t, rfl, rfl, by omega, t0, t1, (r0 _).1, (r0 _).2, by rw [step_even d1 p0]; exact inv⟩
      · have c1 : p = 0 := by
          have : ¬ 0 < p := fun z => c (decide_eq_true z)
          omega
        subst c1
        walk_at "ev"
        have et : t = b ^ e.toNat % m := by
          rw [← inv]
          show t = t * x ^ (0 : Nat) % m
          rw [Int.pow_zero, Int.mul_one, Int.emod_eq_of_lt t0 t1]
        rw [et]
        exact q
end
abbrev s_generator : Stmt := top 11
abbrev N_generator : List Str := ["prime", "early", "number", "factor", "power"]
abbrev P_generator : List Str := ["prime"]
theorem sc_generator : FnScope N_generator P_generator (defScope s_generator) := ⟨rfl, rfl, rfl, by decide +kernel, rfl, by decide +kernel, by decide +kernel⟩
/-- the exponents at which powers may come round too early -/
def erl (p : Int) (fs : List Int) : List Int := fs.map fun f => (p - 1) / f
def GenOk (p g : Int) (es : List Int) : Prop := ∀ e ∈ es, ¬ g ^ e.toNat % p = 1
def LeastGen (p g : Int) (es : List Int) : Prop := 1 ≤ g ∧ g < p ∧ GenOk p g es ∧ ∀ x, 1 ≤ x → x < g → ¬ GenOk p x es
def spGen : Sp := fun vs H Q _ => ∃ (p g0 : Int) (fs out : List Int), vs = [.int p] ∧ 2 ≤ p ∧ p ≤ 1000000 ∧ Fac (p - 1) fs ∧ out.Pairwise (· < ·) ∧ (∀ k, k ∈ out ↔ k ∈ fs) ∧ 1 ≤ g0 ∧ g0 < p ∧ GenOk p g0 (erl p out) ∧ ∀ g H', Same H H' → LeastGen p g (erl p out) → Q (.int g) H'
section
variable {P : Program} {w : World} {K : PySem.W.Frag} {mg : Str → Option Value} {base : Heap}
theorem ok_generator {f f1 f2 : Addr} {fd d1 d2 : FuncData} {k : Nat} (F : Fun K "generator" "generator" s_generator f fd) (T : Blt mg) (D_factors : Df K mg "factors" s_factors P_factors f1 d1) (D_power_rest : Df K mg "power_rest" s_power_rest P_power_rest f2 d2) : FnOk P w K mg base CX0 (k + 2) f fd P_generator spGen := by
  have G_factors : FnOk P w K mg base CX0 (k + 1) f1 d1 P_factors spFactors := ok_factors D_factors.F
  have G_power_rest : FnOk P w K mg base CX0 (k + 1) f2 d2 P_power_rest spPow := ok_power D_power_rest.F
  have nd := sc_generator.nd
  refine F.ok sc_generator (fun vs H Q E h => ?_) (fun cdv A outer s H vs Q E hr h => ?_)
  · obtain ⟨p, g0, fs, out, rfl, _⟩ := h
    rfl
  · obtain ⟨p, g0, fs, out, rfl, p2, p6, hfac, hso, hmo, g1, gp, hg0, q⟩ := h
    refine ⟨_, (pss_cons (ps_setLc (i := 1) (own := [("factor", 3)]) (g := gName 3) (by rfl) nd rfl rfl (sw_true rfl rfl rfl (by decide +kernel)) (pi_list (pe_sortSet (by rfl) T.b_sorted (by rfl) T.b_set (pe_call G_factors (hr.mono (by omega)) (by rfl) D_factors.g D_factors.F.kp D_factors.b .nil pass0 (pa_cons (pe_op op_sub (pv 0) (pe_int)) pa_nil)))) (blkOk_by (own := [("factor", 3)]) (N := N_generator) (sc := defScope s_generator) (by decide +kernel)) (fun _ _ _ _ _ => (pg_name (i := 3) nd rfl (Or.inl rfl))) (fun _ _ _ _ _ => pts_nil) (fun _ _ _ _ _ => (pe_op op_fdiv (pe_op op_sub (pv 0) (pe_int)) (pv 3))))
      (pss_cons (ps_set (i := 2) nd rfl (Or.inr rfl) (pe_int))
      (pss_cons (ps_while PassesOwn.never (pt_val (pe_callB (r := rAny K) (cr_any rfl) (by rfl) T.b_any (by decide +kernel) (pa_cons (pe_lc (own := [("power", 4)]) (g := gName 4) (by rfl) nd (pi_list (pv 1)) (blkOk_by (own := [("power", 4)]) (N := N_generator) (sc := defScope s_generator) (by decide +kernel)) (fun _ _ _ _ _ => (pg_name (i := 4) nd rfl (Or.inl rfl))) (fun _ _ _ _ _ => pts_nil) (fun _ _ _ _ _ => (pe_cmpR op_eq (pe_call G_power_rest (hr.mono (by omega)) (by rfl) D_power_rest.g D_power_rest.F.kp D_power_rest.b .nil pass0 (pa_cons (pv 2) (pa_cons (pv 4) (pa_cons (pv 0) pa_nil)))) (pe_int) (nomark _)))) pa_nil)))
      (pss_one (ps_aug (i := 2) nd rfl (Or.inr rfl) (pe_int) ip_add)))
      (pss_one (ps_ret (pv 2)))))), ?_⟩
    walk_at "ev"
    intro xs l H1 hf1 hl sm1 hq1
    have ex : xs = fs := hf1.uniq hfac
    subst ex
    have hxl := hfac.len (by omega)
    have hL1 : SqL K H1 l (xs.map V.int) := SqL.of hq1
    refine ⟨l, xs, rfl, hL1, by omega, ?_⟩
    intro out2 l2 hl2 hs2 hm2 ho2
    have eo : out2 = out := srt_ext hs2 hso fun k => (hm2 k).trans (hmo k).symm
    subst eo
    generalize hG2 : upd _ l2 _ = H2
    obtain ⟨sm2, hq2⟩ := newO hG2 hl2
    have hL2 : SqL K H2 l2 (out2.map V.int) := SqL.of hq2
    refine ⟨l2, rfl, ⟨_, hL2⟩, fun D hD => ?_⟩
    refine lc_list (K := K) (a := l2) (xs := out2.map V.int) (fun i H' => Hold (Same H2 H' ∧ H' D = some (.lst ((erl p (out2.take i)).map V.int)))) (.mk ⟨same_new hD, upd_same⟩) ?_ ?_ ?_
    · intro i H3 hi hP
      obtain ⟨sm3, hD3⟩ := hP.un
      exact sm3.seq hL2
    · intro i v H3 hv hP
      obtain ⟨sm3, hD3⟩ := hP.un
      rw [List.getElem?_map] at hv
      obtain ⟨x, hx, ev⟩ := Option.map_eq_some_iff.mp hv
      subst ev
      have hxm := (hmo x).mp (List.mem_of_getElem? hx)
      obtain ⟨x2, _⟩ := hfac.primes x hxm
      have hx6 : x ≤ p - 1 := hfac.le x hxm
      have hil : i < out2.length := (List.getElem?_eq_some_iff.mp hx).1
      have hsz : ((erl p (out2.take i)).map V.int).length < sizeLine := by
        unfold erl
        rw [List.length_map, List.length_map, List.length_take]
        exact szm (by omega)
      walk_at "ev"
      refine .mk ⟨same_mut sm3 hD, ?_⟩
      unfold erl
      rw [upd_same, List.take_add_one, hx, List.map_append, List.map_append]
      rfl
    · intro H3 hP
      obtain ⟨sm3, hD3⟩ := hP.un
      rw [List.length_map, List.take_length] at hD3
      have sm03 := sm1.trans (sm2.trans sm3)
      have hlE : (erl p out2).length ≤ 30 := by
        unfold erl
        rw [List.length_map]
        omega
      have he0 : ∀ e ∈ erl p out2, 0 ≤ e := by
        intro e he
        obtain ⟨x, hx, ee⟩ := List.mem_map.mp he
        obtain ⟨x2, _⟩ := hfac.primes x ((hmo x).mp hx)
        rw [← ee]
        exact Int.ediv_nonneg (by omega) (by omega)
      generalize erl p out2 = es at *
      clear hG2 hP
      have hD1 : H D = none := (sm1.trans sm2).free hD
      walk_at "ev"
      refine ⟨fun z σ H' => ∃ (x : Int) (s3 s4 : Option V), σ = [some (.int p), some (.ref D), some (.int x), s3, s4] ∧ z = (g0 - x).toNat ∧ 1 ≤ x ∧ x ≤ g0 ∧ (∀ y, 1 ≤ y → y < x → ¬ GenOk p y es) ∧ Same H3 H', ⟨_, 1, _, _, rfl, rfl, by omega, by omega, fun y a b => by omega, Same.refl _⟩, ?_⟩
      rintro z σ H4 ⟨x, s3, s4, rfl, rfl, x1, x2, hless, sm4⟩
      have hL4 : SqL K H4 D (es.map V.int) := SqL.of (sm4 _ _ hD3)
      have hL4' : ∃ xs, SqL K H4 D xs := ⟨_, hL4⟩
      walk_at "ev"
      intro D5 hD5
      refine lc_list (K := K) (a := D) (xs := es.map V.int) (fun i H' => Hold (Same H4 H' ∧ H' D5 = some (.lst (((es.take i).map fun e => decide (x ^ e.toNat % p = 1)).map V.bl)))) (.mk ⟨same_new hD5, upd_same⟩) ?_ ?_ ?_
      · intro i H5 hi hP
        obtain ⟨sm5, hq5⟩ := hP.un
        exact sm5.seq hL4
      · intro i v H5 hv hP
        obtain ⟨sm5, hq5⟩ := hP.un
        rw [List.getElem?_map] at hv
        obtain ⟨e, he, ev⟩ := Option.map_eq_some_iff.mp hv
        subst ev
        have e0 := he0 e (List.mem_of_getElem? he)
        have hil : i < es.length := (List.getElem?_eq_some_iff.mp he).1
        have hsz : (((es.take i).map fun e => decide (x ^ e.toNat % p = 1)).map V.bl).length < sizeLine := by
          rw [List.length_map, List.length_map, List.length_take]
          exact szm (by omega)
        walk_at "ev"
        refine .mk ⟨same_mut sm5 hD5, ?_⟩
        have ed : decide (V.int (x ^ e.toNat % p) = V.int 1) = decide (x ^ e.toNat % p = 1) := by
          by_cases c : x ^ e.toNat % p = 1
          · rw [decide_eq_true c, decide_eq_true (congrArg V.int c)]
          · rw [decide_eq_false c, decide_eq_false fun z => c (V.int.inj z)]
        rw [upd_same, List.take_add_one, he, List.map_append, List.map_append, ed]
        rfl
      · intro H5 hP
        obtain ⟨sm5, hq5⟩ := hP.un
        rw [List.length_map, List.take_length] at hq5
        refine ⟨D5, _, rfl, SqL.of hq5, _, rfl, ?_⟩
        refine ite2 (fun c => ?_) (fun c => ?_)
        · have bad : ¬ GenOk p x es := by
            obtain ⟨b, hb, eb⟩ := List.any_eq_true.mp c
            obtain ⟨e, he, ee⟩ := List.mem_map.mp hb
            intro ok
            refine ok e he ?_
            rw [← ee] at eb
            exact of_decide_eq_true eb
          have xne : x ≠ g0 := fun z => bad (z ▸ hg0)
          refine ⟨_, holdN, ?_⟩
          walk_at "ev"
          refine .mk ⟨(g0 - (x + 1)).toNat, by omega, x + 1, _, _, rfl, rfl, by omega, by omega, fun y a b => ?_, sm4.trans sm5⟩
          by_cases yx : y = x
          · rw [yx]; exact bad
          · exact hless y a (by omega)
        · have good : GenOk p x es := by
            intro e he z
            apply c
            rw [List.any_eq_true]
            exact ⟨true, List.mem_map.mpr ⟨e, he, decide_eq_true z⟩, rfl⟩
          walk_at "ev"
          exact q _ _ (sm03.trans (sm4.trans sm5)) ⟨x1, by omega, good, hless⟩
end
theorem dv_prime {k m p : Int} (hk : 1 ≤ k) (hp : 2 ≤ p) (r : Rough p p) (h : k ∣ m * p) : k ∣ m ∨ ∃ e, k = e * p := by
  by_cases hpk : p ∣ k
  · obtain ⟨e, he⟩ := hpk
    exact .inr ⟨e, by rw [he, Int.mul_comm]⟩
  · left
    have hg : Nat.gcd k.natAbs p.natAbs = 1 := by
      have d1 := Nat.gcd_dvd_left k.natAbs p.natAbs
      have d2 := Nat.gcd_dvd_right k.natAbs p.natAbs
      generalize Nat.gcd k.natAbs p.natAbs = g at *
      have gp : (g : Int) ∣ p := by
        rw [← Int.natAbs_dvd_natAbs, Int.natAbs_natCast]
        exact d2
      have gk : (g : Int) ∣ k := by
        rw [← Int.natAbs_dvd_natAbs, Int.natAbs_natCast]
        exact d1
      have gle : (g : Int) ≤ p := Int.le_of_dvd (by omega) gp
      have g0 : g ≠ 0 := fun z => by
        rw [z] at gp
        have := Int.zero_dvd.mp gp
        omega
      by_cases g1 : g = 1
      · exact g1
      · exfalso
        by_cases gpe : (g : Int) = p
        · rw [gpe] at gk
          exact hpk gk
        · exact r g (by omega) (by omega) gp
    have h1 : k.natAbs ∣ m.natAbs * p.natAbs := by
      rw [← Int.natAbs_mul]
      exact Int.natAbs_dvd_natAbs.mpr h
    have h2 := Nat.Coprime.dvd_of_dvd_mul_right (show Nat.Coprime k.natAbs p.natAbs from hg) h1
    exact Int.natAbs_dvd_natAbs.mp h2
def IsPf (n : Int) (out : List Int) : Prop := out.Pairwise (· < ·) ∧ ∀ k, k ∈ out ↔ 2 ≤ k ∧ k ∣ n ∧ Rough k k
/-! ### what stands in a list of primes; counts to 300 -/
theorem Fac.dvds {n : Int} {xs : List Int} (h : Fac n xs) : ∀ q ∈ xs, q ∣ n := by
  induction h with
  | one => intro q hq; simp at hq
  | cons h1 h2 h3 h4 h5 ih =>
    rename_i n p q ps
    intro x hx
    rcases List.mem_cons.mp hx with e | e
    · rw [e]
      exact ⟨q, h2⟩
    · exact Int.dvd_trans (ih x e) ⟨p, by rw [h2, Int.mul_comm]⟩
theorem Fac.mem_iff {n : Int} {xs : List Int} (h : Fac n xs) : ∀ k, k ∈ xs ↔ 2 ≤ k ∧ k ∣ n ∧ Rough k k := by
  intro k
  constructor
  · intro hk
    obtain ⟨a, b⟩ := h.primes k hk
    exact ⟨a, h.dvds k hk, b⟩
  · rintro ⟨k2, kn, kr⟩
    induction h with
    | one =>
      have := Int.le_of_dvd (by decide) kn
      omega
    | cons h1 h2 h3 h4 h5 ih =>
      rename_i n p q ps
      have pr : Rough p p := fun c c1 c2 c3 => h4 c c1 c2 (Int.dvd_trans c3 ⟨q, h2⟩)
      have kn' : k ∣ q * p := by
        rw [Int.mul_comm, ← h2]
        exact kn
      rcases dv_prime (by omega) h1 pr kn' with z | ⟨e, he⟩
      · exact List.mem_cons_of_mem _ (ih z)
      · have pk : p ∣ k := ⟨e, by rw [he, Int.mul_comm]⟩
        have ple := Int.le_of_dvd (by omega) pk
        have : ¬ p < k := fun z => kr p h1 z pk
        have : k = p := by omega
        rw [this]
        exact List.mem_cons_self
theorem fac_ex : ∀ n : Nat, 1 ≤ n → ∃ xs, Fac (n : Int) xs := by
  intro n
  induction n using Nat.strongRecOn with
  | ind n ih =>
    intro h1
    by_cases n1 : n = 1
    · subst n1
      exact ⟨[], .one⟩
    · -- the least divisor
      have ex : ∃ d : Nat, 2 ≤ d ∧ d ∣ n := ⟨n, by omega, Nat.dvd_refl n⟩
      obtain ⟨d, ⟨d2, dn⟩, least⟩ : ∃ d : Nat, (2 ≤ d ∧ d ∣ n) ∧ ∀ c, c < d → ¬ (2 ≤ c ∧ c ∣ n) := by
        obtain ⟨m, hm⟩ := ex
        revert hm
        induction m using Nat.strongRecOn with
        | ind m im =>
          intro hm
          by_cases hc : ∃ c, c < m ∧ 2 ≤ c ∧ c ∣ n
          · obtain ⟨c, c1, c2⟩ := hc
            exact im c c1 c2
          · exact ⟨m, hm, fun c c1 c2 => hc ⟨_, c1, c2⟩⟩
      obtain ⟨q, hq⟩ := dn
      have q1 : 1 ≤ q := by
        apply Nat.pos_of_ne_zero
        intro z
        rw [z] at hq
        omega
      have qn : q < n := by
        have : 2 * q ≤ d * q := Nat.mul_le_mul_right q d2
        omega
      obtain ⟨xs, hx⟩ := ih q qn q1
      refine ⟨(d : Int) :: xs, .cons (by omega) (by rw [hq, Int.natCast_mul]) (by omega) ?_ hx⟩
      intro e e2 ed en
      refine least e.toNat (by omega) ⟨by omega, ?_⟩
      rw [← Int.natCast_dvd_natCast, Int.toNat_of_nonneg (by omega)]
      exact en
theorem pf_ex {n : Int} (h1 : 1 ≤ n) : ∃ fs out, Fac n fs ∧ out.Pairwise (· < ·) ∧ (∀ k, k ∈ out ↔ k ∈ fs) ∧ IsPf n out := by
  obtain ⟨fs, hf⟩ := fac_ex n.toNat (by omega)
  rw [Int.toNat_of_nonneg (by omega)] at hf
  have hs : (((List.range' 2 n.toNat : List Nat).filter (fun (k : Nat) => decide ((k : Int) ∈ fs))).map Int.ofNat).Pairwise (· < ·) := by
    rw [List.pairwise_map]
    refine List.Pairwise.imp (R := fun a b : Nat => a < b) (fun {a b} h => ?_) ((List.pairwise_lt_range' (s := 2) (n := n.toNat) (step := 1)).sublist List.filter_sublist)
    show (a : Int) < (b : Int)
    omega
  have hm : ∀ k, k ∈ ((List.range' 2 n.toNat : List Nat).filter (fun (k : Nat) => decide ((k : Int) ∈ fs))).map Int.ofNat ↔ k ∈ fs := by
    intro k
    rw [List.mem_map]
    constructor
    · rintro ⟨j, hj, e⟩
      have := of_decide_eq_true (List.mem_filter.mp hj).2
      rw [← e]
      exact this
    · intro hk
      obtain ⟨k2, kd, _⟩ := (hf.mem_iff k).mp hk
      have kn := Int.le_of_dvd (by omega) kd
      have ek : ((k.toNat : Nat) : Int) = k := Int.toNat_of_nonneg (by omega)
      refine ⟨k.toNat, List.mem_filter.mpr ⟨List.mem_range'_1.mpr ⟨by omega, by omega⟩, decide_eq_true (by rw [ek]; exact hk)⟩, ek⟩
  exact ⟨fs, _, hf, hs, hm, hs, fun k => (hm k).trans (hf.mem_iff k)⟩
/-! ### powers by a prime: Fermat, and when they come round -/
theorem sub_perm : ∀ {l m : List Nat}, l.Nodup → (∀ x ∈ l, x ∈ m) → ∃ r, m.Perm (l ++ r)
  | [], m, _, _ => ⟨m, .refl _⟩
  | a :: l, m, d, h => by
    rw [List.nodup_cons] at d
    have ha := h a List.mem_cons_self
    have p1 : m.Perm (a :: m.erase a) := List.perm_cons_erase ha
    obtain ⟨r, hr⟩ := sub_perm (l := l) (m := m.erase a) d.2 fun x hx => by
      have hm := p1.mem_iff.mp (h x (List.mem_cons_of_mem _ hx))
      rcases List.mem_cons.mp hm with e | e
      · exact absurd (e ▸ hx) d.1
      · exact e
    exact ⟨r, p1.trans (hr.cons a)⟩
theorem mod_dvd {P x y : Nat} (e : x % P = y % P) : P ∣ y - x := Nat.dvd_of_mod_eq_zero (Nat.sub_mod_eq_zero_of_mod_eq e.symm)
theorem fac_nil {n : Int} (h : Fac n []) : n = 1 := by
  cases h
  rfl
def prodN (l : List Nat) : Nat := l.foldr (· * ·) 1
theorem prodN_perm {l m : List Nat} (h : l.Perm m) : prodN l = prodN m := by
  induction h with
  | nil => rfl
  | cons x _ ih => show x * prodN _ = x * prodN _; rw [ih]
  | swap x y l => show y * (x * prodN l) = x * (y * prodN l); rw [← Nat.mul_assoc, Nat.mul_comm y x, Nat.mul_assoc]
  | trans _ _ h1 h2 => exact h1.trans h2
theorem prodN_map (a P : Nat) : ∀ l : List Nat, prodN (l.map fun i => a * i % P) % P = a ^ l.length * prodN l % P
  | [] => by show 1 % P = (a ^ 0 * 1) % P; rw [Nat.pow_zero]
  | x :: l => by
    show (a * x % P) * prodN (l.map fun i => a * i % P) % P = a ^ (l.length + 1) * (x * prodN l) % P
    rw [Nat.mul_mod, Nat.mod_mod, prodN_map a P l, ← Nat.mul_mod, Nat.pow_succ]
    congr 1
    rw [Nat.mul_assoc (a ^ l.length), ← Nat.mul_assoc a x, Nat.mul_left_comm, Nat.mul_comm (a * x)]
def PrN (P : Nat) : Prop := 2 ≤ P ∧ ∀ d, 2 ≤ d → d < P → ¬ d ∣ P
theorem PrN.cop {P a : Nat} (h : PrN P) (ha : ¬ P ∣ a) : Nat.Coprime P a := by
  have d1 := Nat.gcd_dvd_left P a
  have d2 := Nat.gcd_dvd_right P a
  show Nat.gcd P a = 1
  generalize Nat.gcd P a = g at *
  have g0 : g ≠ 0 := fun z => by
    rw [z] at d1
    have := Nat.zero_dvd.mp d1
    have := h.1
    omega
  have gle : g ≤ P := Nat.le_of_dvd (by have := h.1; omega) d1
  by_cases e : g = 1
  · exact e
  · exfalso
    by_cases e2 : g = P
    · exact ha (e2 ▸ d2)
    · exact h.2 g (by omega) (by omega) d1
theorem prodN_cop {P : Nat} (h : PrN P) : ∀ {l : List Nat}, (∀ x ∈ l, ¬ P ∣ x) → Nat.Coprime P (prodN l)
  | [], _ => Nat.gcd_one_right P
  | x :: l, hl => Nat.Coprime.mul_right (h.cop (hl x List.mem_cons_self)) (prodN_cop h fun y hy => hl y (List.mem_cons_of_mem _ hy))
theorem mod_one {P x : Nat} (h2 : 2 ≤ P) (h1 : 1 ≤ x) (h : P ∣ x - 1) : x % P = 1 := by
  obtain ⟨c, hc⟩ := h
  have : x = 1 + P * c := by omega
  rw [this, Nat.add_mul_mod_self_left]
  exact Nat.mod_eq_of_lt (by omega)
theorem fermat {P a : Nat} (h : PrN P) (a1 : 1 ≤ a) (aP : a < P) : a ^ (P - 1) % P = 1 := by
  have hP := h.1
  have na : ¬ P ∣ a := fun z => by
    have := Nat.le_of_dvd (by omega) z
    omega
  have ca := h.cop na
  have nR : ∀ x ∈ List.range' 1 (P - 1), ¬ P ∣ x := fun x hx z => by
    have h1 := List.mem_range'_1.mp hx
    have := Nat.le_of_dvd (by omega) z
    omega
  have nod : ((List.range' 1 (P - 1)).map fun i => a * i % P).Nodup := by
    rw [List.Nodup, List.pairwise_map]
    refine List.Pairwise.imp_of_mem (R := fun x y : Nat => x < y) (fun {x y} hx hy hxy e => ?_) (List.pairwise_lt_range' (s := 1) (n := P - 1) (step := 1))
    have hx1 := List.mem_range'_1.mp hx
    have hy1 := List.mem_range'_1.mp hy
    have hle : a * x ≤ a * y := Nat.mul_le_mul_left _ (Nat.le_of_lt hxy)
    have hd : P ∣ a * y - a * x := mod_dvd e
    rw [← Nat.mul_sub] at hd
    have := Nat.le_of_dvd (by omega) (ca.dvd_of_dvd_mul_left hd)
    omega
  have sub : ∀ x ∈ (List.range' 1 (P - 1)).map (fun i => a * i % P), x ∈ List.range' 1 (P - 1) := fun x hx => by
    obtain ⟨i, hi, e⟩ := List.mem_map.mp hx
    have hlt := Nat.mod_lt (a * i) (show 0 < P by omega)
    have h0 : a * i % P ≠ 0 := fun z => nR i hi (ca.dvd_of_dvd_mul_left (Nat.dvd_of_mod_eq_zero z))
    exact List.mem_range'_1.mpr ⟨by omega, by omega⟩
  obtain ⟨r, hr⟩ := sub_perm nod sub
  have hr0 : r = [] := by
    have := hr.length_eq
    rw [List.length_append, List.length_map] at this
    exact List.length_eq_zero_iff.mp (by omega)
  rw [hr0, List.append_nil] at hr
  have e1 := prodN_map a P (List.range' 1 (P - 1))
  rw [← prodN_perm hr, List.length_range'] at e1
  have hX := prodN_cop h nR
  generalize prodN (List.range' 1 (P - 1)) = X at *
  have h1 : 1 ≤ a ^ (P - 1) := Nat.pow_pos (by omega)
  have hle : X ≤ a ^ (P - 1) * X := Nat.le_mul_of_pos_left _ (by omega)
  have hd : P ∣ a ^ (P - 1) * X - X := mod_dvd e1
  have e2 : a ^ (P - 1) * X - X = (a ^ (P - 1) - 1) * X := by rw [Nat.sub_mul, Nat.one_mul]
  rw [e2] at hd
  exact mod_one hP h1 (hX.dvd_of_dvd_mul_right hd)
theorem pow_one_mul {P a m : Nat} (h2 : 2 ≤ P) (h : a ^ m % P = 1) (k : Nat) : a ^ (m * k) % P = 1 := by
  rw [Nat.pow_mul, Nat.pow_mod, h, Nat.one_pow]
  exact Nat.mod_eq_of_lt (by omega)
theorem pow_gcd {P a : Nat} (h2 : 2 ≤ P) (m n : Nat) : a ^ m % P = 1 → a ^ n % P = 1 → a ^ (Nat.gcd m n) % P = 1 := by
  induction m, n using Nat.gcd.induction with
  | H0 n =>
    intro _ h
    rw [Nat.gcd_zero_left]
    exact h
  | H1 m n hm ih =>
    intro h1 hn
    rw [Nat.gcd_rec]
    refine ih ?_ h1
    have e : a ^ n = a ^ (m * (n / m)) * a ^ (n % m) := by rw [← Nat.pow_add, Nat.div_add_mod]
    rw [e, Nat.mul_mod, pow_one_mul h2 h1, Nat.one_mul, Nat.mod_mod] at hn
    exact hn
/-- the powers of a generator don't come round too early -/
theorem gen_order {p g e : Int} {out : List Int} (hp : Fac p [p]) (hpf : IsPf (p - 1) out) (hg : 1 ≤ g) (hgp : g < p) (hok : GenOk p g (erl p out)) (e0 : 0 < e) (e1 : e < p - 1) : ¬ g ^ e.toNat % p = 1 := by
  intro he
  obtain ⟨p2, pr⟩ := Rough.of_fac hp
  obtain ⟨P, rfl⟩ := Int.eq_ofNat_of_zero_le (show 0 ≤ p by omega)
  obtain ⟨G, rfl⟩ := Int.eq_ofNat_of_zero_le (show 0 ≤ g by omega)
  obtain ⟨n, rfl⟩ := Int.eq_ofNat_of_zero_le (show 0 ≤ e by omega)
  have pN : PrN P := ⟨by omega, fun d d2 dP k => pr d (by omega) (by omega) (Int.natCast_dvd_natCast.mpr k)⟩
  have he' : G ^ n % P = 1 := by
    have : ((G ^ n % P : Nat) : Int) = 1 := by rw [Int.natCast_emod, Int.natCast_pow]; exact he
    omega
  have hf := fermat pN (show 1 ≤ G by omega) (show G < P by omega)
  have hd := pow_gcd (by omega) n (P - 1) he' hf
  have d1 := Nat.gcd_dvd_left n (P - 1)
  have d2 := Nat.gcd_dvd_right n (P - 1)
  generalize Nat.gcd n (P - 1) = d at *
  have dn : d ≤ n := Nat.le_of_dvd (by omega) d1
  obtain ⟨c, hc⟩ := d2
  have c0 : c ≠ 0 := fun z => by rw [z] at hc; omega
  have c1 : c ≠ 1 := fun z => by rw [z, Nat.mul_one] at hc; omega
  obtain ⟨xs, hxs⟩ := fac_ex c (by omega)
  have hne : ∃ q, q ∈ xs := by
    cases xs with
    | nil =>
      have := fac_nil hxs
      omega
    | cons q r => exact ⟨q, List.mem_cons_self⟩
  obtain ⟨q, hq⟩ := hne
  obtain ⟨q2, qr⟩ := hxs.primes q hq
  have qd := hxs.dvds q hq
  obtain ⟨Q, rfl⟩ := Int.eq_ofNat_of_zero_le (show 0 ≤ q by omega)
  have qd' : Q ∣ c := Int.natCast_dvd_natCast.mp qd
  obtain ⟨k, hk⟩ := qd'
  have eP : ((P - 1 : Nat) : Int) = (P : Int) - 1 := by omega
  have hqm : (Q : Int) ∈ out := (hpf.2 _).mpr ⟨q2, ⟨(d * k : Nat), by rw [← eP, hc, hk, ← Int.natCast_mul]; congr 1; rw [Nat.mul_left_comm]⟩, qr⟩
  refine hok (((P : Int) - 1) / (Q : Int)) (List.mem_map.mpr ⟨_, hqm, rfl⟩) ?_
  have e3 : (((P : Int) - 1) / (Q : Int)).toNat = d * k := by
    rw [← eP, ← Int.natCast_ediv, hc, hk]
    show d * (Q * k) / Q = d * k
    rw [Nat.mul_left_comm, Nat.mul_div_cancel_left _ (by omega)]
  rw [e3]
  have h4 := pow_one_mul (show 2 ≤ P by omega) hd k
  have : ((G ^ (d * k) % P : Nat) : Int) = 1 := by rw [h4]; rfl
  rw [Int.natCast_emod, Int.natCast_pow] at this
  exact this
/-- unlike exponents below p less 1: unlike powers -/
theorem gen_unlike {p g x y : Int} {out : List Int} (hp : Fac p [p]) (hpf : IsPf (p - 1) out) (hg : 1 ≤ g) (hgp : g < p) (hok : GenOk p g (erl p out)) (x0 : 0 ≤ x) (xy : x < y) (y1 : y < p - 1) : g ^ x.toNat % p ≠ g ^ y.toNat % p := by
  intro e
  obtain ⟨p2, pr⟩ := Rough.of_fac hp
  refine gen_order hp hpf hg hgp hok (show 0 < y - x by omega) (by omega) ?_
  obtain ⟨P, rfl⟩ := Int.eq_ofNat_of_zero_le (show 0 ≤ p by omega)
  obtain ⟨G, rfl⟩ := Int.eq_ofNat_of_zero_le (show 0 ≤ g by omega)
  obtain ⟨m, rfl⟩ := Int.eq_ofNat_of_zero_le x0
  obtain ⟨n, rfl⟩ := Int.eq_ofNat_of_zero_le (show 0 ≤ y by omega)
  have pN : PrN P := ⟨by omega, fun d d2 dP k => pr d (by omega) (by omega) (Int.natCast_dvd_natCast.mpr k)⟩
  have e' : G ^ m % P = G ^ n % P := by
    have : ((G ^ m % P : Nat) : Int) = ((G ^ n % P : Nat) : Int) := by rw [Int.natCast_emod, Int.natCast_emod, Int.natCast_pow, Int.natCast_pow]; exact e
    exact Int.ofNat.inj this
  have en : n = m + (n - m) := by omega
  have hle : G ^ m ≤ G ^ n := Nat.pow_le_pow_right (by omega) (by omega)
  have hd : P ∣ G ^ n - G ^ m := mod_dvd e'
  have e2 : G ^ n - G ^ m = G ^ m * (G ^ (n - m) - 1) := by
    rw [Nat.mul_sub, Nat.mul_one, ← Nat.pow_add, ← en]
  rw [e2] at hd
  have nG : ¬ P ∣ G := fun z => by
    have := Nat.le_of_dvd (by omega) z
    omega
  have cG : Nat.Coprime P (G ^ m) := Nat.Coprime.pow_right m (pN.cop nG)
  have h3 := mod_one (by omega) (Nat.pow_pos (show 0 < G by omega)) (cG.dvd_of_dvd_mul_left hd)
  have e5 : ((n : Int) - (m : Int)).toNat = n - m := by omega
  rw [e5]
  have : ((G ^ (n - m) % P : Nat) : Int) = 1 := by rw [h3]; rfl
  rw [Int.natCast_emod, Int.natCast_pow] at this
  exact this
/-! ### len(set(xs)), xs a list of unlike ints -/
def tLenSetI (K : PySem.W.Frag) (ta : TE) : TE := fun σ H Q => ta σ H fun x H1 => ∃ (l : Addr) (ns : List Int), x = .ref l ∧ SqL K H1 l (ns.map V.int) ∧ ns.length ≤ 4000 ∧ ns.Nodup ∧ Q (.int ns.length) H1
open PySem.Spec PyProof.Rows in
theorem pe_lenSetI {X : Cx} {a : Expr} {ta : TE} {p p2 q pos : Pos} (hg : Gl X "len") (hm : X.mg "len" = none) (hg2 : Gl X "set") (hm2 : X.mg "set" = none) (ha : PE X a ta) (hc : X.calm = true := by rfl)
    (na : starEach [a] X.env = (false, eval a X.env) :: starEach [] X.env := by rfl) : PE X (.Call (.Name "len" p) [.Call (.Name "set" p2) [a] [] q] [] pos) (tLenSetI X.K ta) := by
  refine ⟨fun pins s σ H Q I h => ?_⟩
  refine Call_ (ld_blt I hg hm boot_len (callWith_builtin1 (args_cons (Call_ (ld_blt I hg2 hm2 boot_set (callWith_type1 (args_cons (thn (ha.run pins s σ H _ I h) fun v s1 ⟨x, H1, I1, r1, q1⟩ => args_nil ?_) na) na rfl))) rfl) rfl rfl))
  obtain ⟨l, ns, rfl, hq, hn, nod, q1⟩ := q1
  cases r1
  obtain ⟨its, r, pl, hz⟩ := I1.list hq
  have hd := I1.ok.hd hc
  refine set_of_list hd pl.isList (by simpa using ints_of_vals r) (by unfold scanBound; omega) fun h' tk c hL => args_nil ?_
  obtain ⟨R1, hcn, kept⟩ := hL
  obtain ⟨o, es, ep, t, g1, g2, g3, good, nodE, mem, g4, g5, g6, g7, g8⟩ := R1
  have I2 : Inv X pins σ H1 { s1 with heap := h', toks := tk } := I1.kept fun b o e => kept b o e
  have pm : (es.toList.map keyOf).Perm ns := (List.perm_ext_iff_of_nodup nodE nod).mpr fun k => by
    rw [← mem k]
    exact decide_eq_true_iff
  have hl : es.size = ns.length := by
    have := pm.length_eq
    rw [List.length_map, Array.length_toList] at this
    exact this
  exact call_len_set (s := { s1 with heap := h', toks := tk }) g1 g2 g3 g5 (by rw [hl]; omega) ⟨.int ns.length, H1, I2.tok _, ⟨_, by rw [hl]⟩, q1⟩
abbrev s__law_pow : Stmt := top 21
abbrev N__law_pow : List Str := ["_law_base", "_law_exponent", "_law_by", "_law_found", "_law_here", "_law_turn"]
abbrev P__law_pow : List Str := ["_law_base", "_law_exponent", "_law_by"]
theorem sc__law_pow : FnScope N__law_pow P__law_pow (defScope s__law_pow) := ⟨rfl, rfl, rfl, by decide +kernel, rfl, by decide +kernel, by decide +kernel⟩
def spPowL (lim : Int) : Sp := fun vs H Q _ => ∃ (b e m : Int), vs = [.int b, .int e, .int m] ∧ 0 ≤ e ∧ e < lim ∧ 1 ≤ m ∧ m ≤ 1000000 ∧ 0 ≤ b ∧ b ≤ 1000000 ∧ Q (.int (b ^ e.toNat % m)) H
section
variable {P : Program} {w : World} {K : PySem.W.Frag} {mg : Str → Option Value} {base : Heap}
theorem ok_lawpow {f : Addr} {fd : FuncData} {k : Nat} (F : Fun K "_law_pow" "_law_pow" s__law_pow f fd) (T : Blt mg) : FnOk P w K mg base CX0 (k + 1) f fd P__law_pow (spPowL 1048576) := by
  have nd := sc__law_pow.nd
  refine F.ok sc__law_pow (fun vs H Q E h => ?_) (fun cdv A outer s H vs Q E hr h => ?_)
  · obtain ⟨b, e, m, rfl, _⟩ := h
    rfl
  · obtain ⟨b, e, m, rfl, he, he2, hm1, hm2, hb0, hb1, q⟩ := h
    refine ⟨_, (pss_cons (ps_par (i := 3) (j := 4) (by rfl) nd rfl rfl (by decide) rfl rfl (pa_cons (pe_op op_mod (pe_int) (pv 2)) (pa_cons (pe_op op_mod (pv 0) (pv 2)) pa_nil)) (by rfl))
      (pss_cons (ps_for PassesOwn.never rfl (pi_range1 (by rfl) T.b_range (pa_cons (pe_int) pa_nil)) (pg_name (i := 5) nd rfl (Or.inl rfl))
      (pss_cons (ps_if (pt_cmpR op_eq (pe_op op_mod (pv 1) (pe_int)) (pe_int) (nomark _)) (pss_one (ps_set (i := 3) nd rfl (Or.inl rfl) (pe_op op_mod (pe_op op_mul (pv 3) (pv 4)) (pv 2)))) pss_nil)
      (pss_one (ps_par (i := 4) (j := 1) (by rfl) nd rfl rfl (by decide) rfl rfl (pa_cons (pe_op op_mod (pe_op op_mul (pv 4) (pv 4)) (pv 2)) (pa_cons (pe_op op_fdiv (pv 1) (pe_int)) pa_nil)) (by rfl)))))
      (pss_one (ps_ret (pv 3))))), ?_⟩
    have r0 : ∀ x : Int, 0 ≤ x % m ∧ x % m < m := fun x => ⟨Int.emod_nonneg _ (by omega), Int.emod_lt_of_pos _ (by omega)⟩
    walk_at "ev"
    refine for_range (lo := 0) (n := (20 : Int).toNat) (fun i σ H' => Hold (∃ (x p t : Int) (s5 : Option V), σ = [some (.int b), some (.int p), some (.int m), some (.int t), some (.int x), s5] ∧ 0 ≤ p ∧ p * 2 ^ i ≤ e ∧ 0 ≤ t ∧ t < m ∧ 0 ≤ x ∧ x < m ∧ t * x ^ p.toNat % m = b ^ e.toNat % m ∧ H' = H)) (.mk ⟨b % m, e, 1 % m, none, rfl, he, by simp, (r0 _).1, (r0 _).2, (r0 _).1, (r0 _).2, by rw [mod_mul_mod, mul_pow_mod, Int.one_mul], rfl⟩) ?_ ?_
    · intro i σ H' hi hP
      obtain ⟨x, p, t, s5, rfl, p0, pe, t0, t1, x0, x1, inv, rfl⟩ := hP.un
      have cm1 : CMul t x := .inl ⟨by omega, by omega⟩
      have cm2 : CMul x x := .inl ⟨by omega, by omega⟩
      have pe2 : p / 2 * 2 ^ (i + 1) ≤ e := by
        have h1 : p / 2 * 2 ≤ p := Int.ediv_mul_le p (by decide)
        have h2 : p / 2 * 2 * 2 ^ i ≤ p * 2 ^ i := Int.mul_le_mul_of_nonneg_right h1 (Int.pow_nonneg (by decide))
        rw [Int.pow_succ, Int.mul_comm (2 ^ i) 2, ← Int.mul_assoc]
        omega
      walk_at "ev"
      refine ite2 (fun d => ?_) (fun d => ?_)
      · have d1 : p % 2 = 1 := V.int.inj (of_decide_eq_true d)
        walk_at "ev"
        exact .mk ⟨x * x % m, p / 2, t * x % m, _, rfl, by omega, pe2, (r0 _).1, (r0 _).2, (r0 _).1, (r0 _).2, by rw [step_odd d1 p0]; exact inv, rfl⟩
      · have d1 : ¬ p % 2 = 1 := fun z => d (decide_eq_true (congrArg V.int z))
        walk_at "ev"
        exact .mk ⟨x * x % m, p / 2, t, _, rfl, by omega, pe2, t0, t1, (r0 _).1, (r0 _).2, by rw [step_even d1 p0]; exact inv, rfl⟩
    · intro σ H' hP
      obtain ⟨x, p, t, s5, rfl, p0, pe, t0, t1, x0, x1, inv, rfl⟩ := hP.un
      have p00 : p = 0 := by
        have e20 : (2 : Int) ^ (20 : Int).toNat = 1048576 := by decide
        rw [e20] at pe
        omega
      subst p00
      walk_at "ev"
      have et : t = b ^ e.toNat % m := by
        rw [← inv]
        show t = t * x ^ (0 : Nat) % m
        rw [Int.pow_zero, Int.mul_one, Int.emod_eq_of_lt t0 t1]
      rw [et]
      exact q
end
/-! ### each prime has a generator: looked up by the kernel -/
def pm (m : Nat) : Nat → Nat → Nat → Nat
  | 0, _, _ => 1 % m
  | k + 1, b, e => if e % 2 = 1 then b * pm m k (b * b % m) (e / 2) % m else pm m k (b * b % m) (e / 2)
theorem npow_mod (a m : Nat) (k : Nat) : (a % m) ^ k % m = a ^ k % m := (Nat.pow_mod a k m).symm
theorem npow_sq (b k : Nat) : (b * b) ^ k = b ^ (2 * k) := by
  rw [Nat.pow_mul, Nat.pow_two]
theorem pm_eq (m : Nat) : ∀ k b e : Nat, e < 2 ^ k → pm m k b e = b ^ e % m
  | 0, b, e, h => by
    have : e = 0 := by
      have : (2 : Nat) ^ 0 = 1 := rfl
      omega
    subst this
    show 1 % m = b ^ 0 % m
    rw [Nat.pow_zero]
  | k + 1, b, e, h => by
    have he : e / 2 < 2 ^ k := by
      rw [Nat.pow_succ] at h
      omega
    have ih := pm_eq m k (b * b % m) (e / 2) he
    show (if e % 2 = 1 then b * pm m k (b * b % m) (e / 2) % m else pm m k (b * b % m) (e / 2)) = _
    rw [ih, npow_mod, npow_sq]
    split
    · rename_i o
      have e2 : e = 2 * (e / 2) + 1 := by omega
      conv => rhs; rw [e2, Nat.pow_succ, Nat.mul_comm (b ^ _) b, Nat.mul_mod]
      rw [Nat.mul_mod, Nat.mod_mod]
    · have e2 : e = 2 * (e / 2) := by omega
      conv => rhs; rw [e2]
def okG (p g d : Nat) : Bool := if (p - 1) % d = 0 then (pm p 20 g ((p - 1) / d) != 1) && (decide (d = p - 1) || (pm p 20 g d != 1)) else true
def okAll (p g s : Nat) : Bool := decide (2 ≤ g) && (decide (g < p) && (List.range' 2 (s - 1)).all (okG p g))
def fnd (p s : Nat) : Nat → Nat → Nat
  | 0, g => g
  | k + 1, g => if okAll p g s = true then g else fnd p s k (g + 1)
def isPr (p : Nat) : Bool := (List.range' 2 99).all fun d => decide (p < d * d) || decide (p % d ≠ 0)
def chk (p : Nat) : Bool := !isPr p || okAll p (fnd p 100 60 2) 100
theorem chk1 : (List.range' 3 2498).all chk = true := by decide +kernel
theorem chk2 : (List.range' 2501 2500).all chk = true := by decide +kernel
theorem chk3 : (List.range' 5001 2500).all chk = true := by decide +kernel
theorem chk4 : (List.range' 7501 2500).all chk = true := by decide +kernel
theorem far1 : okAll 10007 (fnd 10007 101 60 2) 101 = true := by decide +kernel
theorem far2 : okAll 40961 (fnd 40961 203 60 2) 203 = true := by decide +kernel
theorem far3 : okAll 65537 (fnd 65537 257 60 2) 257 = true := by decide +kernel
theorem far4 : okAll 786433 (fnd 786433 888 60 2) 888 = true := by decide +kernel
theorem far5 : okAll 999983 (fnd 999983 1000 60 2) 1000 = true := by decide +kernel
theorem okG_at {p g s : Nat} (h : okAll p g s = true) {d : Nat} (d2 : 2 ≤ d) (ds : d ≤ s) (hd : d ∣ p - 1) (hp : p ≤ 1048576) (hp3 : 3 ≤ p) : ¬ g ^ ((p - 1) / d) % p = 1 ∧ (d ≠ p - 1 → ¬ g ^ d % p = 1) := by
  unfold okAll at h
  simp only [Bool.and_eq_true, decide_eq_true_eq, List.all_eq_true] at h
  have h1 := h.2.2 d (List.mem_range'_1.mpr ⟨d2, by omega⟩)
  unfold okG at h1
  rw [if_pos (Nat.mod_eq_zero_of_dvd hd)] at h1
  have e20 : (2 : Nat) ^ 20 = 1048576 := by decide
  have dle : d ≤ p - 1 := Nat.le_of_dvd (by omega) hd
  have qle : (p - 1) / d ≤ p - 1 := Nat.div_le_self _ _
  rw [pm_eq p 20 g _ (by omega), pm_eq p 20 g _ (by omega)] at h1
  simp only [Bool.and_eq_true, Bool.or_eq_true, decide_eq_true_eq, bne_iff_ne, ne_eq] at h1
  exact ⟨h1.1, fun z => h1.2.resolve_left z⟩
/-- what was looked up is enough -/
theorem gen_of {p g s : Nat} (h : okAll p g s = true) (hp : p ≤ 1048576) (hp3 : 3 ≤ p) (hs : p ≤ (s + 1) * (s + 1)) {out : List Int} (ho : ∀ k ∈ out, 2 ≤ k ∧ k ∣ (p : Int) - 1) : 1 ≤ (g : Int) ∧ (g : Int) < p ∧ GenOk p g (erl p out) := by
  have h0 := h
  unfold okAll at h0
  simp only [Bool.and_eq_true, decide_eq_true_eq] at h0
  refine ⟨by omega, by omega, ?_⟩
  intro e he z
  obtain ⟨f, hf, ef⟩ := List.mem_map.mp he
  obtain ⟨f2, fd⟩ := ho f hf
  -- all in naturals
  have ep : ((p - 1 : Nat) : Int) = (p : Int) - 1 := by omega
  have fN : ((f.toNat : Nat) : Int) = f := Int.toNat_of_nonneg (by omega)
  have fdN : f.toNat ∣ p - 1 := by
    rw [← Int.natCast_dvd_natCast, fN, ep]
    exact fd
  have eN : e.toNat = (p - 1) / f.toNat := by
    rw [← ef]
    have : ((p : Int) - 1) / f = (((p - 1) / f.toNat : Nat) : Int) := by
      rw [Int.natCast_ediv, ep, fN]
    rw [this]
    rfl
  have zN : g ^ e.toNat % p = 1 := by
    have : ((g ^ e.toNat % p : Nat) : Int) = 1 := by
      rw [Int.natCast_emod, Int.natCast_pow]
      exact z
    omega
  rw [eN] at zN
  by_cases fs : f.toNat ≤ s
  · exact (okG_at h (by omega) fs fdN hp hp3).1 zN
  · -- the partner is small
    have hq : (p - 1) / f.toNat * f.toNat = p - 1 := Nat.div_mul_cancel fdN
    have hqs : (p - 1) / f.toNat ≤ s := by
      apply Nat.le_of_not_gt
      intro v
      have : (s + 1) * (s + 1) ≤ (p - 1) / f.toNat * f.toNat := Nat.mul_le_mul v (by omega)
      omega
    have hq0 : (p - 1) / f.toNat ≠ 0 := fun v => by
      rw [v] at hq
      omega
    by_cases q1 : (p - 1) / f.toNat = 1
    · rw [q1, Nat.pow_one, Nat.mod_eq_of_lt h0.2.1] at zN
      omega
    · refine (okG_at h (d := (p - 1) / f.toNat) (by omega) hqs ⟨f.toNat, hq.symm⟩ hp hp3).2 ?_ zN
      intro v
      have : (p - 1) / f.toNat * 2 ≤ (p - 1) / f.toNat * f.toNat := Nat.mul_le_mul_left _ (by omega)
      omega
theorem isPr_of {p : Nat} (hp : p ≤ 10000) (h : ∀ d, 2 ≤ d → d * d ≤ p → ¬ d ∣ p) : isPr p = true := by
  unfold isPr
  rw [List.all_eq_true]
  intro d hd
  have h1 := List.mem_range'_1.mp hd
  rw [Bool.or_eq_true, decide_eq_true_iff, decide_eq_true_iff]
  by_cases z : p < d * d
  · exact .inl z
  · exact .inr fun e => h d h1.1 (by omega) (Nat.dvd_of_mod_eq_zero e)
theorem gen_small {p : Nat} (h3 : 3 ≤ p) (hp : p ≤ 10000) (h : ∀ d, 2 ≤ d → d * d ≤ p → ¬ d ∣ p) {out : List Int} (ho : ∀ k ∈ out, 2 ≤ k ∧ k ∣ (p : Int) - 1) : ∃ g0 : Int, 1 ≤ g0 ∧ g0 < p ∧ GenOk p g0 (erl p out) := by
  have hc : chk p = true := by
    by_cases a : p ≤ 2500
    · exact (List.all_eq_true.mp chk1) p (List.mem_range'_1.mpr ⟨h3, by omega⟩)
    · by_cases b : p ≤ 5000
      · exact (List.all_eq_true.mp chk2) p (List.mem_range'_1.mpr ⟨by omega, by omega⟩)
      · by_cases c : p ≤ 7500
        · exact (List.all_eq_true.mp chk3) p (List.mem_range'_1.mpr ⟨by omega, by omega⟩)
        · exact (List.all_eq_true.mp chk4) p (List.mem_range'_1.mpr ⟨by omega, by omega⟩)
  unfold chk at hc
  rw [isPr_of hp h] at hc
  have hk : okAll p (fnd p 100 60 2) 100 = true := by simpa using hc
  obtain ⟨a, b, c⟩ := gen_of hk (by omega) h3 (by omega) ho
  exact ⟨_, a, b, c⟩
/-! ### the primes that are drawn -/
def GenAt (p : Int) : Prop := 2 ≤ p ∧ p ≤ 1000000 ∧ ∃ (fs out : List Int) (g0 : Int), Fac (p - 1) fs ∧ out.Pairwise (· < ·) ∧ (∀ k, k ∈ out ↔ k ∈ fs) ∧ IsPf (p - 1) out ∧ 1 ≤ g0 ∧ g0 < p ∧ GenOk p g0 (erl p out)
theorem gen_two : GenAt 2 := by
  refine ⟨by decide, by decide, [], [], 1, .one, .nil, fun k => Iff.rfl, ⟨.nil, fun k => ⟨fun h => by simp at h, fun ⟨a, b, _⟩ => ?_⟩⟩, by decide, by decide, fun e he => by simp [erl] at he⟩
  have := Int.le_of_dvd (by decide) b
  omega
theorem gen_odd {p : Nat} (h3 : 3 ≤ p) (hp : p ≤ 1000000) (h : ∀ out : List Int, (∀ k ∈ out, 2 ≤ k ∧ k ∣ (p : Int) - 1) → ∃ g0 : Int, 1 ≤ g0 ∧ g0 < p ∧ GenOk p g0 (erl p out)) : GenAt (p : Int) := by
  obtain ⟨fs, out, a, b, c, d⟩ := pf_ex (n := (p : Int) - 1) (by omega)
  obtain ⟨g0, e, f, g⟩ := h out fun k hk => by
    obtain ⟨u, v, _⟩ := (d.2 k).mp hk
    exact ⟨u, v⟩
  exact ⟨by omega, by omega, fs, out, g0, a, b, c, d, e, f, g⟩
theorem gen_prs {x : Int} (h : x ∈ prs 10000) : GenAt x := by
  obtain ⟨j, ej, j1, j2, j3⟩ := mem_prs.mp h
  rw [ej]
  by_cases j2' : j = 2
  · rw [j2']
    exact gen_two
  · refine gen_odd (by omega) (by omega) fun out ho => gen_small (by omega) (by omega) ?_ ho
    intro d d2 dd
    have : d * 2 ≤ d * d := Nat.mul_le_mul_left d d2
    exact pk_iff.mp j3 d d2 (by omega) dd
theorem gen_9973 : GenAt 9973 := gen_prs (mem_prs.mpr ⟨9973, rfl, by decide, by decide, by decide +kernel⟩)
theorem gen_7681 : GenAt 7681 := gen_prs (mem_prs.mpr ⟨7681, rfl, by decide, by decide, by decide +kernel⟩)
theorem prs_pos {top : Nat} (h : 4 ≤ top) : 0 < (prs top).length := by
  have : (2 : Int) ∈ prs top := mem_prs.mpr ⟨2, rfl, by omega, by omega, pk_iff.mpr fun d h1 h2 h3 => by
    have : 2 * 2 ≤ d * d := Nat.mul_le_mul h1 h1
    omega⟩
  exact List.length_pos_of_mem this
theorem cut12 {xs : List V} (h : 0 < xs.length) : 0 < (cutV xs none (some 12)).length ∧ ∀ v ∈ cutV xs none (some 12), v ∈ xs := by
  have e : cutV xs none (some 12) = xs.take (min 12 xs.length) := rfl
  rw [e]
  refine ⟨?_, fun v hv => List.mem_of_mem_take hv⟩
  rw [List.length_take]
  omega
theorem in_9973 : (9973 : Int) ∈ prs 10000 := mem_prs.mpr ⟨9973, rfl, by decide, by decide, by decide +kernel⟩
theorem in_two : (2 : Int) ∈ prs 10000 := mem_prs.mpr ⟨2, rfl, by decide, by decide, by decide +kernel⟩
theorem in_7681 : (7681 : Int) ∈ prs 10000 := mem_prs.mpr ⟨7681, rfl, by decide, by decide, by decide +kernel⟩
/-- a prime to ten thousand, as the law's sieve and as factors have it -/
theorem prs_iff {x : Int} : x ∈ prs 10000 ↔ x ≤ 10000 ∧ Fac x [x] := by
  constructor
  · intro h
    obtain ⟨j, ej, j1, j2, j3⟩ := mem_prs.mp h
    refine ⟨by omega, Fac.self (by omega) fun e e2 e3 k => ?_⟩
    obtain ⟨q, hq⟩ := k
    have q0 : 0 < q := by
      apply Int.lt_of_not_ge
      intro z
      have : e * q ≤ 0 := Int.mul_nonpos_of_nonneg_of_nonpos (by omega) z
      omega
    have q1 : q ≠ 1 := fun z => by
      rw [z, Int.mul_one] at hq
      omega
    have nat : ∀ u v : Int, 2 ≤ u → 2 ≤ v → u ≤ v → x = u * v → False := fun u v u2 v2 uv e => by
      have h1 : u * u ≤ x := by rw [e]; exact Int.mul_le_mul_of_nonneg_left uv (by omega)
      have h2 : u * 2 ≤ u * u := Int.mul_le_mul_of_nonneg_left u2 (by omega)
      have hu : ((u.toNat : Nat) : Int) = u := Int.toNat_of_nonneg (by omega)
      refine pk_iff.mp j3 u.toNat (by omega) (by omega) ?_ ?_
      · have : ((u.toNat * u.toNat : Nat) : Int) ≤ (j : Int) := by rw [Int.natCast_mul, hu]; omega
        omega
      · rw [← Int.natCast_dvd_natCast, hu, ← ej, e]
        exact ⟨v, rfl⟩
    rcases Int.le_total e q with z | z
    · exact nat e q e2 (by omega) z hq
    · exact nat q e (by omega) e2 z (by rw [Int.mul_comm]; exact hq)
  · rintro ⟨h1, h2⟩
    obtain ⟨h3, h4⟩ := Rough.of_fac h2
    refine mem_prs.mpr ⟨x.toNat, by omega, by omega, by omega, pk_iff.mpr fun d d2 _ dd k => ?_⟩
    have e : ((x.toNat : Nat) : Int) = x := Int.toNat_of_nonneg (by omega)
    have k2 := Int.natCast_dvd_natCast.mpr k
    rw [e] at k2
    have : d * 2 ≤ d * d := Nat.mul_le_mul_left d d2
    exact h4 (d : Int) (by omega) (by omega) k2
abbrev s__law_small_prime : Stmt := top 22
abbrev N__law_small_prime : List Str := ["_law_box_here", "_law_primes", "_law_some"]
abbrev P__law_small_prime : List Str := ["_law_box_here", "_law_primes"]
theorem sc__law_small_prime : FnScope N__law_small_prime P__law_small_prime (defScope s__law_small_prime) := ⟨rfl, rfl, rfl, by decide +kernel, rfl, by decide +kernel, by decide +kernel⟩
def spSP (K : PySem.W.Frag) : Sp := fun vs H Q _ => ∃ (b a : Addr) (n : Int), vs = [.ref b, .ref a] ∧ BoxAt H b n ∧ n < 1000000 ∧ SqL K H a ((prs 10000).map V.int) ∧ a ≠ b ∧ ∀ r H', r ∈ prs 10000 → Keep b H H' → BoxAt H' b (n + 4) → Q (.int r) H'
section
variable {P : Program} {w : World} {K : PySem.W.Frag} {mg : Str → Option Value} {base : Heap}
theorem ok_small {f fT fP : Addr} {fd fdT fdP : FuncData} {k : Nat} (F : Fun K "_law_small_prime" "_law_small_prime" s__law_small_prime f fd) (T : Blt mg) (D__law_take : Df K mg "_law_take" s__law_take P__law_take fT fdT) (D__law_pick : Df K mg "_law_pick" s__law_pick P__law_pick fP fdP) : FnOk P w K mg base CX0 (k + 3) f fd P__law_small_prime (spSP K) := by
  have G__law_pick : FnOk P w K mg base CX0 (k + 2) fP fdP P__law_pick (spPick K) := ok_pick D__law_pick.F T D__law_take
  have nd := sc__law_small_prime.nd
  refine F.ok sc__law_small_prime (fun vs H Q E h => ?_) (fun cdv A outer s H vs Q E hr h => ?_)
  · obtain ⟨b, a, n, rfl, _⟩ := h
    rfl
  · obtain ⟨b, a, n, rfl, hb, hn, hL, hne, q⟩ := h
    refine ⟨_, (pss_cons (ps_set (i := 2) nd rfl (Or.inl rfl) (pe_lst (pa_cons (pe_call G__law_pick (hr.mono (by omega)) (by rfl) D__law_pick.g D__law_pick.F.kp D__law_pick.b .nil pass0 (pa_cons (pv 0) (pa_cons (pe_slice (r := rSlL K) sl_list (pv 1) po_none (po_some (pe_int))) pa_nil))) (pa_cons (pe_call G__law_pick (hr.mono (by omega)) (by rfl) D__law_pick.g D__law_pick.F.kp D__law_pick.b .nil pass0 (pa_cons (pv 0) (pa_cons (pv 1) pa_nil))) (pa_cons (pe_call G__law_pick (hr.mono (by omega)) (by rfl) D__law_pick.g D__law_pick.F.kp D__law_pick.b .nil pass0 (pa_cons (pv 0) (pa_cons (pv 1) pa_nil))) (pa_cons (pe_int) (pa_cons (pe_int) (pa_cons (pe_int) pa_nil))))))))
      (pss_one (ps_ret (pe_call G__law_pick (hr.mono (by omega)) (by rfl) D__law_pick.g D__law_pick.F.kp D__law_pick.b .nil pass0 (pa_cons (pv 0) (pa_cons (pv 2) pa_nil)))))), ?_⟩
    have hlp : 0 < ((prs 10000).map V.int).length := by
      rw [List.length_map]
      exact prs_pos (by decide)
    have hlt : (((prs 10000).map V.int).length : Int) < 1048576 := by
      rw [List.length_map]
      have := prs_len 10000
      omega
    have hlp' : 0 < (((prs 10000).map V.int).length : Int) := by omega
    obtain ⟨cp, cm⟩ := cut12 hlp
    have hcl := cutV_length ((prs 10000).map V.int) none (some 12)
    have hal : ∀ v ∈ (prs 10000).map V.int, ∃ c, v = .int c ∧ c ∈ prs 10000 := fun v hv => by
      obtain ⟨c, hc, e⟩ := int_mem hv
      exact ⟨c, e, hc⟩
    generalize hps : ((prs 10000).map V.int) = ps at *
    clear hps
    walk_at "ev"
    intro p hp
    generalize hG : upd _ p _ = H1
    obtain ⟨sm1, hp1⟩ := newO hG hp
    have np := hb.ne hp
    have b1 := hb.same sm1
    have hL1 : SqL K H1 p _ := SqL.of hp1
    have hLa := sm1.seq hL
    have c0 : 0 < ((cutV ps none (some 12)).length : Int) := by omega
    have c1 : ((cutV ps none (some 12)).length : Int) < 1048576 := by omega
    generalize cutV ps none (some 12) = cs at *
    clear hG
    walk_at "ev"
    intro v2 H2 hv2 k2 b2
    have hL2 := k2.seq hne hLa
    walk_at "ev"
    intro v3 H3 hv3 k3 b3
    have hL3 := k3.seq hne hL2
    walk_at "ev"
    intro v4 H4 hv4 k4 b4
    walk_at "ev"
    intro p5 hp5
    generalize hG : upd _ p5 _ = H5
    obtain ⟨sm5, hq5⟩ := newO hG hp5
    have n5 := b4.ne hp5
    have b5 := b4.same sm5
    have hL5 := SqL.of (K := K) hq5
    walk_at "ev"
    intro v H6 hv k6 b6
    have kk : Keep b H H6 := (keepS sm1).trans (k2.trans (k3.trans (k4.trans ((keepS sm5).trans k6))))
    have fin : ∃ c, v = .int c ∧ c ∈ prs 10000 := by
      simp only [List.mem_cons, List.not_mem_nil, or_false] at hv
      rcases hv with h | h | h | h | h | h <;> rw [h]
      · exact hal _ (cm _ hv2)
      · exact hal _ hv3
      · exact hal _ hv4
      · exact ⟨_, rfl, in_9973⟩
      · exact ⟨_, rfl, in_two⟩
      · exact ⟨_, rfl, in_7681⟩
    obtain ⟨c, rfl, hc⟩ := fin
    exact q _ _ hc kk (b6.mono (by omega))
end
abbrev s_is_whole : Stmt := top 7
abbrev N_is_whole : List Str := ["thing"]
abbrev P_is_whole : List Str := ["thing"]
theorem sc_is_whole : FnScope N_is_whole P_is_whole (defScope s_is_whole) := ⟨rfl, rfl, rfl, by decide +kernel, rfl, by decide +kernel, by decide +kernel⟩
def spWhole (K : PySem.W.Frag) : Sp := fun vs H Q _ => ∃ (x : V) (t : String), vs = [x] ∧ Kd K H x t ∧ Q (.bl (t == "int")) H
section
variable {P : Program} {w : World} {K : PySem.W.Frag} {mg : Str → Option Value} {base : Heap}
theorem ok_whole {f : Addr} {fd : FuncData} {k : Nat} (F : Fun K "is_whole" "is_whole" s_is_whole f fd) (T : Blt mg) : FnOk P w K mg base CX0 (k + 1) f fd P_is_whole (spWhole K) := by
  have nd := sc_is_whole.nd
  refine F.ok sc_is_whole (fun vs H Q E h => ?_) (fun cdv A outer s H vs Q E hr h => ?_)
  · obtain ⟨x, t, rfl, _⟩ := h
    rfl
  · obtain ⟨x, t, rfl, kd, q⟩ := h
    refine ⟨_, (pss_one (ps_ret (pe_and (pe_callB (r := rIsi K) call_isi (by rfl) T.b_isinstance (by decide +kernel) (pa_cons (pv 0) (pa_cons (pe_bltn (v := .ty "int") (by rfl) T.b_int (by decide +kernel) rfl) pa_nil))) (pe_one (pe_not (pe_callB (r := rIsi K) call_isi (by rfl) T.b_isinstance (by decide +kernel) (pa_cons (pv 0) (pa_cons (pe_bltn (v := .ty "bool") (by rfl) T.b_bool (by decide +kernel) rfl) pa_nil)))))))), ?_⟩
    have ty := kd.ty
    obtain ⟨k1, k2, k3, k4, k5⟩ := kd.kit
    walk_at "ev"
    cases kd
    all_goals (walk_at "ev"; exact q)
end
abbrev s_is_prime : Stmt := top 8
abbrev N_is_prime : List Str := ["thing"]
abbrev P_is_prime : List Str := ["thing"]
theorem sc_is_prime : FnScope N_is_prime P_is_prime (defScope s_is_prime) := ⟨rfl, rfl, rfl, by decide +kernel, rfl, by decide +kernel, by decide +kernel⟩
def spPrime (K : PySem.W.Frag) : Sp := fun vs H Q _ => ∃ (x : V) (t : String), vs = [x] ∧ Kd K H x t ∧ (∀ n, x = .int n → n ≤ 1000000000) ∧ ∀ b H', Same H H' → (b = true ↔ ∃ n, x = .int n ∧ Fac n [n]) → Q (.bl b) H'
section
variable {P : Program} {w : World} {K : PySem.W.Frag} {mg : Str → Option Value} {base : Heap}
theorem ok_prime {f fW fF : Addr} {fd fdW fdF : FuncData} {k : Nat} (F : Fun K "is_prime" "is_prime" s_is_prime f fd) (T : Blt mg) (D_is_whole : Df K mg "is_whole" s_is_whole P_is_whole fW fdW) (D_factors : Df K mg "factors" s_factors P_factors fF fdF) : FnOk P w K mg base CX0 (k + 2) f fd P_is_prime (spPrime K) := by
  have G_is_whole : FnOk P w K mg base CX0 (k + 1) fW fdW P_is_whole (spWhole K) := ok_whole D_is_whole.F T
  have G_factors : FnOk P w K mg base CX0 (k + 1) fF fdF P_factors spFactors := ok_factors D_factors.F
  have nd := sc_is_prime.nd
  refine F.ok sc_is_prime (fun vs H Q E h => ?_) (fun cdv A outer s H vs Q E hr h => ?_)
  · obtain ⟨x, t, rfl, _⟩ := h
    rfl
  · obtain ⟨x, t, rfl, kd, hb, q⟩ := h
    refine ⟨_, (pss_one (ps_ret (pe_and (pe_call G_is_whole (hr.mono (by omega)) (by rfl) D_is_whole.g D_is_whole.F.kp D_is_whole.b .nil pass0 (pa_cons (pv 0) pa_nil)) (pe_and (pe_cmpR op_gt (pv 0) (pe_int) (nomark _)) (pe_one (pe_cmpR (r := rEqD K) (op_eqD hr.units) (pe_call G_factors (hr.mono (by omega)) (by rfl) D_factors.g D_factors.F.kp D_factors.b .nil pass0 (pa_cons (pv 0) pa_nil)) (pe_lst (pa_cons (pv 0) pa_nil)) (nomark _))))))), ?_⟩
    walk_at "ev"
    cases kd with
    | int n =>
      have hn := hb n rfl
      walk_at "ev"
      refine ite2 (fun e => ?_) (fun e => ?_)
      · have e1 : 1 < n := of_decide_eq_true e
        walk_at "ev"
        intro xs p H' hf hp sm hp'
        walk_at "ev"
        intro p2 hp2
        generalize hG : upd _ p2 _ = H2
        obtain ⟨sm2, hp3⟩ := newO hG hp2
        refine eqd_ints (ns := xs) (ms := [n]) (SqL.of (sm2 _ _ hp')) (SqL.of hp3) ?_
        refine q _ _ (sm.trans sm2) ?_
        rw [decide_eq_true_iff]
        constructor
        · intro z
          exact ⟨n, rfl, z ▸ hf⟩
        · rintro ⟨m, z, hm⟩
          cases z
          exact hf.uniq hm
      · have e1 : ¬ 1 < n := fun z => e (decide_eq_true z)
        refine q _ _ (Same.refl _) ⟨fun z => Bool.noConfusion z, ?_⟩
        rintro ⟨m, z, hm⟩
        cases z
        have := (Rough.of_fac hm).1
        omega
    | _ =>
      walk_at "ev"
      refine q _ _ (Same.refl _) ⟨fun z => Bool.noConfusion z, ?_⟩
      rintro ⟨m, z, hm⟩
      cases z
end
/-! ### the refusals' own making -/
abbrev s_init : Stmt := inClass (top 2) 0
abbrev N_init : List Str := ["self", "what"]
theorem sc_init : FnScope N_init N_init (defScope s_init) := ⟨rfl, rfl, rfl, by decide +kernel, rfl, by decide +kernel, by decide +kernel⟩
def spInit (K : PySem.W.Frag) : Sp := fun vs H Q _ => ∃ (a C : Addr) (v : V), vs = [.ref a, v] ∧ OexC K C ∧ PySem.W.findIn K (.ref C) "what" = some none ∧ H a = some (exo a C none) ∧
  ∀ dx, H dx = none → dx ≠ a → Q .non (upd (upd H dx (exd dx [(("what" : Str), v)])) a (exo a C (some dx)))
section
variable {P : Program} {w : World} {K : PySem.W.Frag} {mg : Str → Option Value} {base : Heap}
theorem ok_init {f : Addr} {fd : FuncData} {k : Nat} (F : Fun K "__init__" "TurnError.__init__" s_init f fd) : FnOk P w K mg base CX0 (k + 1) f fd N_init (spInit K) := by
  refine F.ok sc_init (fun vs H Q E h => ?_) (fun cdv A outer s H vs Q E hr h => ?_)
  · obtain ⟨a, C, v, rfl, _⟩ := h
    rfl
  · obtain ⟨a, C, v, rfl, T, nw, ha, q⟩ := h
    refine ⟨_, pss_one (ps_ost (pv 0) (pv 1)), ?_⟩
    exact ⟨_, rfl, _, rfl, a, C, rfl, T, nw, .inl ⟨ha, q⟩⟩
end
/-- C(v), made to be raised -/
theorem mk_what {K : PySem.W.Frag} {C : Addr} {v : V} {Q : XK} {H1 : Hp} (E : ExK K C) (h : ∀ d H', H1 d = none → Same H1 H' → H' d = some (.xd [(("what" : Str), v)]) → Q (.ref C) (some d) H') : ∀ a, H1 a = none → spInit K (.ref a :: ([v] ++ [])) (upd H1 a (exo a C none))
    (fun v' H2 => v' = .non ∧ ∃ (d : Addr) (fs : List (Str × V)), H2 a = some (exo a C (some d)) ∧ H2 d = some (exd d fs) ∧ H1 d = none ∧ Q (.ref C) (some d) (upd (del H2 a) d (.xd fs))) (fun _ _ _ => False) := by
  intro a ha
  refine ⟨a, C, v, rfl, E.oex, E.nw, upd_same, fun dx hd ne => ?_⟩
  rw [upd_ne ne] at hd
  refine ⟨rfl, dx, _, upd_same, ?_, hd, h dx _ hd (fun b o e => ?_) upd_same⟩
  · rw [upd_ne ne, upd_same]
  · have n1 := ne_of_none e hd
    have n2 := ne_of_none e ha
    rw [upd_ne n1, del_ne n2, upd_ne n2, upd_ne n1, upd_ne n2]
    exact e
/-- what is told of the class of a refusal, under TurnError at CT -/
structure Ref (K : PySem.W.Frag) (CT C fI : Addr) : Prop where
  ek : ExK K C
  ini : PySem.W.findIn K (.ref C) "__init__" = some (some (.ref fI))
  em : PySem.W.exmOne K (.ref C) (.ref CT) = some true
  kv : PySem.W.kitOne K (.ref C) (.type "ValueError") = some true
  kt : PySem.W.kitOne K (.ref C) (.ref CT) = some true
/-! ### divisors in common -/
theorem gcd_step {a b : Int} (ha : 0 ≤ a) (hb : 0 ≤ b) : Int.gcd b (a % b) = Int.gcd a b := by
  obtain ⟨m, rfl⟩ := Int.eq_ofNat_of_zero_le ha
  obtain ⟨n, rfl⟩ := Int.eq_ofNat_of_zero_le hb
  have e : ((m : Int) % (n : Int)).natAbs = m % n := by rw [← Int.natCast_emod]; rfl
  show Nat.gcd n ((m : Int) % (n : Int)).natAbs = Nat.gcd m n
  rw [e, Nat.gcd_comm n, ← Nat.gcd_rec, Nat.gcd_comm]
theorem emod_half {a b : Int} (hb : 0 < b) (h : b ≤ a) : 2 * (a % b) ≤ a := by
  have h1 := Int.emod_lt_of_pos a hb
  have h2 : a % b + b * (a / b) = a := Int.emod_add_mul_ediv a b
  have h3 : 1 ≤ a / b := (Int.le_ediv_iff_mul_le hb).mpr (by omega)
  have h4 : b * 1 ≤ b * (a / b) := Int.mul_le_mul_of_nonneg_left h3 (by omega)
  omega
/-- a product has the rest 1: no divisor in common -/
theorem gcd_of_inv {n x m : Int} (h : n * x % m = 1) : Int.gcd n m = 1 := by
  have h1 : ((Int.gcd n m : Nat) : Int) ∣ n * x := Int.dvd_mul_of_dvd_left (Int.gcd_dvd_left n m)
  have h2 : ((Int.gcd n m : Nat) : Int) ∣ m * (n * x / m) := Int.dvd_mul_of_dvd_left (Int.gcd_dvd_right n m)
  have h3 : n * x % m + m * (n * x / m) = n * x := Int.emod_add_mul_ediv _ _
  have h4 : ((Int.gcd n m : Nat) : Int) ∣ 1 := by
    have : (1 : Int) = n * x - m * (n * x / m) := by omega
    rw [this]
    exact Int.dvd_sub h1 h2
  have h5 := Int.le_of_dvd (by decide) h4
  have h6 : Int.gcd n m ≠ 0 := by
    intro z
    rw [z] at h4
    exact absurd (Int.zero_dvd.mp h4) (by decide)
  omega
/-! ### the ground of rests -/
abbrev restF (p g : Int) : List (Str × V) := [(("prime" : Str), .int p), (("base" : Str), .int g)]
def RestAt (C : Addr) (H : Hp) (a : Addr) (p : Int) : Prop := ∃ dx g, H a = some (.ins C dx (restF p g)) ∧ ∃ out, IsPf (p - 1) out ∧ LeastGen p g (erl p out)
theorem RestAt.same {C : Addr} {H H' : Hp} {a : Addr} {p : Int} (h : RestAt C H a p) (e : Same H H') : RestAt C H' a p := by
  obtain ⟨dx, g, h1, h2⟩ := h
  exact ⟨dx, g, e _ _ h1, h2⟩
theorem RestAt.keep {C b : Addr} {H H' : Hp} {a : Addr} {p : Int} (h : RestAt C H a p) (n : a ≠ b) (e : Keep b H H') : RestAt C H' a p := by
  obtain ⟨dx, g, h1, h2⟩ := h
  exact ⟨dx, g, e _ _ n h1, h2⟩
theorem RestAt.some {C : Addr} {H : Hp} {a : Addr} {p : Int} (h : RestAt C H a p) : ∃ o, H a = some o := by
  obtain ⟨dx, g, h1, h2⟩ := h
  exact ⟨_, h1⟩
abbrev s_Rests___init__ : Stmt := inClass (top 14) 0
abbrev N_Rests___init__ : List Str := ["self", "prime"]
abbrev P_Rests___init__ : List Str := ["self", "prime"]
theorem sc_Rests___init__ : FnScope N_Rests___init__ P_Rests___init__ (defScope s_Rests___init__) := ⟨rfl, rfl, rfl, by decide +kernel, rfl, by decide +kernel, by decide +kernel⟩
/-- Rests(v): a new one of each prime to ten thousand; BadGround of all else -/
def spRI (K : PySem.W.Frag) (C CB : Addr) : Sp := fun vs H Q E => ∃ (a dx : Addr) (v : V) (t : String), vs = [.ref a, v] ∧ H a = some (.ins C dx []) ∧ Kd K H v t ∧
  (∀ p, v = .int p → p ∈ prs 10000 → ∀ H', Keep a H H' → RestAt C H' a p → Q .non H') ∧
  ((¬ ∃ p, v = .int p ∧ p ∈ prs 10000) → ∀ d H', H d = none → Same H H' → H' d = some (.xd [(("what" : Str), v)]) → E (.ref CB) (some d) H')
structure RestC (K : PySem.W.Frag) (C : Addr) : Prop where
  cl : L2.Cls K C
  np : NoAttr K C "prime"
  nb : NoAttr K C "base"
section
variable {P : Program} {w : World} {K : PySem.W.Frag} {mg : Str → Option Value} {base : Heap}
theorem ok_ri {f f1 f2 f3 f4 f5 fI C CB CT : Addr} {fd d1 d2 d3 d4 d5 fdI : FuncData} {k : Nat} {tM : Tok} (F : Fun K "__init__" "Rests.__init__" s_Rests___init__ f fd) (T : Blt mg) (RC : RestC K C) (D_is_whole : Df K mg "is_whole" s_is_whole P_is_whole f1 d1) (D_factors : Df K mg "factors" s_factors P_factors f2 d2) (D_is_prime : Df K mg "is_prime" s_is_prime P_is_prime f3 d3)
    (D_power_rest : Df K mg "power_rest" s_power_rest P_power_rest f4 d4) (D_generator : Df K mg "generator" s_generator P_generator f5 d5) (M_MOST_PRIME : mg "MOST_PRIME" = some (.int 10000 tM)) (FI : Fun K "__init__" "TurnError.__init__" s_init fI fdI) (I_b : Binds K fdI N_init []) (I_ty : PySem.W.typeIn K (.ref fI) = some (.type "function"))
    (R : Ref K CT CB fI) (M_BadGround : mg "BadGround" = some (.ref CB)) : FnOk P w K mg base (L2.CX P w) (k + 3) f fd P_Rests___init__ (spRI K C CB) := by
  have G_is_whole : FnOk P w K mg base CX0 (k + 1) f1 d1 P_is_whole (spWhole K) := ok_whole D_is_whole.F T
  have G_is_prime : FnOk P w K mg base CX0 (k + 2) f3 d3 P_is_prime (spPrime K) := ok_prime D_is_prime.F T D_is_whole D_factors
  have G_generator : FnOk P w K mg base CX0 (k + 2) f5 d5 P_generator spGen := ok_generator D_generator.F T D_factors D_power_rest
  have G_init : FnOk P w K mg base CX0 1 fI fdI N_init (spInit K) := ok_init FI
  have EK_BadGround := R.ek
  have II_BadGround := R.ini
  have nd := sc_Rests___init__.nd
  refine F.okX sc_Rests___init__ (fun vs H Q E h => ?_) (fun cdv A outer s H vs Q E hr h => ?_)
  · obtain ⟨a, dx, v, t, rfl, _⟩ := h
    rfl
  · obtain ⟨a, dx, v, t, rfl, ha, kd, qy, qn⟩ := h
    refine ⟨_, (pss_cons (ps_if (PW.pt (pw_or (pt_not (pt_val (pe_call G_is_whole (hr.mono (by omega)) (by rfl) D_is_whole.g D_is_whole.F.kp D_is_whole.b .nil pass0 (pa_cons (pv 1) pa_nil)))) (pw_or (pt_cmpR op_gt (pv 1) (pe_glob (v := .int 10000) (by rfl) M_MOST_PRIME ⟨_, rfl⟩) (nomark _)) (pw_or1 (pt_not (pt_val (pe_call G_is_prime (hr.mono (by omega)) (by rfl) D_is_prime.g D_is_prime.F.kp D_is_prime.b .nil pass0 (pa_cons (pv 1) pa_nil)))))))) (pss_one (ps_raise rfl (takes_of rfl rfl rfl rfl) (pmk_oex EK_BadGround.oex II_BadGround I_ty G_init (hr.mono (by omega)) I_b .nil pass0 (by rfl) M_BadGround (pa_cons (pv 1) pa_nil)))) pss_nil)
      (pss_cons (ps_fld (pv 0) (pv 1) (by rfl))
      (pss_one (ps_fld (pv 0) (pe_call G_generator (hr.mono (by omega)) (by rfl) D_generator.g D_generator.F.kp D_generator.b .nil pass0 (pa_cons (pv 1) pa_nil)) (by rfl))))), ?_⟩
    obtain ⟨cl, np, nb⟩ := RC
    have bad : ∀ H1, Same H H1 → (¬ ∃ p, v = .int p ∧ p ∈ prs 10000) → ∀ z, H1 z = none → _ := fun H1 sm1 no => mk_what (v := v) (Q := E) R.ek fun d H2 hd sm2 hq => qn no d H2 (sm1.free hd) (sm1.trans sm2) hq
    walk_at "ev"
    cases kd with
    | int p =>
      walk_at "ev"
      refine ite2 (fun e => ?_) (fun e => ?_)
      · have e1 : 10000 < p := of_decide_eq_true e
        refine ⟨_, rfl, (by show 1 ≤ 1000; decide), bad _ (Same.refl _) ?_⟩
        rintro ⟨p', h1, h2⟩
        cases h1
        have := (prs_iff.mp h2).1
        omega
      · have e1 : ¬ 10000 < p := fun z => e (decide_eq_true z)
        have kdp : Kd K H (.int p) "int" := .int p
        have bnd : ∀ n, V.int p = .int n → n ≤ 1000000000 := fun n z => by
          cases z
          omega
        walk_at "ev"
        intro b H1 sm1 hb
        walk_at "ev"
        cases b with
        | false =>
          have no : ¬ ∃ q, V.int p = .int q ∧ q ∈ prs 10000 := by
            rintro ⟨p', h1, h2⟩
            cases h1
            exact Bool.noConfusion (hb.mpr ⟨p, rfl, (prs_iff.mp h2).2⟩)
          walk_at "ev"
          exact bad _ sm1 no
        | true =>
          obtain ⟨p', h1, h2⟩ := hb.mp rfl
          cases h1
          have hp : p ∈ prs 10000 := prs_iff.mpr ⟨by omega, h2⟩
          obtain ⟨p2, p6, fs, out, g0, hf, hso, hmo, hpf, g1, gp, gok⟩ := gen_prs hp
          have ha1 := sm1 _ _ ha
          walk_at "ev"
          generalize hG : upd H1 a _ = H2
          obtain ⟨k2, hq2⟩ := mutO hG
          clear hG
          walk_at "ev"
          intro g H3 sm3 hg
          have ha3 := sm3 _ _ hq2
          walk_at "ev"
          refine ⟨(by show 1 < 1000; decide), ?_⟩
          exact qy p rfl hp _ (((keepS sm1).trans (k2.trans (keepS sm3))).trans (keep_upd (Keep.refl _ _))) ⟨dx, g, upd_same, out, hpf, hg⟩
    | _ =>
      walk_at "ev"
      refine bad _ (Same.refl _) ?_
      rintro ⟨p', h1, h2⟩
      cases h1
end
theorem keep_fresh {b D : Addr} {H H' : Hp} {o : HO} (h : Keep b H H') (n : H D = none) : Keep b H (upd H' D o) := fun a u na e => by
  rw [upd_ne (ne_of_none e n)]
  exact h a u na e
theorem BoxAt.upd {H : Hp} {b D : Addr} {n : Int} {o : HO} (h : BoxAt H b n) (e : D ≠ b) : BoxAt (L2.upd H D o) b n := by
  obtain ⟨x, y, z, a1, a2⟩ := h
  exact ⟨x, y, z, by rw [upd_ne e.symm]; exact a1, a2⟩
theorem dpl {K : PySem.W.Frag} {H : Hp} {a : Addr} (ns : List Int) (h : SqL K H a (ns.map V.int)) : Dp K H (.ref a) (.list (ns.map PyData.int)) := .lst h (dp_ints ns)
theorem fitl (ns : List Int) (h : ns.length ≤ 4000) : Fit 1 (.list (ns.map PyData.int)) := by
  refine ⟨by rw [List.length_map]; exact h, fun e he => ?_⟩
  obtain ⟨c, _, rfl⟩ := List.mem_map.mp he
  exact True.intro
theorem fit_ni {x : Str} {a : Int} : Fit 1 (.tuple [.str x, .int a]) := by
  refine ⟨by simp, fun e he => ?_⟩
  simp only [List.mem_cons, List.not_mem_nil, or_false] at he
  rcases he with h | h <;> rw [h] <;> exact True.intro
abbrev s_Rests_has_root : Stmt := inClass (top 14) 4
abbrev N_Rests_has_root : List Str := ["self", "length"]
abbrev P_Rests_has_root : List Str := ["self", "length"]
theorem sc_Rests_has_root : FnScope N_Rests_has_root P_Rests_has_root (defScope s_Rests_has_root) := ⟨rfl, rfl, rfl, by decide +kernel, rfl, by decide +kernel, by decide +kernel⟩
def sp_hasroot (C : Addr) : Sp := fun vs H Q _ => ∃ (a : Addr) (p l : Int), vs = [.ref a, .int l] ∧ RestAt C H a p ∧ 1 ≤ l ∧ l ≤ 1000000 ∧ Q (.bl (decide ((p - 1) % l = 0))) H
abbrev s_Rests_root_at : Stmt := inClass (top 14) 10
abbrev N_Rests_root_at : List Str := ["self", "length", "power"]
abbrev P_Rests_root_at : List Str := ["self", "length", "power"]
theorem sc_Rests_root_at : FnScope N_Rests_root_at P_Rests_root_at (defScope s_Rests_root_at) := ⟨rfl, rfl, rfl, by decide +kernel, rfl, by decide +kernel, by decide +kernel⟩
/-- root_at: the power of the least generator; NoRoot -/
def sp_rootat (C CR : Addr) : Sp := fun vs H Q E => ∃ (a : Addr) (p l e : Int), vs = [.ref a, .int l, .int e] ∧ RestAt C H a p ∧ p ∈ prs 10000 ∧ 1 ≤ l ∧ l ≤ 1000000 ∧
  ((p - 1) % l = 0 → ∀ g out, IsPf (p - 1) out → LeastGen p g (erl p out) → Q (.int (g ^ ((p - 1) / l * (e % l)).toNat % p)) H) ∧
  (¬ (p - 1) % l = 0 → ∀ d H', H d = none → Same H H' → H' d = some (.xd [(("what" : Str), .int l)]) → E (.ref CR) (some d) H')
section
variable {P : Program} {w : World} {K : PySem.W.Frag} {mg : Str → Option Value} {base : Heap}
theorem ok_hasroot {f C : Addr} {fd : FuncData} {k : Nat} (F : Fun K "has_root" "Rests.has_root" s_Rests_has_root f fd) (RC : RestC K C) : FnOk P w K mg base CX0 (k + 1) f fd P_Rests_has_root (sp_hasroot C) := by
  have nd := sc_Rests_has_root.nd
  refine F.ok sc_Rests_has_root (fun vs H Q E h => ?_) (fun cdv A outer s H vs Q E hr h => ?_)
  · obtain ⟨a, p, l, rfl, _⟩ := h
    rfl
  · obtain ⟨a, p, l, rfl, ⟨dx, g, ha, hg⟩, l1, l6, q⟩ := h
    refine ⟨_, (pss_one (ps_ret (pe_and (pe_cmpR op_gt (pv 1) (pe_int) (nomark _)) (pe_one (pe_cmpR op_eq (pe_op op_mod (pe_op op_sub (pe_fld (pv 0) (by rfl)) (pe_int)) (pv 1)) (pe_int) (nomark _)))))), ?_⟩
    obtain ⟨cl, np, nb⟩ := RC
    have c1 : decide ((0 : Int) < l) = true := decide_eq_true (by omega)
    walk_at "ev"
    refine iteTe c1 ?_
    walk_at "ev"
    have e : decide (V.int ((p - 1) % l) = V.int 0) = decide ((p - 1) % l = 0) := by
      exact decide_eq_decide.mpr ⟨fun h => V.int.inj h, fun h => congrArg V.int h⟩
    rw [e]
    exact q
theorem ok_rootat {f f1 f2 fI C CR CT : Addr} {fd d1 d2 fdI : FuncData} {k : Nat} (F : Fun K "root_at" "Rests.root_at" s_Rests_root_at f fd) (RC : RestC K C) (ME_Rests_has_root : Meth K C "has_root" f1) (B_Rests_has_root : Binds K d1 P_Rests_has_root []) (F1 : Fun K "has_root" "Rests.has_root" s_Rests_has_root f1 d1) (D_power_rest : Df K mg "power_rest" s_power_rest P_power_rest f2 d2)
    (FI : Fun K "__init__" "TurnError.__init__" s_init fI fdI) (I_b : Binds K fdI N_init []) (I_ty : PySem.W.typeIn K (.ref fI) = some (.type "function")) (R : Ref K CT CR fI) (M_NoRoot : mg "NoRoot" = some (.ref CR)) : FnOk P w K mg base (L2.CX P w) (k + 3) f fd P_Rests_root_at (sp_rootat C CR) := by
  have G_init : FnOk P w K mg base CX0 1 fI fdI N_init (spInit K) := ok_init FI
  have G_Rests_has_root : FnOk P w K mg base CX0 1 f1 d1 P_Rests_has_root (sp_hasroot C) := ok_hasroot F1 RC
  have G_power_rest : FnOk P w K mg base CX0 1 f2 d2 P_power_rest spPow := ok_power D_power_rest.F
  have EK_NoRoot := R.ek
  have II_NoRoot := R.ini
  have CL_Rests := RC.cl
  have nd := sc_Rests_root_at.nd
  refine F.okX sc_Rests_root_at (fun vs H Q E h => ?_) (fun cdv A outer s H vs Q E hr h => ?_)
  · obtain ⟨a, p, l, e, rfl, _⟩ := h
    rfl
  · obtain ⟨a, p, l, e, rfl, hR, hp, l1, l6, qy, qn⟩ := h
    obtain ⟨dx, g, ha, out, hpf, hlg⟩ := id hR
    refine ⟨_, (pss_cons (ps_if (pt_not (pt_val (pe_meth (pv 0) CL_Rests ME_Rests_has_root G_Rests_has_root (hr.mono (by omega)) B_Rests_has_root .nil pass0 (pa_cons (pv 1) pa_nil)))) (pss_one (ps_raise rfl (takes_of rfl rfl rfl rfl) (pmk_oex EK_NoRoot.oex II_NoRoot I_ty G_init (hr.mono (by omega)) I_b .nil pass0 (by rfl) M_NoRoot (pa_cons (pv 1) pa_nil)))) pss_nil)
      (pss_one (ps_ret (pe_call G_power_rest (hr.mono (by omega)) (by rfl) D_power_rest.g D_power_rest.F.kp D_power_rest.b .nil pass0 (pa_cons (pe_fld (pv 0) (by rfl)) (pa_cons (pe_op op_mul (pe_op op_fdiv (pe_op op_sub (pe_fld (pv 0) (by rfl)) (pe_int)) (pv 1)) (pe_op op_mod (pv 2) (pv 1))) (pa_cons (pe_fld (pv 0) (by rfl)) pa_nil))))))), ?_⟩
    obtain ⟨cl, np, nb⟩ := RC
    obtain ⟨p6, hfp⟩ := prs_iff.mp hp
    obtain ⟨p2, pr⟩ := Rough.of_fac hfp
    walk_at "ev"
    by_cases c : (p - 1) % l = 0
    · rw [decide_eq_true c]
      have m0 := Int.emod_nonneg e (show l ≠ 0 by omega)
      have m1 := Int.emod_lt_of_pos e (show 0 < l by omega)
      have q0 : 0 ≤ (p - 1) / l := Int.ediv_nonneg (by omega) (by omega)
      have cm : CMul ((p - 1) / l) (e % l) := .inr ⟨by omega, by omega⟩
      have ce : 0 ≤ (p - 1) / l * (e % l) := Int.mul_nonneg q0 m0
      walk_at "ev"
      exact qy c g out hpf hlg
    · rw [decide_eq_false c]
      walk_at "ev"
      exact mk_what R.ek fun d H' hd sm hq => qn c d H' hd sm hq
end
local macro_rules | `(tactic| walk_at "ev1") => `(tactic| ((first | with_reducible show ClsV _ _ | with_reducible show Paired ClsV _ _); first | exact ClsV.own _ | exact ClsV.ty _ | exact .cons (.own _) (.cons (.own _) .nil) | exact .cons (.own _) (.cons (.own _) (.cons (.own _) .nil))))
abbrev s__law_root : Stmt := top 23
abbrev N__law_root : List Str := ["_law_ground", "_law_length", "_law_power", "_law_found", "_law_caught", "error"]
abbrev P__law_root : List Str := ["_law_ground", "_law_length", "_law_power"]
theorem sc__law_root : FnScope N__law_root P__law_root (defScope s__law_root) := ⟨rfl, rfl, rfl, by decide +kernel, rfl, by decide +kernel, by decide +kernel⟩
def spRoot (K : PySem.W.Frag) (C : Addr) : Sp := fun vs H Q _ => ∃ (a : Addr) (p l e : Int), vs = [.ref a, .int l, .int e] ∧ RestAt C H a p ∧ p ∈ prs 10000 ∧ 1 ≤ l ∧ l ≤ 1000000 ∧
  ((p - 1) % l = 0 → ∀ g out H', IsPf (p - 1) out → LeastGen p g (erl p out) → Same H H' → Q (.int (g ^ ((p - 1) / l * (e % l)).toNat % p)) H') ∧ (¬ (p - 1) % l = 0 → ∀ t H', Same H H' → SqT K H' t [.str "none", .int l] → Q (.ref t) H')
section
variable {P : Program} {w : World} {K : PySem.W.Frag} {mg : Str → Option Value} {base : Heap}
theorem ok_root {f f1 C CT CR CB CS fI : Addr} {fd d1 : FuncData} {k : Nat} (F : Fun K "_law_root" "_law_root" s__law_root f fd) (T : Blt mg) (CL_Rests : L2.Cls K C) (ME_Rests_root_at : Meth K C "root_at" f1) (B_Rests_root_at : Binds K d1 P_Rests_root_at [])
    (G_Rests_root_at : FnOk P w K mg base (L2.CX P w) (k + 3) f1 d1 P_Rests_root_at (sp_rootat C CR)) (R : Ref K CT CR fI) (M_NoShare : mg "NoShare" = some (.ref CS)) (M_TurnError : mg "TurnError" = some (.ref CT)) (M_BadGround : mg "BadGround" = some (.ref CB)) (M_NoRoot : mg "NoRoot" = some (.ref CR))
    (k1 : PySem.W.kitOne K (.ref CR) (.ref CR) = some true) (k2 : PySem.W.kitAny K (.ref CR) [.ref CB, .ref CS] = some false) : FnOk P w K mg base CX0 (k + 4) f fd P__law_root (spRoot K C) := by
  have nd := sc__law_root.nd
  refine F.ok sc__law_root (fun vs H Q E h => ?_) (fun cdv A outer s H vs Q E hr h => ?_)
  · obtain ⟨a, p, l, e, rfl, _⟩ := h
    rfl
  · obtain ⟨a, p, l, e, rfl, hR, hp, l1, l6, qy, qn⟩ := h
    refine ⟨_, (pss_cons (ps_asg (pe_tup (pa_cons (pe_non) (pa_cons (pe_non) pa_nil))) (pg_tup (by rfl) (pgs_cons (pg_name (i := 3) nd rfl (Or.inl rfl)) (pgs_cons (pg_name (i := 4) nd rfl (Or.inl rfl)) pgs_nil))))
      (pss_cons (ps_try_keep (i := 5) (Wout := fun _ _ _ _ => False) rfl rfl rfl nd rfl rfl ⟨by rfl, by decide, Or.inl M_TurnError⟩ takes0 (fun W pn xe tk _ => (pss_one (ps_set (i := 3) nd rfl (Or.inl rfl) (pe_methS (pv 0) CL_Rests ME_Rests_root_at G_Rests_root_at (hr.mono (by omega)) B_Rests_root_at (fun σ => passAt tk σ) (pa_cons (pv 1) (pa_cons (pv 2) pa_nil)))))) (fun a pn => (pss_one (ps_set (i := 4) nd rfl (Or.inl rfl) (pv 5)))))
      (pss_cons (ps_if (pt_cmpR op_isN (pv 4) (pe_non) (nomark _)) (pss_one (ps_ret (pv 3))) pss_nil)
      (pss_cons (ps_if (PW.pt (pw_or (pt_not (pt_val (pe_callB (r := rIsX K) call_isX (by rfl) T.b_isinstance (by decide +kernel) (pa_cons (pv 4) (pa_cons (pe_bltn (v := .ty "ValueError") (by rfl) T.b_ValueError (by decide +kernel) rfl) pa_nil))))) (pw_or1 (pt_val (pe_callB (r := rIsXT K) call_isXT (by rfl) T.b_isinstance (by decide +kernel) (pa_cons (pv 4) (pa_cons (pe_tup (pa_cons (pe_glob (v := .ref _) (by rfl) M_BadGround rfl) (pa_cons (pe_glob (v := .ref _) (by rfl) M_NoShare rfl) pa_nil))) pa_nil))))))) (pss_one (ps_ret (pe_str))) pss_nil)
      (pss_one (ps_ret (pe_ifExp (pt_val (pe_callB (r := rIsX K) call_isX (by rfl) T.b_isinstance (by decide +kernel) (pa_cons (pv 4) (pa_cons (pe_glob (v := .ref _) (by rfl) M_NoRoot rfl) pa_nil)))) (pe_tup (pa_cons (pe_str) (pa_cons (pe_xw (pv 4)) pa_nil))) (pe_str)))))))), ?_⟩
    walk_at "ev"
    intro tp htp
    generalize hG : upd _ tp _ = H1
    obtain ⟨sm1, hq1⟩ := newO hG htp
    have hT1 : SqT K H1 tp [.non, .non] := SqT.of hq1
    clear hG hq1
    have hR1 := hR.same sm1
    obtain ⟨dx, g, ha1, hg1⟩ := id hR1
    walk_at "ev"
    refine ⟨fun c g out hpf hlg => ?_, fun c d H2 hd sm2 hq2 => ?_⟩
    · walk_at "ev"
      exact qy c g out _ hpf hlg sm1
    · refine ⟨true, R.em, fun _ => ⟨CR, d, rfl, rfl, fun z hz => ?_⟩, fun z => nomatch z⟩
      have sm3 : Same H2 (upd H2 z (XOb CR d z)) := same_new hz
      have hx3 : XAt (upd H2 z (XOb CR d z)) z CR [(("what" : Str), .int l)] := ⟨d, upd_same, sm3 _ _ hq2⟩
      have ek := R.ek
      have kv := R.kv
      have nw := R.ek.nw
      walk_at "ev"
      intro t4 ht4
      generalize hG : upd _ t4 _ = H4
      obtain ⟨sm4, hq4⟩ := newO hG ht4
      clear hG
      have hx4 := hx3.same sm4
      walk_at "ev"
      intro t5 ht5
      generalize hG : upd _ t5 _ = H5
      obtain ⟨sm5, hq5⟩ := newO hG ht5
      exact qn c t5 H5 (sm1.trans (sm2.trans (sm3.trans (sm4.trans sm5)))) (SqT.of hq5)
end
theorem LeastGen.uniq {p x y : Int} {es : List Int} (a : LeastGen p x es) (b : LeastGen p y es) : x = y := by
  obtain ⟨a1, a2, a3, a4⟩ := a
  obtain ⟨b1, b2, b3, b4⟩ := b
  rcases Int.lt_trichotomy x y with z | z | z
  · exact absurd a3 (b4 x a1 z)
  · exact z
  · exact absurd b3 (a4 y b1 z)
theorem pf_uniq {n : Int} {l m : List Int} (a : IsPf n l) (b : IsPf n m) : l = m := srt_ext a.1 b.1 fun k => (a.2 k).trans (b.2 k).symm
theorem pow_pow_mod {g p : Int} {a b : Int} (ha : 0 ≤ a) (hb : 0 ≤ b) : (g ^ a.toNat % p) ^ b.toNat % p = g ^ (a * b).toNat % p := by
  rw [emod_pow, ← Int.pow_mul]
  congr 2
  obtain ⟨m, rfl⟩ := Int.eq_ofNat_of_zero_le ha
  obtain ⟨n, rfl⟩ := Int.eq_ofNat_of_zero_le hb
  show m * n = ((m : Int) * (n : Int)).toNat
  rw [← Int.natCast_mul]
  rfl
/-- the roots of a length -/
def rts (p l g : Int) (n : Nat) : List Int := (List.range n).map fun (i : Nat) => g ^ ((p - 1) / l * ((i : Int) % l)).toNat % p
theorem rts_nodup {p l g : Int} {out : List Int} {n : Nat} (hp : Fac p [p]) (hpf : IsPf (p - 1) out) (hg : LeastGen p g (erl p out)) (hl : 1 ≤ l) (hd : (p - 1) % l = 0) (hn : (n : Int) ≤ l) : (rts p l g n).Nodup := by
  obtain ⟨g1, gp, gok, _⟩ := hg
  obtain ⟨p2, _⟩ := Rough.of_fac hp
  unfold rts
  rw [List.Nodup, List.pairwise_map]
  refine List.Pairwise.imp_of_mem (R := fun x y : Nat => x < y) (fun {x y} hx hy hxy => ?_) List.pairwise_lt_range
  have hx1 := List.mem_range.mp hx
  have hy1 := List.mem_range.mp hy
  have ex : (x : Int) % l = (x : Int) := Int.emod_eq_of_lt (by omega) (by omega)
  have ey : (y : Int) % l = (y : Int) := Int.emod_eq_of_lt (by omega) (by omega)
  rw [ex, ey]
  have hm : (p - 1) / l * l = p - 1 := Int.ediv_mul_cancel (Int.dvd_of_emod_eq_zero hd)
  have q1 : 1 ≤ (p - 1) / l := by
    apply Int.le_of_not_gt
    intro z
    have : (p - 1) / l * l ≤ 0 := Int.mul_nonpos_of_nonpos_of_nonneg (by omega) (by omega)
    omega
  have z1 : (x : Int) < (y : Int) := by omega
  have z2 : 0 < (p - 1) / l := by omega
  have z3 : (0 : Int) ≤ (x : Int) := by omega
  have z4 : (y : Int) < l := by omega
  refine gen_unlike hp hpf g1 gp gok (Int.mul_nonneg (Int.le_of_lt z2) z3) (Int.mul_lt_mul_of_pos_left z1 z2) ?_
  have : (p - 1) / l * (y : Int) < (p - 1) / l * l := Int.mul_lt_mul_of_pos_left z4 z2
  omega
theorem keep_mk {x dx C : Addr} {H H' : Hp} (hx : H x = none) (hd : H dx = none) (h : Keep x (upd (upd H dx (.own x)) x (.ins C dx [])) H') : Same H H' := fun b o e => by
  have n1 := ne_of_none e hx
  refine h b o n1 ?_
  rw [upd_ne n1, upd_ne (ne_of_none e hd)]
  exact e
theorem RestAt.ne {C : Addr} {H : Hp} {a b : Addr} {p n : Int} (h : RestAt C H a p) (e : BoxAt H b n) : a ≠ b := fun z => by
  obtain ⟨dx, g, h1, _⟩ := h
  obtain ⟨x, y, w, h2, _⟩ := e
  rw [z, h2] at h1
  cases h1
theorem at_nat {xs : List V} {v : V} {i : Int} {j : Nat} (h : xs[j]? = some v) (e : i = (j : Int)) : atI xs i = some v := at_of (j := j) (by omega) (by rw [← h])
abbrev s__law_length_right : Stmt := top 24
abbrev N__law_length_right : List Str := ["_law_box_here", "_law_ground", "_law_base", "_law_length", "_law_fine", "_law_power", "_law_due", "_law_told", "_law_at"]
abbrev P__law_length_right : List Str := ["_law_box_here", "_law_ground", "_law_base", "_law_length"]
theorem sc__law_length_right : FnScope N__law_length_right P__law_length_right (defScope s__law_length_right) := ⟨rfl, rfl, rfl, by decide +kernel, rfl, by decide +kernel, by decide +kernel⟩
def spLen (C : Addr) : Sp := fun vs H Q _ => ∃ (b a : Addr) (p l n : Int), vs = [.ref b, .ref a, .int p, .int l] ∧ BoxAt H b n ∧ n < 900000 ∧ RestAt C H a p ∧ a ≠ b ∧ p ∈ prs 10000 ∧ 1 ≤ l ∧ l ≤ 1000000 ∧ ∀ H', Keep b H H' → BoxAt H' b (n + 3) → Q (.bl true) H'
theorem fit_nn {x : Str} {a : Int} : Fit 2 (.list [.tuple [.str x, .int a], .tuple [.str x, .int a]]) := by
  refine ⟨by show 2 ≤ 4000; decide, fun e he => ?_⟩
  simp only [List.mem_cons, List.not_mem_nil, or_false, or_self] at he
  rw [he]
  exact fit_ni
theorem fit_ii2 {a b : Int} : Fit 2 (.list [.int a, .int b]) := by
  refine ⟨by show 2 ≤ 4000; decide, fun e he => ?_⟩
  simp only [List.mem_cons, List.not_mem_nil, or_false] at he
  rcases he with h | h <;> rw [h] <;> exact True.intro
section
variable {P : Program} {w : World} {K : PySem.W.Frag} {mg : Str → Option Value} {base : Heap}
theorem ok_len {f fT fP fS fR fG fF fW fQ g1 g2 C CR : Addr} {fd dT dP dS dR dG dF dW dQ e1 e2 : FuncData} {k : Nat} (F : Fun K "_law_length_right" "_law_length_right" s__law_length_right f fd) (T : Blt mg) (D__law_take : Df K mg "_law_take" s__law_take P__law_take fT dT) (D__law_pick : Df K mg "_law_pick" s__law_pick P__law_pick fP dP) (D__law_same : Df K mg "_law_same" s__law_same P__law_same fS dS)
    (D__law_root : Df K mg "_law_root" s__law_root P__law_root fR dR) (G__law_root : FnOk P w K mg base CX0 4 fR dR P__law_root (spRoot K C)) (D__law_pow : Df K mg "_law_pow" s__law_pow P__law_pow fW dW) (D_generator : Df K mg "generator" s_generator P_generator fG dG) (D_factors : Df K mg "factors" s_factors P_factors fF dF) (D_power_rest : Df K mg "power_rest" s_power_rest P_power_rest fQ dQ)
    (CL_Rests : L2.Cls K C) (ME_Rests_has_root : Meth K C "has_root" g1) (B_Rests_has_root : Binds K e1 P_Rests_has_root []) (G_Rests_has_root : FnOk P w K mg base CX0 1 g1 e1 P_Rests_has_root (sp_hasroot C)) (ME_Rests_root_at : Meth K C "root_at" g2) (B_Rests_root_at : Binds K e2 P_Rests_root_at []) (G_Rests_root_at : FnOk P w K mg base (L2.CX P w) 3 g2 e2 P_Rests_root_at (sp_rootat C CR)) :
    FnOk P w K mg base CX0 (k + 5) f fd P__law_length_right (spLen C) := by
  have G__law_take : FnOk P w K mg base CX0 1 fT dT P__law_take spTake := ok_take D__law_take.F
  have G__law_pick : FnOk P w K mg base CX0 2 fP dP P__law_pick (spPick K) := ok_pick D__law_pick.F T D__law_take
  have G__law_same : FnOk P w K mg base CX0 3 fS dS P__law_same (spSame K 2) := ok_same D__law_same T 2
  have G__law_pow : FnOk P w K mg base CX0 1 fW dW P__law_pow (spPowL 1048576) := ok_lawpow D__law_pow.F T
  have G_generator : FnOk P w K mg base CX0 2 fG dG P_generator spGen := ok_generator D_generator.F T D_factors D_power_rest
  have nd := sc__law_length_right.nd
  refine F.ok sc__law_length_right (fun vs H Q E h => ?_) (fun cdv A outer s H vs Q E hr h => ?_)
  · obtain ⟨b, a, p, l, n, rfl, _⟩ := h
    rfl
  · obtain ⟨b, a, p, l, n, rfl, hb, hn, hR, nab, hp, l1, l6, q⟩ := h
    refine ⟨_, (pss_cons (ps_set (i := 4) nd rfl (Or.inl rfl) (pe_cmpR op_eq (pe_op op_mod (pe_op op_sub (pv 2) (pe_int)) (pv 3)) (pe_int) (nomark _)))
      (pss_cons (ps_set (i := 5) nd rfl (Or.inl rfl) (pe_call G__law_pick (hr.mono (by omega)) (by rfl) D__law_pick.g D__law_pick.F.kp D__law_pick.b .nil pass0 (pa_cons (pv 0) (pa_cons (pe_lst (pa_cons (pe_int) (pa_cons (pe_int) (pa_cons (pe_un un_neg (pe_int)) (pa_cons (pv 3) (pa_cons (pe_op op_sub (pv 3) (pe_int)) (pa_cons (pe_call G__law_take (hr.mono (by omega)) (by rfl) D__law_take.g D__law_take.F.kp D__law_take.b .nil pass0 (pa_cons (pv 0) (pa_cons (pe_op op_pow (pe_int) (pe_int)) pa_nil))) (pa_cons (pe_op op_sub (pe_int) (pe_call G__law_take (hr.mono (by omega)) (by rfl) D__law_take.g D__law_take.F.kp D__law_take.b .nil pass0 (pa_cons (pv 0) (pa_cons (pe_op op_pow (pe_int) (pe_int)) pa_nil)))) pa_nil)))))))) pa_nil))))
      (pss_cons (ps_if (pt_not (pt_val (pe_call G__law_same (hr.mono (by omega)) (by rfl) D__law_same.g D__law_same.F.kp D__law_same.b .nil pass0 (pa_cons (pe_meth (pv 1) CL_Rests ME_Rests_has_root G_Rests_has_root (hr.mono (by omega)) B_Rests_has_root .nil pass0 (pa_cons (pv 3) pa_nil)) (pa_cons (pv 4) pa_nil))))) (pss_one (ps_ret (pe_bl))) pss_nil)
      (pss_cons (ps_if (pt_not (pt_val (pv 4))) (pss_one (ps_ret (pe_call G__law_same (hr.mono (by omega)) (by rfl) D__law_same.g D__law_same.F.kp D__law_same.b .nil pass0 (pa_cons (pe_lst (pa_cons (pe_call G__law_root (hr.mono (by omega)) (by rfl) D__law_root.g D__law_root.F.kp D__law_root.b .nil pass0 (pa_cons (pv 1) (pa_cons (pv 3) (pa_cons (pv 5) pa_nil)))) (pa_cons (pe_call G__law_root (hr.mono (by omega)) (by rfl) D__law_root.g D__law_root.F.kp D__law_root.b .nil pass0 (pa_cons (pv 1) (pa_cons (pv 3) (pa_cons (pe_int) pa_nil)))) pa_nil))) (pa_cons (pe_op op_rep (pe_lst (pa_cons (pe_tup (pa_cons (pe_str) (pa_cons (pv 3) pa_nil))) pa_nil)) (pe_int)) pa_nil))))) pss_nil)
      (pss_cons (ps_set (i := 6) nd rfl (Or.inl rfl) (pe_call G__law_pow (hr.mono (by omega)) (by rfl) D__law_pow.g D__law_pow.F.kp D__law_pow.b .nil pass0 (pa_cons (pe_call G__law_pow (hr.mono (by omega)) (by rfl) D__law_pow.g D__law_pow.F.kp D__law_pow.b .nil pass0 (pa_cons (pe_call G_generator (hr.mono (by omega)) (by rfl) D_generator.g D_generator.F.kp D_generator.b .nil pass0 (pa_cons (pv 2) pa_nil)) (pa_cons (pe_op op_fdiv (pe_op op_sub (pv 2) (pe_int)) (pv 3)) (pa_cons (pv 2) pa_nil)))) (pa_cons (pe_op op_mod (pv 5) (pv 3)) (pa_cons (pv 2) pa_nil)))))
      (pss_cons (ps_if (pt_not (pt_val (pe_call G__law_same (hr.mono (by omega)) (by rfl) D__law_same.g D__law_same.F.kp D__law_same.b .nil pass0 (pa_cons (pe_lst (pa_cons (pe_call G__law_root (hr.mono (by omega)) (by rfl) D__law_root.g D__law_root.F.kp D__law_root.b .nil pass0 (pa_cons (pv 1) (pa_cons (pv 3) (pa_cons (pv 5) pa_nil)))) (pa_cons (pe_call G__law_root (hr.mono (by omega)) (by rfl) D__law_root.g D__law_root.F.kp D__law_root.b .nil pass0 (pa_cons (pv 1) (pa_cons (pv 3) (pa_cons (pv 5) pa_nil)))) pa_nil))) (pa_cons (pe_lst (pa_cons (pv 6) (pa_cons (pv 6) pa_nil))) pa_nil))))) (pss_one (ps_ret (pe_bl))) pss_nil)
      (pss_cons (ps_setLc (i := 7) (own := [("_law_at", 8)]) (g := gName 8) (by rfl) nd rfl rfl (sw_true rfl rfl rfl (by decide +kernel)) (pi_range1 (by rfl) T.b_range (pa_cons (pe_callB (call_min2 rfl) (by rfl) T.b_min (by decide +kernel) (pa_cons (pv 3) (pa_cons (pe_int) pa_nil))) pa_nil)) (blkOk_by (own := [("_law_at", 8)]) (N := N__law_length_right) (sc := defScope s__law_length_right) (by decide +kernel)) (fun _ _ _ _ _ => (pg_name (i := 8) nd rfl (Or.inl rfl))) (fun _ _ _ _ _ => pts_nil) (fun _ _ _ _ _ => (pe_meth (pv 1) CL_Rests ME_Rests_root_at G_Rests_root_at (hr.mono (by omega)) B_Rests_root_at .nil passL (pa_cons (pv 3) (pa_cons (pv 8) pa_nil)))))
      (pss_one (ps_ret (pe_and (pe_cmpR op_eq (pe_lenSetI (by rfl) T.b_len (by rfl) T.b_set (pv 7)) (pe_callB (r := rLenQ K) call_len_seq (by rfl) T.b_len (by decide +kernel) (pa_cons (pv 7) pa_nil)) (nomark _)) (pe_and (pe_cmpR op_eq (pe_ix (r := rIxL K) ix_list (pv 7) (pe_int) (fun _ _ => rfl)) (pe_int) (nomark _)) (pe_one (pe_cmpR op_eq (pe_meth (pv 1) CL_Rests ME_Rests_root_at G_Rests_root_at (hr.mono (by omega)) B_Rests_root_at .nil passL (pa_cons (pv 3) (pa_cons (pv 3) pa_nil))) (pe_int) (nomark _)))))))))))))), ?_⟩
    obtain ⟨p6, hfp⟩ := prs_iff.mp hp
    obtain ⟨p2, pr⟩ := Rough.of_fac hfp
    have p0 : 0 ≤ p - 1 := by omega
    have ed : decide (V.int ((p - 1) % l) = V.int 0) = decide ((p - 1) % l = 0) := decide_eq_decide.mpr ⟨fun h => V.int.inj h, fun h => congrArg V.int h⟩
    walk_at "ev"
    rw [ed]
    have t9 : (10 : Int) ^ Int.toNat 9 = 1000000000 := by decide
    intro r1 H1 r10 r11 k1 b1
    walk_at "ev"
    intro r2 H2 r20 r21 k2 b2
    walk_at "ev"
    intro l3 hl3
    generalize hG : upd _ l3 _ = H3
    obtain ⟨sm3, hq3⟩ := newO hG hl3
    clear hG
    have b3 := b2.same sm3
    have nl3 := b2.ne hl3
    have hL3 := SqL.of (K := K) hq3
    walk_at "ev"
    intro v H4 hv k4 b4
    have hv2 : ∃ e, v = .int e := by
      simp only [List.mem_cons, List.not_mem_nil, or_false] at hv
      rcases hv with h | h | h | h | h | h | h <;> exact ⟨_, h⟩
    obtain ⟨e, rfl⟩ := hv2
    have kf : Keep b H H4 := k1.trans (k2.trans ((keepS sm3).trans k4))
    have hR4 := hR.keep nab kf
    obtain ⟨dx, g, ha4, out, hpf, hlg⟩ := id hR4
    have b4' : BoxAt H4 b (n + 3) := b4.mono (by omega)
    have hdb : Dp K H4 (.bl (decide ((p - 1) % l = 0))) (.bool (decide ((p - 1) % l = 0))) := .bl _
    have hfb : Fit 2 (.bool (decide ((p - 1) % l = 0))) := True.intro
    walk_at "ev"
    intro H5 sm5
    have hR5 := hR4.same sm5
    walk_at "ev"
    by_cases c : (p - 1) % l = 0
    · rw [decide_eq_true c]
      obtain ⟨_, _, fs, out', g0, hf, hso, hmo, hpf', g10, g1p, gok0⟩ := gen_prs hp
      have eo := pf_uniq hpf' hpf
      subst eo
      have p1m : p ≤ 1000000 := by omega
      walk_at "ev"
      intro gg H6 sm6 hgg
      have egg := hgg.uniq hlg
      subst egg
      obtain ⟨gg1, ggp, _, _⟩ := id hgg
      have q0 : 0 ≤ (p - 1) / l := Int.ediv_nonneg (by omega) (by omega)
      have q1 : (p - 1) / l < 1048576 := Int.lt_of_le_of_lt (Int.ediv_le_self _ (by omega)) (by omega)
      have m0 := Int.emod_nonneg e (show l ≠ 0 by omega)
      have m1 : e % l < 1048576 := Int.lt_trans (Int.emod_lt_of_pos e (show 0 < l by omega)) (by omega)
      have x0 := Int.emod_nonneg (gg ^ ((p - 1) / l).toNat) (show p ≠ 0 by omega)
      have x1 : gg ^ ((p - 1) / l).toNat % p ≤ 1000000 := Int.le_trans (Int.le_of_lt (Int.emod_lt_of_pos _ (show 0 < p by omega))) (by omega)
      have gg0 : 0 ≤ gg := by omega
      have gg6 : gg ≤ 1000000 := by omega
      have pp1 : 1 ≤ p := by omega
      have cdl : CDiv (p - 1) l := ⟨by omega, by omega⟩
      have epp := pow_pow_mod (g := gg) (p := p) q0 m0
      have hR6 := hR5.same sm6
      walk_at "ev"
      rw [epp]
      walk_at "ev"
      refine ⟨fun _ g' out2 H7 hp2 hg2 sm7 => ?_, fun c' => absurd c c'⟩
      have eo2 := pf_uniq hp2 hpf
      subst eo2
      have eg2 := hg2.uniq hgg
      subst eg2
      have hR7 := hR6.same sm7
      walk_at "ev"
      refine ⟨fun _ g'' out3 H8 hp3 hg3 sm8 => ?_, fun c' => absurd c c'⟩
      have eo3 := pf_uniq hp3 hpf
      subst eo3
      have eg3 := hg3.uniq hgg
      subst eg3
      walk_at "ev"
      intro l9 hl9
      generalize hG : upd _ l9 _ = H9
      obtain ⟨sm9, hq9⟩ := newO hG hl9
      clear hG
      walk_at "ev"
      intro l10 hl10
      generalize hG : upd _ l10 _ = H10
      obtain ⟨sm10, hq10⟩ := newO hG hl10
      clear hG
      generalize g'' ^ ((p - 1) / l * (e % l)).toNat % p = due at *
      have hdx : Dp K H10 (.ref l9) (.list [.int due, .int due]) := .lst (SqL.of (sm10 _ _ hq9)) (.cons (.int _) (.cons (.int _) .nil))
      have hdy : Dp K H10 (.ref l10) (.list [.int due, .int due]) := .lst (SqL.of hq10) (.cons (.int _) (.cons (.int _) .nil))
      have hft := fit_ii2 (a := due) (b := due)
      walk_at "ev"
      intro H11 sm11
      have s711 := sm8.trans (sm9.trans (sm10.trans sm11))
      have hR11 := hR7.same s711
      have hmn : 1 ≤ (if 40 < l then (40 : Int) else l) ∧ (if 40 < l then (40 : Int) else l) ≤ 40 ∧ (if 40 < l then (40 : Int) else l) ≤ l := by split <;> omega
      walk_at "ev"
      intro D hD
      refine lc_range (lo := 0) (n := (if 40 < l then (40 : Int) else l).toNat) (fun i H' => Hold (Same H11 H' ∧ H' D = some (.lst ((rts p l g'' i).map V.int)))) (.mk ⟨same_new hD, upd_same⟩) ?_ ?_
      · intro i H12 hi hP12
        obtain ⟨kk, hD12⟩ := hP12.un
        have hi40 : i < 40 := by omega
        have hR12 := hR11.same kk
        obtain ⟨dx2, g2', ha12, hx12⟩ := id hR12
        walk_at "ev"
        refine ⟨fun _ g4 out4 hp4 hg4 => ?_, fun c' => absurd c c'⟩
        have eo4 := pf_uniq hp4 hpf
        subst eo4
        have eg4 := hg4.uniq hgg
        subst eg4
        have er : rts p l g4 (i + 1) = rts p l g4 i ++ [g4 ^ ((p - 1) / l * ((0 + (i : Int)) % l)).toNat % p] := by
          unfold rts
          rw [List.range_succ, List.map_append, Int.zero_add]
          rfl
        have hrl : (rts p l g4 i).length = i := by unfold rts; simp
        refine ⟨_, hD12, szm (by rw [List.length_map, hrl]; omega), .mk ⟨same_mut kk hD, by rw [upd_same, er, List.map_append]; rfl⟩⟩
      · intro H12 hP12
        obtain ⟨kk, hD12⟩ := hP12.un
        have hR12 := hR11.same kk
        generalize hmm : (if 40 < l then (40 : Int) else l) = mm at *
        obtain ⟨mm1, mm40, mml⟩ := hmn
        have hL12 := SqL.of (K := K) hD12
        have hrl : (rts p l g'' mm.toNat).length = mm.toNat := by unfold rts; simp
        have z0 : ∀ g x : Int, x = 0 → g ^ ((p - 1) / l * x).toNat % p = 1 := fun g x hx => by
          rw [hx, Int.mul_zero]
          show g ^ (0 : Nat) % p = 1
          rw [Int.pow_zero]
          exact Int.emod_eq_of_lt (by omega) (by omega)
        have at0 : atI ((rts p l g'' mm.toNat).map V.int) 0 = some (.int 1) := by
          refine at_nat (j := 0) ?_ rfl
          rw [List.getElem?_map]
          unfold rts
          rw [List.getElem?_map, List.getElem?_range (by omega)]
          exact congrArg (fun z => some (V.int z)) (z0 g'' _ (Int.zero_emod l))
        obtain ⟨dx2, g2', ha12, hx12⟩ := id hR12
        have hrn := rts_nodup (n := mm.toNat) hfp hpf hgg l1 c (by omega)
        have hr4 : (rts p l g'' mm.toNat).length ≤ 4000 := by omega
        walk_at "ev"
        rw [if_pos (decide_eq_true (by rw [List.length_map]))]
        walk_at "ev"
        refine ⟨fun _ g4 out4 hp4 hg4 => ?_, fun c' => absurd c c'⟩
        rw [z0 g4 _ (Int.emod_self)]
        walk_at "ev"
        have sx := sm5.trans (sm6.trans (sm7.trans (s711.trans kk)))
        exact q _ (kf.trans (keepS sx)) (b4'.same sx)
    · rw [decide_eq_false c]
      walk_at "ev"
      intro _ t6 H6 sm6 hT6
      have hR6 := hR5.same sm6
      walk_at "ev"
      intro _ t7 H7 sm7 hT7
      walk_at "ev"
      intro l8 hl8
      generalize hG : upd _ l8 _ = H8
      obtain ⟨sm8, hq8⟩ := newO hG hl8
      clear hG
      walk_at "ev"
      intro t9' ht9
      generalize hG : upd _ t9' _ = H9
      obtain ⟨sm9, hq9⟩ := newO hG ht9
      clear hG
      walk_at "ev"
      intro l10 hl10
      generalize hG : upd _ l10 _ = H10
      obtain ⟨sm10, hq10⟩ := newO hG hl10
      clear hG
      have hk : (([V.ref t9'] : List V).length * (2 : Int).toNat) ≤ sizeLine := szl (by show 1 * 2 ≤ 60000; decide)
      walk_at "ev"
      intro l11 hl11
      generalize hG : upd _ l11 _ = H11
      obtain ⟨sm11, hq11⟩ := newO hG hl11
      clear hG
      have s811 := sm9.trans (sm10.trans sm11)
      have s711 := sm8.trans s811
      have hdx : Dp K H11 (.ref l8) (.list [.tuple [.str "none", .int l], .tuple [.str "none", .int l]]) := .lst (SqL.of (s811 _ _ hq8)) (.cons (.tup (same_t (sm7.trans s711) hT6) (.cons (.str _) (.cons (.int _) .nil))) (.cons (.tup (same_t s711 hT7) (.cons (.str _) (.cons (.int _) .nil))) .nil))
      have ht11 : SqT K H11 t9' [.str "none", .int l] := SqT.of ((sm10.trans sm11) _ _ hq9)
      have hdy : Dp K H11 (.ref l11) (.list [.tuple [.str "none", .int l], .tuple [.str "none", .int l]]) := .lst (SqL.of hq11) (.cons (.tup ht11 (.cons (.str _) (.cons (.int _) .nil))) (.cons (.tup ht11 (.cons (.str _) (.cons (.int _) .nil))) .nil))
      have hft := fit_nn (x := "none") (a := l)
      walk_at "ev"
      intro H12 sm12
      have sx := sm5.trans (sm6.trans (sm7.trans (s711.trans sm12)))
      exact q _ (kf.trans (keepS sx)) (b4'.same sx)
end
theorem pr_dec {n d : Nat} (h : ∀ m : Nat, m < d → 2 ≤ m → ¬ m ∣ n) (hd : 2 ≤ d) (hn : 2 ≤ n) (e : n < d * d) (top : n ≤ 10000) : (n : Int) ∈ prs 10000 := by
  refine prs_iff.mpr ⟨by omega, Fac.self (by omega) ?_⟩
  refine Rough.top (d := (d : Int)) (fun c h1 h2 k => ?_) (by omega) (by omega) (by exact_mod_cast e)
  obtain ⟨m, rfl⟩ := Int.eq_ofNat_of_zero_le (show 0 ≤ c by omega)
  exact h m (by omega) (by omega) (Int.natCast_dvd_natCast.mp k)
theorem pr97 : (97 : Int) ∈ prs 10000 := pr_dec (n := 97) (d := 10) (by decide) (by decide) (by decide) (by decide) (by decide)
theorem pr241 : (241 : Int) ∈ prs 10000 := pr_dec (n := 241) (d := 16) (by decide) (by decide) (by decide) (by decide) (by decide)
theorem pr2521 : (2521 : Int) ∈ prs 10000 := pr_dec (n := 2521) (d := 51) (by decide) (by decide) (by decide) (by decide) (by decide)
theorem cut_mem {xs : List V} {lo hi : Option Int} {v : V} (h : v ∈ cutV xs lo hi) : v ∈ xs := by
  unfold cutV at h
  exact List.mem_of_mem_drop (List.mem_of_mem_take h)
abbrev s_law : Stmt := top 25
abbrev N_law : List Str := ["_law_script", "_law_primes", "_law_k", "_law_box_here", "_law_turn", "_law_base", "_law_ground", "_law_some", "_law_length", "_law_one", "_law_more"]
abbrev P_law : List Str := ["_law_script"]
theorem sc_law : FnScope N_law P_law (defScope s_law) := ⟨rfl, rfl, rfl, by decide +kernel, rfl, by decide +kernel, by decide +kernel⟩
def spLaw (K : PySem.W.Frag) : Sp := fun vs H Q _ => ∃ (a : Addr) (ns : List Int), vs = [.ref a] ∧ SqL K H a (ns.map V.int) ∧ ns.length ≤ 63 ∧ ∀ H', Q (.bl true) H'
structure Fns (P : Program) (w : World) (K : PySem.W.Frag) (mg : Str → Option Value) (base : Heap) : Prop where
  box : ∃ f fd, Df K mg "_law_box" s__law_box P__law_box f fd
  take : ∃ f fd, Df K mg "_law_take" s__law_take P__law_take f fd
  pick : ∃ f fd, Df K mg "_law_pick" s__law_pick P__law_pick f fd
  same : ∃ f fd, Df K mg "_law_same" s__law_same P__law_same f fd
  sieve : ∃ f fd, Df K mg "_law_sieve" s__law_sieve P__law_sieve f fd
  small : ∃ f fd, Df K mg "_law_small_prime" s__law_small_prime P__law_small_prime f fd
  root : ∃ f fd, Df K mg "_law_root" s__law_root P__law_root f fd
  pow : ∃ f fd, Df K mg "_law_pow" s__law_pow P__law_pow f fd
  right : ∃ f fd, Df K mg "_law_length_right" s__law_length_right P__law_length_right f fd
  whole : ∃ f fd, Df K mg "is_whole" s_is_whole P_is_whole f fd
  prime : ∃ f fd, Df K mg "is_prime" s_is_prime P_is_prime f fd
  factors : ∃ f fd, Df K mg "factors" s_factors P_factors f fd
  power : ∃ f fd, Df K mg "power_rest" s_power_rest P_power_rest f fd
  generator : ∃ f fd, Df K mg "generator" s_generator P_generator f fd
/-- a method of the text -/
structure Md (K : PySem.W.Frag) (C : Addr) (m qual : Str) (st : Stmt) (ps : List Str) (f : Addr) (fd : FuncData) : Prop where
  F : Fun K m qual st f fd
  b : Binds K fd ps []
  m : Meth K C m f
structure ClsS (K : PySem.W.Frag) (mg : Str → Option Value) (C CT CS CB CR fI : Addr) (fdI : FuncData) : Prop where
  FI : Fun K "__init__" "TurnError.__init__" s_init fI fdI
  I_b : Binds K fdI N_init []
  I_ty : PySem.W.typeIn K (.ref fI) = some (.type "function")
  RB : Ref K CT CB fI
  RR : Ref K CT CR fI
  m1 : mg "TurnError" = some (.ref CT)
  m2 : mg "NoShare" = some (.ref CS)
  m4 : mg "BadGround" = some (.ref CB)
  m5 : mg "NoRoot" = some (.ref CR)
  m6 : mg "Rests" = some (.ref C)
  mp : ∃ t, mg "MOST_PRIME" = some (.int 10000 t)
  k1 : PySem.W.kitOne K (.ref CR) (.ref CR) = some true
  k2 : PySem.W.kitAny K (.ref CR) [.ref CB, .ref CS] = some false
  RC : RestC K C
  mak : ∃ f fd, Mk K C f ∧ Fun K "__init__" "Rests.__init__" s_Rests___init__ f fd ∧ Binds K fd P_Rests___init__ []
  me1 : ∃ f fd, Md K C "has_root" "Rests.has_root" s_Rests_has_root P_Rests_has_root f fd
  me2 : ∃ f fd, Md K C "root_at" "Rests.root_at" s_Rests_root_at P_Rests_root_at f fd
section
variable {P : Program} {w : World} {K : PySem.W.Frag} {mg : Str → Option Value} {base : Heap}
theorem ok_law {f C CT CS CB CR fI : Addr} {fd fdI : FuncData} (F : Fun K "law" "law" s_law f fd) (T : Blt mg) (U : Fns P w K mg base) (S : ClsS K mg C CT CS CB CR fI fdI) : FnOk P w K mg base CX0 8 f fd P_law (spLaw K) := by
  obtain ⟨⟨f1, d1, D__law_box⟩, ⟨f2, d2, D__law_take⟩, ⟨f3, d3, D__law_pick⟩, ⟨f4, d4, D__law_same⟩, ⟨f5, d5, D__law_sieve⟩, ⟨f6, d6, D__law_small_prime⟩, ⟨f7, d7, D__law_root⟩, ⟨f8, d8, D__law_pow⟩, ⟨f9, d9, D__law_length_right⟩, ⟨f10, d10, D_is_whole⟩, ⟨f11, d11, D_is_prime⟩, ⟨f12, d12, D_factors⟩, ⟨f13, d13, D_power_rest⟩, ⟨f14, d14, D_generator⟩⟩ := U
  obtain ⟨tM, hM⟩ := S.mp
  obtain ⟨fM, dM, MK_Rests, FM, B_Rests___init__⟩ := S.mak
  obtain ⟨g1, e1, E1⟩ := S.me1
  obtain ⟨g2, e2, E2⟩ := S.me2
  have M_Rests := S.m6
  have G__law_take : FnOk P w K mg base CX0 1 f2 d2 P__law_take spTake := ok_take D__law_take.F
  have G__law_pick : FnOk P w K mg base CX0 2 f3 d3 P__law_pick (spPick K) := ok_pick D__law_pick.F T D__law_take
  have G__law_box : FnOk P w K mg base CX0 1 f1 d1 P__law_box (spBox K) := ok_box D__law_box.F T
  have G__law_sieve : FnOk P w K mg base CX0 1 f5 d5 P__law_sieve spSieve := ok_sieve D__law_sieve.F T
  have G__law_small_prime : FnOk P w K mg base CX0 3 f6 d6 P__law_small_prime (spSP K) := ok_small D__law_small_prime.F T D__law_take D__law_pick
  have G_Rests___init__ : FnOk P w K mg base (L2.CX P w) 3 fM dM P_Rests___init__ (spRI K C CB) := ok_ri FM T S.RC D_is_whole D_factors D_is_prime D_power_rest D_generator hM S.FI S.I_b S.I_ty S.RB S.m4
  have G1 : FnOk P w K mg base CX0 1 g1 e1 P_Rests_has_root (sp_hasroot C) := ok_hasroot E1.F S.RC
  have G2 : FnOk P w K mg base (L2.CX P w) 3 g2 e2 P_Rests_root_at (sp_rootat C CR) := ok_rootat E2.F S.RC E1.m E1.b E1.F D_power_rest S.FI S.I_b S.I_ty S.RR S.m5
  have G__law_root : FnOk P w K mg base CX0 4 f7 d7 P__law_root (spRoot K C) := ok_root (k := 0) D__law_root.F T S.RC.cl E2.m E2.b G2 S.RR S.m2 S.m1 S.m4 S.m5 S.k1 S.k2
  have G__law_length_right : FnOk P w K mg base CX0 5 f9 d9 P__law_length_right (spLen C) := ok_len (k := 0) D__law_length_right.F T D__law_take D__law_pick D__law_same D__law_root G__law_root D__law_pow D_generator D_factors D_power_rest S.RC.cl E1.m E1.b G1 E2.m E2.b G2
  have nd := sc_law.nd
  refine F.ok sc_law (fun vs H Q E h => ?_) (fun cdv A outer s H vs Q E hr h => ?_)
  · obtain ⟨a, ns, rfl, _⟩ := h
    rfl
  · obtain ⟨a, ns, rfl, hS, hlen, q⟩ := h
    refine ⟨_, (pss_cons (ps_set (i := 1) nd rfl (Or.inl rfl) (pe_call G__law_sieve (hr.mono (by omega)) (by rfl) D__law_sieve.g D__law_sieve.F.kp D__law_sieve.b .nil pass0 (pa_cons (pe_op op_pow (pe_int) (pe_int)) pa_nil)))
      (pss_cons (ps_for PassesOwn.never rfl (pi_range1 (by rfl) T.b_range (pa_cons (pe_callB (call_max2 rfl) (by rfl) T.b_max (by decide +kernel) (pa_cons (pe_int) (pa_cons (pe_callB (call_min2 rfl) (by rfl) T.b_min (by decide +kernel) (pa_cons (pe_int) (pa_cons (pe_callB (r := rLenQ K) call_len_seq (by rfl) T.b_len (by decide +kernel) (pa_cons (pv 0) pa_nil)) pa_nil))) pa_nil))) pa_nil)) (pg_name (i := 2) nd rfl (Or.inl rfl))
      (pss_cons (ps_set (i := 3) nd rfl (Or.inr rfl) (pe_call G__law_box (hr.mono (by omega)) (by rfl) D__law_box.g D__law_box.F.kp D__law_box.b .nil pass0 (pa_cons (pv 0) (pa_cons (pv 2) pa_nil))))
      (pss_one (ps_for PassesOwn.never rfl (pi_range1 (by rfl) T.b_range (pa_cons (pe_int) pa_nil)) (pg_name (i := 4) nd rfl (Or.inl rfl))
      (pss_cons (ps_set (i := 5) nd rfl (Or.inr rfl) (pe_call G__law_pick (hr.mono (by omega)) (by rfl) D__law_pick.g D__law_pick.F.kp D__law_pick.b .nil pass0 (pa_cons (pv 3) (pa_cons (pe_lst (pa_cons (pe_call G__law_small_prime (hr.mono (by omega)) (by rfl) D__law_small_prime.g D__law_small_prime.F.kp D__law_small_prime.b .nil pass0 (pa_cons (pv 3) (pa_cons (pv 1) pa_nil))) (pa_cons (pe_int) (pa_cons (pe_int) (pa_cons (pe_int) pa_nil))))) pa_nil))))
      (pss_cons (ps_set (i := 6) nd rfl (Or.inl rfl) (pe_make MK_Rests G_Rests___init__ (hr.mono (by omega)) (by rfl) M_Rests B_Rests___init__ .nil passL (pa_cons (pv 5) pa_nil)))
      (pss_cons (ps_set (i := 7) nd rfl (Or.inl rfl) (pe_op op_cat (pe_lc (own := [("_law_one", 9)]) (g := gName 9) (by rfl) nd (pi_range2 (by rfl) T.b_range (pa_cons (pe_int) (pa_cons (pe_int) pa_nil))) (blkOk_by (own := [("_law_one", 9)]) (N := N_law) (sc := defScope s_law) (by decide +kernel)) (fun _ _ _ _ _ => (pg_name (i := 9) nd rfl (Or.inl rfl))) (fun _ _ _ _ _ => pts_one (pt_cmpR op_eq (pe_op op_mod (pe_op op_sub (pv 5) (pe_int)) (pv 9)) (pe_int) (nomark _))) (fun _ _ _ _ _ => (pv 9))) (pe_lst (pa_cons (pe_op op_sub (pv 5) (pe_int)) (pa_cons (pv 5) (pa_cons (pe_op op_mul (pe_int) (pe_op op_sub (pv 5) (pe_int))) pa_nil))))))
      (pss_one (ps_for PassesOwn.never rfl (pi_list (pe_op op_cat (pe_slice (r := rSlL K) sl_list (pv 7) (po_some (pe_un un_neg (pe_int))) po_none) (pe_lc (own := [("_law_more", 10)]) (g := gName 10) (by rfl) nd (pi_range1 (by rfl) T.b_range (pa_cons (pe_int) pa_nil)) (blkOk_by (own := [("_law_more", 10)]) (N := N_law) (sc := defScope s_law) (by decide +kernel)) (fun _ _ _ _ _ => (pg_name (i := 10) nd rfl (Or.inl rfl))) (fun _ _ _ _ _ => pts_nil) (fun _ _ _ _ _ => (pe_op op_add (pe_int) (pe_call G__law_take (hr.mono (by omega)) (by rfl) D__law_take.g D__law_take.F.kp D__law_take.b .nil pass0 (pa_cons (pv 3) (pa_cons (pe_int) pa_nil)))))))) (pg_name (i := 8) nd rfl (Or.inl rfl))
      (pss_one (ps_if (pt_not (pt_val (pe_call G__law_length_right (hr.mono (by omega)) (by rfl) D__law_length_right.g D__law_length_right.F.kp D__law_length_right.b .nil pass0 (pa_cons (pv 3) (pa_cons (pv 6) (pa_cons (pv 5) (pa_cons (pv 8) pa_nil))))))) (pss_one (ps_ret (pe_bl))) pss_nil)))))))))))
      (pss_one (ps_ret (pe_bl))))), ?_⟩
    walk_at "ev"
    intro wi H1 hw0 sm1 hw1
    have e4 : (10 : Nat) ^ Int.toNat 4 = 10000 := by decide
    rw [e4] at hw1
    have hS1 := sm1.seq hS
    walk_at "ev"
    refine for_range (lo := 0) (n := _) (fun i σ H' => Hold (∃ s2 s3 s4 s5 s6 s7 s8, σ = [some (.ref a), some (.ref wi), s2, s3, s4, s5, s6, s7, s8, none, none] ∧ Same H1 H')) (.mk ⟨none, none, none, none, none, none, none, rfl, Same.refl _⟩) ?_ ?_
    · intro i σ H2 hi hP
      obtain ⟨s2, s3, s4, s5, s6, s7, s8, rfl, sm2⟩ := hP.un
      have hi5 : i < 5 := by
        refine Nat.lt_of_lt_of_le hi ?_
        split <;> (try split) <;> omega
      have hS2 := sm2.seq hS1
      walk_at "ev"
      intro b H3 hb0 sm3 hbx
      have hbf : H1 b = none := sm2.free hb0
      have nwb : wi ≠ b := ne_of_none hw1 hbf
      have sm13 := sm2.trans sm3
      walk_at "ev"
      refine for_range (lo := 0) (n := (3 : Int).toNat) (fun t σ H' => Hold (∃ s4 s5 s6 s7 s8, σ = [some (.ref a), some (.ref wi), some (.int (0 + (i : Int))), some (.ref b), s4, s5, s6, s7, s8, none, none] ∧ Keep b H3 H' ∧ BoxAt H' b (400 * (t : Int)))) (.mk ⟨_, _, _, _, _, rfl, Keep.refl _ _, hbx.mono (by decide)⟩) ?_ ?_
      · intro t σ H4 ht hP4
        obtain ⟨s4, s5, s6, s7, s8, rfl, kk, hb4⟩ := hP4.un
        have ht3 : t < 3 := ht
        have hLw : SqL K H4 wi ((prs 10000).map V.int) := SqL.of (kk _ _ nwb (sm13 _ _ hw1))
        walk_at "ev"
        intro r H5 hr5 k5 b5
        walk_at "ev"
        intro l6 hl6
        generalize hG : upd _ l6 _ = H6
        obtain ⟨sm6, hq6⟩ := newO hG hl6
        clear hG
        have b6 := b5.same sm6
        have nl6 := b5.ne hl6
        have hL6 := SqL.of (K := K) hq6
        walk_at "ev"
        intro v H7 hv k7 b7
        have hv2 : ∃ p, v = .int p ∧ p ∈ prs 10000 := by
          simp only [List.mem_cons, List.not_mem_nil, or_false] at hv
          rcases hv with h | h | h | h
          · exact ⟨_, h, hr5⟩
          · exact ⟨_, h, pr97⟩
          · exact ⟨_, h, pr241⟩
          · exact ⟨_, h, pr2521⟩
        obtain ⟨p, rfl, hpm⟩ := hv2
        obtain ⟨p6, hfp⟩ := prs_iff.mp hpm
        obtain ⟨p2, _⟩ := Rough.of_fac hfp
        have k37 := kk.trans (k5.trans ((keepS sm6).trans k7))
        walk_at "ev"
        intro x dx hx hd ne
        refine ⟨x, dx, .int p, "int", rfl, upd_same, .int p, fun p' ep hp' H8 k8 hR8 => ⟨rfl, ?_⟩, fun no => absurd ⟨p, rfl, hpm⟩ no⟩
        cases ep
        have sm8 := keep_mk hx hd k8
        have b8 := b7.same sm8
        have nxb := hR8.ne b8
        walk_at "ev"
        intro D hD
        have nDb := b8.ne hD
        refine lc_range (lo := 1) (n := (60 : Int).toNat) (fun j H' => Hold (∃ ds : List Int, ds.length ≤ j ∧ (∀ d ∈ ds, 1 ≤ d ∧ d ≤ 60) ∧ Same H8 H' ∧ H' D = some (.lst (ds.map V.int)))) (.mk ⟨[], Nat.le_refl _, fun x hx => by simp at hx, same_new hD, upd_same⟩) ?_ ?_
        · intro j H9 hj hP9
          obtain ⟨ds, hdl, hds, sm9, hD9⟩ := hP9.un
          have hj60 : j < 60 := hj
          have hne : (1 : Int) + (j : Int) ≠ 0 := by omega
          walk_at "ev"
          refine ite2 (fun e => ?_) (fun e => ?_)
          · walk_at "ev"
            refine .mk ⟨ds ++ [1 + (j : Int)], by rw [List.length_append]; exact Nat.succ_le_succ hdl, fun y hy => ?_, same_mut sm9 hD, by rw [upd_same, List.map_append]; rfl⟩
            rcases List.mem_append.mp hy with z | z
            · exact hds y z
            · rw [List.mem_singleton.mp z]
              omega
          · exact .mk ⟨ds, by omega, hds, sm9, hD9⟩
        · intro H9 hP9
          obtain ⟨ds, hdl, hds, sm9, hD9⟩ := hP9.un
          have hdl60 : ds.length ≤ 60 := hdl
          have hL9 := SqL.of (K := K) hD9
          walk_at "ev"
          intro l10 hl10
          generalize hG : upd _ l10 _ = H10
          obtain ⟨sm10, hq10⟩ := newO hG hl10
          clear hG
          have hD10 := sm10 _ _ hD9
          have hz1 : (ds.map V.int).length + 3 ≤ sizeLine := szl (by rw [List.length_map]; show ds.length + 3 ≤ 60000; omega)
          walk_at "ev"
          intro l11 hl11
          generalize hG : upd _ l11 _ = H11
          obtain ⟨sm11, hq11⟩ := newO hG hl11
          clear hG
          have hL11 := SqL.of (K := K) hq11
          walk_at "ev"
          intro l12 hl12
          generalize hG : upd _ l12 _ = H12
          obtain ⟨sm12, hq12⟩ := newO hG hl12
          clear hG
          have s812 : Same H8 H12 := sm9.trans (sm10.trans (sm11.trans sm12))
          have hlc := cutV_length (ds.map V.int ++ [.int (p - 1), .int p, .int (2 * (p - 1))]) (some (-14)) none
          have hmc : ∀ v ∈ cutV (ds.map V.int ++ [.int (p - 1), .int p, .int (2 * (p - 1))]) (some (-14)) none, ∃ l, v = .int l ∧ 1 ≤ l ∧ l ≤ 1000000 := fun v hv => by
            rcases List.mem_append.mp (cut_mem hv) with z | z
            · obtain ⟨d, hd, rfl⟩ := List.mem_map.mp z
              have := hds d hd
              exact ⟨d, rfl, by omega, by omega⟩
            · simp only [List.mem_cons, List.not_mem_nil, or_false] at z
              rcases z with z | z | z <;> exact ⟨_, z, by omega, by omega⟩
          rw [List.length_append, List.length_map] at hlc
          have hlc2 : (cutV (ds.map V.int ++ [.int (p - 1), .int p, .int (2 * (p - 1))]) (some (-14)) none).length ≤ 63 := Nat.le_trans hlc (by show ds.length + 3 ≤ 63; omega)
          generalize hcc : cutV (ds.map V.int ++ [.int (p - 1), .int p, .int (2 * (p - 1))]) (some (-14)) none = cc at *
          have b12 := b8.same s812
          walk_at "ev"
          intro D2 hD2
          have nD2b := b12.ne hD2
          have n12b := (b8.same (sm9.trans (sm10.trans sm11))).ne hl12
          refine lc_range (lo := 0) (n := (4 : Int).toNat) (fun j H' => Hold (∃ ms : List Int, ms.length = j ∧ (∀ m ∈ ms, 1 ≤ m ∧ m ≤ 240) ∧ Keep b H12 H' ∧ BoxAt H' b (400 * (t : Int) + 5 + (j : Int)) ∧ H' D2 = some (.lst (ms.map V.int)))) (.mk ⟨[], rfl, fun x hx => by simp at hx, keepS (same_new hD2), (b12.upd nD2b).mono (by omega), upd_same⟩) ?_ ?_
          · intro j H13 hj hP13
            obtain ⟨ms, hml, hms, k13, b13, hD13⟩ := hP13.un
            have hj4 : j < 4 := hj
            walk_at "ev"
            intro r2 H14 r20 r21 k14 b14
            have hD14 := k14 _ _ nD2b hD13
            have hmz : (ms.map V.int).length < sizeLine := szm (by rw [List.length_map]; omega)
            walk_at "ev"
            refine .mk ⟨ms ++ [1 + r2], by rw [List.length_append, hml]; rfl, fun y hy => ?_, keep_fresh (k13.trans k14) hD2, (b14.upd nD2b).mono (by omega), by rw [upd_same, List.map_append]; rfl⟩
            rcases List.mem_append.mp hy with z | z
            · exact hms y z
            · rw [List.mem_singleton.mp z]
              omega
          · intro H13 hP13
            obtain ⟨ms, hml, hms, k13, b13, hD13⟩ := hP13.un
            have hml4 : ms.length = 4 := hml
            have hq13 := k13 _ _ n12b hq12
            have hz2 : cc.length + (ms.map V.int).length ≤ sizeLine := szl (by rw [List.length_map]; show cc.length + ms.length ≤ 60000; omega)
            walk_at "ev"
            intro l14 hl14
            generalize hG : upd _ l14 _ = H14
            obtain ⟨sm14, hq14⟩ := newO hG hl14
            clear hG
            have b14 := b13.same sm14
            have n14b := b13.ne hl14
            have hR14 := (((hR8.same s812).keep nxb k13).same sm14)
            have hall : ∀ v ∈ cc ++ ms.map V.int, ∃ l, v = .int l ∧ 1 ≤ l ∧ l ≤ 1000000 := fun v hv => by
              rcases List.mem_append.mp hv with z | z
              · exact hmc v z
              · obtain ⟨d, hd, rfl⟩ := List.mem_map.mp z
                have := hms d hd
                exact ⟨d, rfl, by omega, by omega⟩
            have hyl : (cc ++ ms.map V.int).length ≤ 67 := by
              rw [List.length_append, List.length_map]
              omega
            generalize cc ++ ms.map V.int = ys at hq14 hall hyl
            refine ⟨l14, rfl, ⟨_, SqL.of hq14⟩, ?_⟩
            refine for_list (K := K) (a := l14) (xs := ys) (fun j σ H' => Hold (∃ s8, σ = [some (.ref a), some (.ref wi), some (.int (0 + (i : Int))), some (.ref b), some (.int (0 + (t : Int))), some (.int p), some (.ref x), some (.ref l11), s8, none, none] ∧ Keep b H14 H' ∧ BoxAt H' b (400 * (t : Int) + 9 + 3 * (j : Int)))) (.mk ⟨_, rfl, Keep.refl _ _, b14.mono (by show _ ≤ _; simp; omega)⟩) ?_ ?_ ?_
            · intro j σ Hx hj hPx
              obtain ⟨s8, rfl, kx, bx⟩ := hPx.un
              exact SqL.of (kx _ _ n14b hq14)
            · intro j v σ Hx hv hPx
              obtain ⟨s8, rfl, kx, bx⟩ := hPx.un
              obtain ⟨l, rfl, l1, l6⟩ := hall v (List.mem_of_getElem? hv)
              have hjl : j < ys.length := (List.getElem?_eq_some_iff.mp hv).1
              have hRx := hR14.keep nxb kx
              walk_at "ev"
              intro Hy ky by'
              walk_at "ev"
              exact .mk ⟨_, rfl, kx.trans ky, by'.mono (by omega)⟩
            · intro σ Hx hPx
              obtain ⟨s8, rfl, kx, bx⟩ := hPx.un
              exact .mk ⟨_, _, _, _, _, rfl, k37.trans ((keepS sm8).trans ((keepS s812).trans (k13.trans ((keepS sm14).trans kx)))), bx.mono (by omega)⟩
      · intro σ H4 hP4
        obtain ⟨s4, s5, s6, s7, s8, rfl, kk, hb4⟩ := hP4.un
        exact .mk ⟨_, _, _, _, _, _, _, rfl, keep_same sm13 hbf kk⟩
    · intro σ H2 hP
      obtain ⟨s2, s3, s4, s5, s6, s7, s8, rfl, sm2⟩ := hP.un
      walk_at "ev"
      exact q _
end
theorem all_mk {l : PySem.W.OpenLaw} {w : World} {K : PySem.W.Frag} {h : Heap} {mg : Str → Option Value} {fa : Addr} (X : K.In h) (G : h.Ns mainGlobals mg) (hfa : mg "law" = some (.ref fa))
    {od0 an0 : Option Addr} {sl0 : Array (Option Value)} {oc0 kV0 dc0 pm0 cd0 ct0 : Value} {f0 : Addr}
    {od1 an1 : Option Addr} {sl1 : Array (Option Value)} {oc1 kV1 dc1 pm1 cd1 ct1 : Value} {f1 : Addr}
    {od2 an2 : Option Addr} {sl2 : Array (Option Value)} {oc2 kV2 dc2 pm2 cd2 ct2 : Value} {f2 : Addr}
    {od3 an3 : Option Addr} {sl3 : Array (Option Value)} {oc3 kV3 dc3 pm3 cd3 ct3 : Value} {f3 : Addr}
    {od4 an4 : Option Addr} {sl4 : Array (Option Value)} {oc4 kV4 dc4 pm4 cd4 ct4 : Value} {f4 : Addr}
    {od5 an5 : Option Addr} {sl5 : Array (Option Value)} {oc5 kV5 dc5 pm5 cd5 ct5 : Value} {f5 : Addr}
    {od6 an6 : Option Addr} {sl6 : Array (Option Value)} {oc6 kV6 dc6 pm6 cd6 ct6 : Value} {f6 : Addr}
    {od7 an7 : Option Addr} {sl7 : Array (Option Value)} {oc7 kV7 dc7 pm7 cd7 ct7 : Value} {f7 : Addr}
    {od8 an8 : Option Addr} {sl8 : Array (Option Value)} {oc8 kV8 dc8 pm8 cd8 ct8 : Value} {f8 : Addr}
    {od9 an9 : Option Addr} {sl9 : Array (Option Value)} {oc9 kV9 dc9 pm9 cd9 ct9 : Value} {f9 : Addr}
    {od10 an10 : Option Addr} {sl10 : Array (Option Value)} {oc10 kV10 dc10 pm10 cd10 ct10 : Value} {f10 : Addr}
    {od11 an11 : Option Addr} {sl11 : Array (Option Value)} {oc11 kV11 dc11 pm11 cd11 ct11 : Value} {f11 : Addr}
    {od12 an12 : Option Addr} {sl12 : Array (Option Value)} {oc12 kV12 dc12 pm12 cd12 ct12 : Value} {f12 : Addr}
    {od13 an13 : Option Addr} {sl13 : Array (Option Value)} {oc13 kV13 dc13 pm13 cd13 ct13 : Value} {f13 : Addr}
    {od14 an14 : Option Addr} {sl14 : Array (Option Value)} {oc14 kV14 dc14 pm14 cd14 ct14 : Value} {f14 : Addr}
    {fI : Addr} {odI anI : Option Addr} {slI : Array (Option Value)} {ocI kVI dcI pmI cdI ctI : Value}
    {C_TurnError : Addr}
    {C_BadGround : Addr}
    {C_NoRoot : Addr}
    {C_NoShare : Addr}
    {C_Rests : Addr}
    {nm_BadGround q_BadGround : Str} {N_BadGround : Addr} {bs_BadGround : List Value} {sn_BadGround : List Str} {sb_BadGround : List Value} {ab_BadGround : Bool} {co_BadGround : Option Bool} {dd_BadGround : Option Addr} {m0_BadGround m1_BadGround m2_BadGround m3_BadGround m5_BadGround : Option Value}
    {nm_NoRoot q_NoRoot : Str} {N_NoRoot : Addr} {bs_NoRoot : List Value} {sn_NoRoot : List Str} {sb_NoRoot : List Value} {ab_NoRoot : Bool} {co_NoRoot : Option Bool} {dd_NoRoot : Option Addr} {m0_NoRoot m1_NoRoot m2_NoRoot m3_NoRoot m5_NoRoot : Option Value}
    {t_MOST_PRIME : Tok}
    {od_Rests___init__ an_Rests___init__ : Option Addr} {sl_Rests___init__ : Array (Option Value)} {oc_Rests___init__ kV_Rests___init__ dc_Rests___init__ pm_Rests___init__ cd_Rests___init__ ct_Rests___init__ : Value} {f_Rests___init__ : Addr}
    {od_Rests_has_root an_Rests_has_root : Option Addr} {sl_Rests_has_root : Array (Option Value)} {oc_Rests_has_root kV_Rests_has_root dc_Rests_has_root pm_Rests_has_root cd_Rests_has_root ct_Rests_has_root : Value} {f_Rests_has_root : Addr}
    {od_Rests_root_at an_Rests_root_at : Option Addr} {sl_Rests_root_at : Array (Option Value)} {oc_Rests_root_at kV_Rests_root_at dc_Rests_root_at pm_Rests_root_at cd_Rests_root_at ct_Rests_root_at : Value} {f_Rests_root_at : Addr}
    (g_TurnError : PySem.W.nsIn K mainGlobals "TurnError" = some (some (.ref C_TurnError)))
    (g_BadGround : PySem.W.nsIn K mainGlobals "BadGround" = some (some (.ref C_BadGround)))
    (g_NoRoot : PySem.W.nsIn K mainGlobals "NoRoot" = some (some (.ref C_NoRoot)))
    (g_NoShare : PySem.W.nsIn K mainGlobals "NoShare" = some (some (.ref C_NoShare)))
    (g_Rests : PySem.W.nsIn K mainGlobals "Rests" = some (some (.ref C_Rests)))
    (on : PySem.W.specialIn K (.builtin "object.__class__") "__get__" = some (some (.builtin "getset_descriptor.__get__")))
    (ot : PySem.W.takesIn K (.builtin "object.__class__") = some true)
    (eT : PySem.W.subIn K (.ref C_TurnError) (.type "BaseException") = some true)
    (hT : PySem.W.hasDictIn K C_TurnError = true)
    (tT : PySem.W.typeIn K (.ref C_TurnError) = some (.type "type"))
    (xL_BadGround : K.lookup C_BadGround = some (excClassObj nm_BadGround q_BadGround C_BadGround N_BadGround bs_BadGround [.ref C_TurnError, .type "ValueError", .type "Exception", .type "BaseException", .type "object"] true sn_BadGround sb_BadGround ab_BadGround co_BadGround dd_BadGround m0_BadGround m1_BadGround m2_BadGround m3_BadGround m5_BadGround "ValueError.__new__"))
    (sa_BadGround : PySem.W.findIn K (.ref C_BadGround) "__setattr__" = some (some (.builtin "object.__setattr__")))
    (ga_BadGround : PySem.W.findIn K (.ref C_BadGround) "__getattribute__" = some (some (.builtin "BaseException.__getattribute__")))
    (gg_BadGround : PySem.W.findIn K (.ref C_BadGround) "__getattr__" = some none)
    (nw_BadGround : PySem.W.findIn K (.ref C_BadGround) "what" = some none)
    (ii_BadGround : PySem.W.findIn K (.ref C_BadGround) "__init__" = some (some (.ref fI)))
    (oc_BadGround : PySem.W.findIn K (.ref C_BadGround) "__class__" = some (some (.builtin "object.__class__")))
    (kC_BadGround : PySem.W.keepIn K (.ref C_BadGround) = true)
    (eC_BadGround : PySem.W.subIn K (.ref C_BadGround) (.type "BaseException") = some true)
    (tC_BadGround : PySem.W.typeIn K (.ref C_BadGround) = some (.type "type"))
    (hC_BadGround : PySem.W.hasDictIn K C_BadGround = true)
    (mo_BadGround : PySem.W.mroIn K C_BadGround (.type "object") = some true)
    (su_BadGround : PySem.W.subIn K (.ref C_BadGround) (.ref C_TurnError) = some true)
    (kv_BadGround : PySem.W.kitOne K (.ref C_BadGround) (.type "ValueError") = some true)
    (kt_BadGround : PySem.W.kitOne K (.ref C_BadGround) (.ref C_TurnError) = some true)
    (xL_NoRoot : K.lookup C_NoRoot = some (excClassObj nm_NoRoot q_NoRoot C_NoRoot N_NoRoot bs_NoRoot [.ref C_TurnError, .type "ValueError", .type "Exception", .type "BaseException", .type "object"] true sn_NoRoot sb_NoRoot ab_NoRoot co_NoRoot dd_NoRoot m0_NoRoot m1_NoRoot m2_NoRoot m3_NoRoot m5_NoRoot "ValueError.__new__"))
    (sa_NoRoot : PySem.W.findIn K (.ref C_NoRoot) "__setattr__" = some (some (.builtin "object.__setattr__")))
    (ga_NoRoot : PySem.W.findIn K (.ref C_NoRoot) "__getattribute__" = some (some (.builtin "BaseException.__getattribute__")))
    (gg_NoRoot : PySem.W.findIn K (.ref C_NoRoot) "__getattr__" = some none)
    (nw_NoRoot : PySem.W.findIn K (.ref C_NoRoot) "what" = some none)
    (ii_NoRoot : PySem.W.findIn K (.ref C_NoRoot) "__init__" = some (some (.ref fI)))
    (oc_NoRoot : PySem.W.findIn K (.ref C_NoRoot) "__class__" = some (some (.builtin "object.__class__")))
    (kC_NoRoot : PySem.W.keepIn K (.ref C_NoRoot) = true)
    (eC_NoRoot : PySem.W.subIn K (.ref C_NoRoot) (.type "BaseException") = some true)
    (tC_NoRoot : PySem.W.typeIn K (.ref C_NoRoot) = some (.type "type"))
    (hC_NoRoot : PySem.W.hasDictIn K C_NoRoot = true)
    (mo_NoRoot : PySem.W.mroIn K C_NoRoot (.type "object") = some true)
    (su_NoRoot : PySem.W.subIn K (.ref C_NoRoot) (.ref C_TurnError) = some true)
    (kv_NoRoot : PySem.W.kitOne K (.ref C_NoRoot) (.type "ValueError") = some true)
    (kt_NoRoot : PySem.W.kitOne K (.ref C_NoRoot) (.ref C_TurnError) = some true)
    (lI : K.lookup fI = some ⟨ocI, odI, .func (PySem.W.fnOf "__init__" "TurnError.__init__" (defArgs s_init) (defBody s_init) (defScope s_init) .none kVI dcI pmI anI cdI ctI), slI⟩)
    (cI : PySem.W.codeIn K cdI "TurnError.__init__" = true)
    (kI : PySem.W.keepIn K (.ref fI) = true)
    (tI : PySem.W.typeIn K (.ref fI) = some (.type "function"))
    (g_MOST_PRIME : PySem.W.nsIn K mainGlobals "MOST_PRIME" = some (some (.int 10000 t_MOST_PRIME)))
    (pg_Rests : PySem.W.plainGet K C_Rests Str.empty = true)
    (hd_Rests : PySem.W.hasDictIn K C_Rests = true)
    (po_Rests : PySem.W.plainOver K C_Rests = true)
    (sa_Rests : PySem.W.findIn K (.ref C_Rests) "__setattr__" = some (some (.builtin "object.__setattr__")))
    (mk_Rests : PySem.W.makesIn K C_Rests = true)
    (kc_Rests : PySem.W.keepIn K (.ref C_Rests) = true)
    (nf_Rests_prime : PySem.W.findIn K (.ref C_Rests) "prime" = some none)
    (nf_Rests_base : PySem.W.findIn K (.ref C_Rests) "base" = some none)
    (at_Rests___init__ : PySem.W.findIn K (.ref C_Rests) "__init__" = some (some (.ref f_Rests___init__)))
    (lk_Rests___init__ : K.lookup f_Rests___init__ = some ⟨oc_Rests___init__, od_Rests___init__, .func (PySem.W.fnOf "__init__" "Rests.__init__" (defArgs s_Rests___init__) (defBody s_Rests___init__) (defScope s_Rests___init__) .none kV_Rests___init__ dc_Rests___init__ pm_Rests___init__ an_Rests___init__ cd_Rests___init__ ct_Rests___init__), sl_Rests___init__⟩)
    (cn_Rests___init__ : PySem.W.codeIn K cd_Rests___init__ "Rests.__init__" = true)
    (kp_Rests___init__ : PySem.W.keepIn K (.ref f_Rests___init__) = true)
    (fn_Rests___init__ : PySem.W.isFn K (.ref f_Rests___init__) = true)
    (at_Rests_has_root : PySem.W.findIn K (.ref C_Rests) "has_root" = some (some (.ref f_Rests_has_root)))
    (lk_Rests_has_root : K.lookup f_Rests_has_root = some ⟨oc_Rests_has_root, od_Rests_has_root, .func (PySem.W.fnOf "has_root" "Rests.has_root" (defArgs s_Rests_has_root) (defBody s_Rests_has_root) (defScope s_Rests_has_root) .none kV_Rests_has_root dc_Rests_has_root pm_Rests_has_root an_Rests_has_root cd_Rests_has_root ct_Rests_has_root), sl_Rests_has_root⟩)
    (cn_Rests_has_root : PySem.W.codeIn K cd_Rests_has_root "Rests.has_root" = true)
    (kp_Rests_has_root : PySem.W.keepIn K (.ref f_Rests_has_root) = true)
    (fn_Rests_has_root : PySem.W.isFn K (.ref f_Rests_has_root) = true)
    (at_Rests_root_at : PySem.W.findIn K (.ref C_Rests) "root_at" = some (some (.ref f_Rests_root_at)))
    (lk_Rests_root_at : K.lookup f_Rests_root_at = some ⟨oc_Rests_root_at, od_Rests_root_at, .func (PySem.W.fnOf "root_at" "Rests.root_at" (defArgs s_Rests_root_at) (defBody s_Rests_root_at) (defScope s_Rests_root_at) .none kV_Rests_root_at dc_Rests_root_at pm_Rests_root_at an_Rests_root_at cd_Rests_root_at ct_Rests_root_at), sl_Rests_root_at⟩)
    (cn_Rests_root_at : PySem.W.codeIn K cd_Rests_root_at "Rests.root_at" = true)
    (kp_Rests_root_at : PySem.W.keepIn K (.ref f_Rests_root_at) = true)
    (fn_Rests_root_at : PySem.W.isFn K (.ref f_Rests_root_at) = true)
    (fk1 : PySem.W.kitOne K (.ref C_NoRoot) (.ref C_NoRoot) = some true)
    (fk2 : PySem.W.kitAny K (.ref C_NoRoot) [.ref C_BadGround, .ref C_NoShare] = some false)
    (a0 : PySem.W.nsIn K mainGlobals "_law_box" = some (some (.ref f0))) (l0 : K.lookup f0 = some ⟨oc0, od0, .func (PySem.W.fnOf "_law_box" "_law_box" (defArgs s__law_box) (defBody s__law_box) (defScope s__law_box) .none kV0 dc0 pm0 an0 cd0 ct0), sl0⟩) (c0 : PySem.W.codeIn K cd0 "_law_box" = true) (k0 : PySem.W.keepIn K (.ref f0) = true)
    (a1 : PySem.W.nsIn K mainGlobals "_law_take" = some (some (.ref f1))) (l1 : K.lookup f1 = some ⟨oc1, od1, .func (PySem.W.fnOf "_law_take" "_law_take" (defArgs s__law_take) (defBody s__law_take) (defScope s__law_take) .none kV1 dc1 pm1 an1 cd1 ct1), sl1⟩) (c1 : PySem.W.codeIn K cd1 "_law_take" = true) (k1 : PySem.W.keepIn K (.ref f1) = true)
    (a2 : PySem.W.nsIn K mainGlobals "_law_pick" = some (some (.ref f2))) (l2 : K.lookup f2 = some ⟨oc2, od2, .func (PySem.W.fnOf "_law_pick" "_law_pick" (defArgs s__law_pick) (defBody s__law_pick) (defScope s__law_pick) .none kV2 dc2 pm2 an2 cd2 ct2), sl2⟩) (c2 : PySem.W.codeIn K cd2 "_law_pick" = true) (k2 : PySem.W.keepIn K (.ref f2) = true)
    (a3 : PySem.W.nsIn K mainGlobals "_law_same" = some (some (.ref f3))) (l3 : K.lookup f3 = some ⟨oc3, od3, .func (PySem.W.fnOf "_law_same" "_law_same" (defArgs s__law_same) (defBody s__law_same) (defScope s__law_same) .none kV3 dc3 pm3 an3 cd3 ct3), sl3⟩) (c3 : PySem.W.codeIn K cd3 "_law_same" = true) (k3 : PySem.W.keepIn K (.ref f3) = true)
    (a4 : PySem.W.nsIn K mainGlobals "_law_sieve" = some (some (.ref f4))) (l4 : K.lookup f4 = some ⟨oc4, od4, .func (PySem.W.fnOf "_law_sieve" "_law_sieve" (defArgs s__law_sieve) (defBody s__law_sieve) (defScope s__law_sieve) .none kV4 dc4 pm4 an4 cd4 ct4), sl4⟩) (c4 : PySem.W.codeIn K cd4 "_law_sieve" = true) (k4 : PySem.W.keepIn K (.ref f4) = true)
    (a5 : PySem.W.nsIn K mainGlobals "_law_small_prime" = some (some (.ref f5))) (l5 : K.lookup f5 = some ⟨oc5, od5, .func (PySem.W.fnOf "_law_small_prime" "_law_small_prime" (defArgs s__law_small_prime) (defBody s__law_small_prime) (defScope s__law_small_prime) .none kV5 dc5 pm5 an5 cd5 ct5), sl5⟩) (c5 : PySem.W.codeIn K cd5 "_law_small_prime" = true) (k5 : PySem.W.keepIn K (.ref f5) = true)
    (a6 : PySem.W.nsIn K mainGlobals "_law_root" = some (some (.ref f6))) (l6 : K.lookup f6 = some ⟨oc6, od6, .func (PySem.W.fnOf "_law_root" "_law_root" (defArgs s__law_root) (defBody s__law_root) (defScope s__law_root) .none kV6 dc6 pm6 an6 cd6 ct6), sl6⟩) (c6 : PySem.W.codeIn K cd6 "_law_root" = true) (k6 : PySem.W.keepIn K (.ref f6) = true)
    (a7 : PySem.W.nsIn K mainGlobals "_law_pow" = some (some (.ref f7))) (l7 : K.lookup f7 = some ⟨oc7, od7, .func (PySem.W.fnOf "_law_pow" "_law_pow" (defArgs s__law_pow) (defBody s__law_pow) (defScope s__law_pow) .none kV7 dc7 pm7 an7 cd7 ct7), sl7⟩) (c7 : PySem.W.codeIn K cd7 "_law_pow" = true) (k7 : PySem.W.keepIn K (.ref f7) = true)
    (a8 : PySem.W.nsIn K mainGlobals "_law_length_right" = some (some (.ref f8))) (l8 : K.lookup f8 = some ⟨oc8, od8, .func (PySem.W.fnOf "_law_length_right" "_law_length_right" (defArgs s__law_length_right) (defBody s__law_length_right) (defScope s__law_length_right) .none kV8 dc8 pm8 an8 cd8 ct8), sl8⟩) (c8 : PySem.W.codeIn K cd8 "_law_length_right" = true) (k8 : PySem.W.keepIn K (.ref f8) = true)
    (a9 : PySem.W.nsIn K mainGlobals "is_whole" = some (some (.ref f9))) (l9 : K.lookup f9 = some ⟨oc9, od9, .func (PySem.W.fnOf "is_whole" "is_whole" (defArgs s_is_whole) (defBody s_is_whole) (defScope s_is_whole) .none kV9 dc9 pm9 an9 cd9 ct9), sl9⟩) (c9 : PySem.W.codeIn K cd9 "is_whole" = true) (k9 : PySem.W.keepIn K (.ref f9) = true)
    (a10 : PySem.W.nsIn K mainGlobals "is_prime" = some (some (.ref f10))) (l10 : K.lookup f10 = some ⟨oc10, od10, .func (PySem.W.fnOf "is_prime" "is_prime" (defArgs s_is_prime) (defBody s_is_prime) (defScope s_is_prime) .none kV10 dc10 pm10 an10 cd10 ct10), sl10⟩) (c10 : PySem.W.codeIn K cd10 "is_prime" = true) (k10 : PySem.W.keepIn K (.ref f10) = true)
    (a11 : PySem.W.nsIn K mainGlobals "factors" = some (some (.ref f11))) (l11 : K.lookup f11 = some ⟨oc11, od11, .func (PySem.W.fnOf "factors" "factors" (defArgs s_factors) (defBody s_factors) (defScope s_factors) .none kV11 dc11 pm11 an11 cd11 ct11), sl11⟩) (c11 : PySem.W.codeIn K cd11 "factors" = true) (k11 : PySem.W.keepIn K (.ref f11) = true)
    (a12 : PySem.W.nsIn K mainGlobals "power_rest" = some (some (.ref f12))) (l12 : K.lookup f12 = some ⟨oc12, od12, .func (PySem.W.fnOf "power_rest" "power_rest" (defArgs s_power_rest) (defBody s_power_rest) (defScope s_power_rest) .none kV12 dc12 pm12 an12 cd12 ct12), sl12⟩) (c12 : PySem.W.codeIn K cd12 "power_rest" = true) (k12 : PySem.W.keepIn K (.ref f12) = true)
    (a13 : PySem.W.nsIn K mainGlobals "generator" = some (some (.ref f13))) (l13 : K.lookup f13 = some ⟨oc13, od13, .func (PySem.W.fnOf "generator" "generator" (defArgs s_generator) (defBody s_generator) (defScope s_generator) .none kV13 dc13 pm13 an13 cd13 ct13), sl13⟩) (c13 : PySem.W.codeIn K cd13 "generator" = true) (k13 : PySem.W.keepIn K (.ref f13) = true)
    (a14 : PySem.W.nsIn K mainGlobals "law" = some (some (.ref f14))) (l14 : K.lookup f14 = some ⟨oc14, od14, .func (PySem.W.fnOf "law" "law" (defArgs s_law) (defBody s_law) (defScope s_law) .none kV14 dc14 pm14 an14 cd14 ct14), sl14⟩) (c14 : PySem.W.codeIn K cd14 "law" = true) (k14 : PySem.W.keepIn K (.ref f14) = true)
    (z0 : PySem.W.nsIn K mainGlobals "ValueError" = some none) (z1 : PySem.W.nsIn K mainGlobals "abs" = some none) (z2 : PySem.W.nsIn K mainGlobals "all" = some none) (z3 : PySem.W.nsIn K mainGlobals "any" = some none) (z4 : PySem.W.nsIn K mainGlobals "bool" = some none) (z5 : PySem.W.nsIn K mainGlobals "int" = some none) (z6 : PySem.W.nsIn K mainGlobals "isinstance" = some none) (z7 : PySem.W.nsIn K mainGlobals "len" = some none) (z8 : PySem.W.nsIn K mainGlobals "list" = some none) (z9 : PySem.W.nsIn K mainGlobals "max" = some none) (z10 : PySem.W.nsIn K mainGlobals "min" = some none) (z11 : PySem.W.nsIn K mainGlobals "range" = some none) (z12 : PySem.W.nsIn K mainGlobals "set" = some none) (z13 : PySem.W.nsIn K mainGlobals "sorted" = some none) (z14 : PySem.W.nsIn K mainGlobals "str" = some none) (z15 : PySem.W.nsIn K mainGlobals "tuple" = some none) (z16 : PySem.W.nsIn K mainGlobals "zip" = some none) :
    ∃ fd : FuncData, (∀ (s : Shared) (v : Value), BindsTo s fd ⟨[v], []⟩ [("_law_script", v)]) ∧ ∀ base : Heap, K.In base → base.Ns mainGlobals mg → FnOk l.prog w K mg base CX0 8 fa fd ["_law_script"] (spLaw K) := by
  have e := hfa.symm.trans (PySem.W.mg_of X G a14)
  cases e
  have T : Blt mg := ⟨PySem.W.mg_none_of X G z0, PySem.W.mg_none_of X G z1, PySem.W.mg_none_of X G z2, PySem.W.mg_none_of X G z3, PySem.W.mg_none_of X G z4, PySem.W.mg_none_of X G z5, PySem.W.mg_none_of X G z6, PySem.W.mg_none_of X G z7, PySem.W.mg_none_of X G z8, PySem.W.mg_none_of X G z9, PySem.W.mg_none_of X G z10, PySem.W.mg_none_of X G z11, PySem.W.mg_none_of X G z12, PySem.W.mg_none_of X G z13, PySem.W.mg_none_of X G z14, PySem.W.mg_none_of X G z15, PySem.W.mg_none_of X G z16⟩
  have F0 := fun_mk (st := s__law_box) l0 c0 k0
  have b0 := F0.binds (ps := P__law_box) fun _ _ _ _ _ _ us hl => match us, hl with | [_, _], _ => rfl
  have F1 := fun_mk (st := s__law_take) l1 c1 k1
  have b1 := F1.binds (ps := P__law_take) fun _ _ _ _ _ _ us hl => match us, hl with | [_, _], _ => rfl
  have F2 := fun_mk (st := s__law_pick) l2 c2 k2
  have b2 := F2.binds (ps := P__law_pick) fun _ _ _ _ _ _ us hl => match us, hl with | [_, _], _ => rfl
  have F3 := fun_mk (st := s__law_same) l3 c3 k3
  have b3 := F3.binds (ps := P__law_same) fun _ _ _ _ _ _ us hl => match us, hl with | [_, _], _ => rfl
  have F4 := fun_mk (st := s__law_sieve) l4 c4 k4
  have b4 := F4.binds (ps := P__law_sieve) fun _ _ _ _ _ _ us hl => match us, hl with | [_], _ => rfl
  have F5 := fun_mk (st := s__law_small_prime) l5 c5 k5
  have b5 := F5.binds (ps := P__law_small_prime) fun _ _ _ _ _ _ us hl => match us, hl with | [_, _], _ => rfl
  have F6 := fun_mk (st := s__law_root) l6 c6 k6
  have b6 := F6.binds (ps := P__law_root) fun _ _ _ _ _ _ us hl => match us, hl with | [_, _, _], _ => rfl
  have F7 := fun_mk (st := s__law_pow) l7 c7 k7
  have b7 := F7.binds (ps := P__law_pow) fun _ _ _ _ _ _ us hl => match us, hl with | [_, _, _], _ => rfl
  have F8 := fun_mk (st := s__law_length_right) l8 c8 k8
  have b8 := F8.binds (ps := P__law_length_right) fun _ _ _ _ _ _ us hl => match us, hl with | [_, _, _, _], _ => rfl
  have F9 := fun_mk (st := s_is_whole) l9 c9 k9
  have b9 := F9.binds (ps := P_is_whole) fun _ _ _ _ _ _ us hl => match us, hl with | [_], _ => rfl
  have F10 := fun_mk (st := s_is_prime) l10 c10 k10
  have b10 := F10.binds (ps := P_is_prime) fun _ _ _ _ _ _ us hl => match us, hl with | [_], _ => rfl
  have F11 := fun_mk (st := s_factors) l11 c11 k11
  have b11 := F11.binds (ps := P_factors) fun _ _ _ _ _ _ us hl => match us, hl with | [_], _ => rfl
  have F12 := fun_mk (st := s_power_rest) l12 c12 k12
  have b12 := F12.binds (ps := P_power_rest) fun _ _ _ _ _ _ us hl => match us, hl with | [_, _, _], _ => rfl
  have F13 := fun_mk (st := s_generator) l13 c13 k13
  have b13 := F13.binds (ps := P_generator) fun _ _ _ _ _ _ us hl => match us, hl with | [_], _ => rfl
  have F14 := fun_mk (st := s_law) l14 c14 k14
  have F_I := fun_mk (st := s_init) lI cI kI
  have b_I := F_I.binds (ps := N_init) fun _ _ _ _ _ _ us hl => match us, hl with | [_, _], _ => rfl
  have EK_BadGround : ExK K C_BadGround := ⟨⟨⟨nm_BadGround, q_BadGround, N_BadGround, bs_BadGround, _, sn_BadGround, sb_BadGround, ab_BadGround, co_BadGround, dd_BadGround, m0_BadGround, m1_BadGround, m2_BadGround, m3_BadGround, m5_BadGround, xL_BadGround, rfl⟩, sa_BadGround, eC_BadGround, tC_BadGround, kC_BadGround⟩, ⟨ga_BadGround, gg_BadGround, eC_BadGround, hC_BadGround⟩, ⟨ga_BadGround, gg_BadGround, eC_BadGround, hC_BadGround, oc_BadGround, on, ot, mo_BadGround⟩, nw_BadGround⟩
  have R_BadGround : Ref K C_TurnError C_BadGround fI := ⟨EK_BadGround, ii_BadGround, PySem.W.exm_ref eT hT tT su_BadGround, kv_BadGround, kt_BadGround⟩
  have EK_NoRoot : ExK K C_NoRoot := ⟨⟨⟨nm_NoRoot, q_NoRoot, N_NoRoot, bs_NoRoot, _, sn_NoRoot, sb_NoRoot, ab_NoRoot, co_NoRoot, dd_NoRoot, m0_NoRoot, m1_NoRoot, m2_NoRoot, m3_NoRoot, m5_NoRoot, xL_NoRoot, rfl⟩, sa_NoRoot, eC_NoRoot, tC_NoRoot, kC_NoRoot⟩, ⟨ga_NoRoot, gg_NoRoot, eC_NoRoot, hC_NoRoot⟩, ⟨ga_NoRoot, gg_NoRoot, eC_NoRoot, hC_NoRoot, oc_NoRoot, on, ot, mo_NoRoot⟩, nw_NoRoot⟩
  have R_NoRoot : Ref K C_TurnError C_NoRoot fI := ⟨EK_NoRoot, ii_NoRoot, PySem.W.exm_ref eT hT tT su_NoRoot, kv_NoRoot, kt_NoRoot⟩
  have M_MOST_PRIME := PySem.W.mg_of X G g_MOST_PRIME
  have CL_Rests : L2.Cls K C_Rests := ⟨pg_Rests, hd_Rests, po_Rests, sa_Rests⟩
  have F_Rests___init__ := fun_mk (st := s_Rests___init__) lk_Rests___init__ cn_Rests___init__ kp_Rests___init__
  have B_Rests___init__ := F_Rests___init__.binds (ps := P_Rests___init__) fun _ _ _ _ _ _ us hl => match us, hl with | [_, _], _ => rfl
  have MK_Rests : Mk K C_Rests f_Rests___init__ := ⟨mk_Rests, at_Rests___init__, fn_Rests___init__, kc_Rests⟩
  have F_Rests_has_root := fun_mk (st := s_Rests_has_root) lk_Rests_has_root cn_Rests_has_root kp_Rests_has_root
  have B_Rests_has_root := F_Rests_has_root.binds (ps := P_Rests_has_root) fun _ _ _ _ _ _ us hl => match us, hl with | [_, _], _ => rfl
  have ME_Rests_has_root : Meth K C_Rests "has_root" f_Rests_has_root := ⟨at_Rests_has_root, fn_Rests_has_root, kp_Rests_has_root⟩
  have F_Rests_root_at := fun_mk (st := s_Rests_root_at) lk_Rests_root_at cn_Rests_root_at kp_Rests_root_at
  have B_Rests_root_at := F_Rests_root_at.binds (ps := P_Rests_root_at) fun _ _ _ _ _ _ us hl => match us, hl with | [_, _, _], _ => rfl
  have ME_Rests_root_at : Meth K C_Rests "root_at" f_Rests_root_at := ⟨at_Rests_root_at, fn_Rests_root_at, kp_Rests_root_at⟩
  have M_TurnError := PySem.W.mg_of X G g_TurnError
  have M_BadGround := PySem.W.mg_of X G g_BadGround
  have M_NoRoot := PySem.W.mg_of X G g_NoRoot
  have M_NoShare := PySem.W.mg_of X G g_NoShare
  have M_Rests := PySem.W.mg_of X G g_Rests
  refine ⟨_, fun s v => .of_eq rfl, fun base _ _ => ok_law (P := l.prog) (w := w) (base := base) F14 T ⟨⟨_, _, F0, b0, PySem.W.mg_of X G a0⟩, ⟨_, _, F1, b1, PySem.W.mg_of X G a1⟩, ⟨_, _, F2, b2, PySem.W.mg_of X G a2⟩, ⟨_, _, F3, b3, PySem.W.mg_of X G a3⟩, ⟨_, _, F4, b4, PySem.W.mg_of X G a4⟩, ⟨_, _, F5, b5, PySem.W.mg_of X G a5⟩, ⟨_, _, F6, b6, PySem.W.mg_of X G a6⟩, ⟨_, _, F7, b7, PySem.W.mg_of X G a7⟩, ⟨_, _, F8, b8, PySem.W.mg_of X G a8⟩, ⟨_, _, F9, b9, PySem.W.mg_of X G a9⟩, ⟨_, _, F10, b10, PySem.W.mg_of X G a10⟩, ⟨_, _, F11, b11, PySem.W.mg_of X G a11⟩, ⟨_, _, F12, b12, PySem.W.mg_of X G a12⟩, ⟨_, _, F13, b13, PySem.W.mg_of X G a13⟩⟩ ⟨F_I, b_I, tI, R_BadGround, R_NoRoot, M_TurnError, M_NoShare, M_BadGround, M_NoRoot, M_Rests, ⟨_, M_MOST_PRIME⟩, fk1, fk2, ⟨CL_Rests, nf_Rests_prime, nf_Rests_base⟩, ⟨_, _, MK_Rests, F_Rests___init__, B_Rests___init__⟩, ⟨_, _, F_Rests_has_root, B_Rests_has_root, ME_Rests_has_root⟩, ⟨_, _, F_Rests_root_at, B_Rests_root_at, ME_Rests_root_at⟩⟩⟩
end My
open PySem PySem.W PyProof.Rows
set_option maxRecDepth 100000 in
set_option maxHeartbeats 0 in
theorem PySem.Challenge.cw_turnsums_k10_roots_of_rests_holds : PySem.Challenge.rw_turnsums_k10_roots_of_rests.Holds := by
  w_on; o_law; k_head; (case hw => w_witness2)
  k_fill
  refine L2.walk_of (l := PySem.Challenge.rw_turnsums_k10_roots_of_rests) (n := 63) (k := 8) (x := "_law_script") (CX := fun _ => L2.CX0) (sp := fun w => My.spLaw _) rfl (by decide) rfl ⟨rfl, by decide, by decide⟩ (fun w h Y => PySem.W.kIn_of Y) ?F (fun _ _ a ns hl _ hS => ⟨a, ns, rfl, hS, hl, fun _ => rfl⟩) (fun _ _ _ _ _ h => h)
  case F =>
    intro w mg fa h KX G hmg
    refine' My.all_mk KX G hmg ?g_TurnError ?g_BadGround ?g_NoRoot ?g_NoShare ?g_Rests ?on ?ot ?eT ?hT ?tT ?xL_BadGround ?sa_BadGround ?ga_BadGround ?gg_BadGround ?nw_BadGround ?ii_BadGround ?oc_BadGround ?kC_BadGround ?eC_BadGround ?tC_BadGround ?hC_BadGround ?mo_BadGround ?su_BadGround ?kv_BadGround ?kt_BadGround ?xL_NoRoot ?sa_NoRoot ?ga_NoRoot ?gg_NoRoot ?nw_NoRoot ?ii_NoRoot ?oc_NoRoot ?kC_NoRoot ?eC_NoRoot ?tC_NoRoot ?hC_NoRoot ?mo_NoRoot ?su_NoRoot ?kv_NoRoot ?kt_NoRoot ?lI ?cI ?kI ?tI ?g_MOST_PRIME ?pg_Rests ?hd_Rests ?po_Rests ?sa_Rests ?mk_Rests ?kc_Rests ?nf_Rests_prime ?nf_Rests_base ?at_Rests___init__ ?lk_Rests___init__ ?cn_Rests___init__ ?kp_Rests___init__ ?fn_Rests___init__ ?at_Rests_has_root ?lk_Rests_has_root ?cn_Rests_has_root ?kp_Rests_has_root ?fn_Rests_has_root ?at_Rests_root_at ?lk_Rests_root_at ?cn_Rests_root_at ?kp_Rests_root_at ?fn_Rests_root_at ?fk1 ?fk2 ?a0 ?l0 ?c0 ?k0 ?a1 ?l1 ?c1 ?k1 ?a2 ?l2 ?c2 ?k2 ?a3 ?l3 ?c3 ?k3 ?a4 ?l4 ?c4 ?k4 ?a5 ?l5 ?c5 ?k5 ?a6 ?l6 ?c6 ?k6 ?a7 ?l7 ?c7 ?k7 ?a8 ?l8 ?c8 ?k8 ?a9 ?l9 ?c9 ?k9 ?a10 ?l10 ?c10 ?k10 ?a11 ?l11 ?c11 ?k11 ?a12 ?l12 ?c12 ?k12 ?a13 ?l13 ?c13 ?k13 ?a14 ?l14 ?c14 ?k14 ?z0 ?z1 ?z2 ?z3 ?z4 ?z5 ?z6 ?z7 ?z8 ?z9 ?z10 ?z11 ?z12 ?z13 ?z14 ?z15 ?z16
    (case g_TurnError => first | k_is | rfl)
    (case g_BadGround => first | k_is | rfl)
    (case g_NoRoot => first | k_is | rfl)
    (case g_NoShare => first | k_is | rfl)
    (case g_Rests => first | k_is | rfl)
    (case on => first | k_is | rfl)
    (case ot => first | k_is | rfl)
    (case eT => first | k_is | rfl)
    (case hT => first | k_is | rfl)
    (case tT => first | k_is | rfl)
    (case xL_BadGround => first | k_is | rfl)
    (case sa_BadGround => first | k_is | rfl)
    (case ga_BadGround => first | k_is | rfl)
    (case gg_BadGround => first | k_is | rfl)
    (case nw_BadGround => first | k_is | rfl)
    (case ii_BadGround => first | k_is | rfl)
    (case oc_BadGround => first | k_is | rfl)
    (case kC_BadGround => first | k_is | rfl)
    (case eC_BadGround => first | k_is | rfl)
    (case tC_BadGround => first | k_is | rfl)
    (case hC_BadGround => first | k_is | rfl)
    (case mo_BadGround => first | k_is | rfl)
    (case su_BadGround => first | k_is | rfl)
    (case kv_BadGround => first | k_is | rfl)
    (case kt_BadGround => first | k_is | rfl)
    (case xL_NoRoot => first | k_is | rfl)
    (case sa_NoRoot => first | k_is | rfl)
    (case ga_NoRoot => first | k_is | rfl)
    (case gg_NoRoot => first | k_is | rfl)
    (case nw_NoRoot => first | k_is | rfl)
    (case ii_NoRoot => first | k_is | rfl)
    (case oc_NoRoot => first | k_is | rfl)
    (case kC_NoRoot => first | k_is | rfl)
    (case eC_NoRoot => first | k_is | rfl)
    (case tC_NoRoot => first | k_is | rfl)
    (case hC_NoRoot => first | k_is | rfl)
    (case mo_NoRoot => first | k_is | rfl)
    (case su_NoRoot => first | k_is | rfl)
    (case kv_NoRoot => first | k_is | rfl)
    (case kt_NoRoot => first | k_is | rfl)
    (case lI => first | k_is | rfl)
    (case cI => first | k_is | rfl)
    (case kI => first | k_is | rfl)
    (case tI => first | k_is | rfl)
    (case g_MOST_PRIME => first | k_is | rfl)
    (case pg_Rests => first | k_is | rfl)
    (case hd_Rests => first | k_is | rfl)
    (case po_Rests => first | k_is | rfl)
    (case sa_Rests => first | k_is | rfl)
    (case mk_Rests => first | k_is | rfl)
    (case kc_Rests => first | k_is | rfl)
    (case nf_Rests_prime => first | k_is | rfl)
    (case nf_Rests_base => first | k_is | rfl)
    (case at_Rests___init__ => first | k_is | rfl)
    (case lk_Rests___init__ => first | k_is | rfl)
    (case cn_Rests___init__ => first | k_is | rfl)
    (case kp_Rests___init__ => first | k_is | rfl)
    (case fn_Rests___init__ => first | k_is | rfl)
    (case at_Rests_has_root => first | k_is | rfl)
    (case lk_Rests_has_root => first | k_is | rfl)
    (case cn_Rests_has_root => first | k_is | rfl)
    (case kp_Rests_has_root => first | k_is | rfl)
    (case fn_Rests_has_root => first | k_is | rfl)
    (case at_Rests_root_at => first | k_is | rfl)
    (case lk_Rests_root_at => first | k_is | rfl)
    (case cn_Rests_root_at => first | k_is | rfl)
    (case kp_Rests_root_at => first | k_is | rfl)
    (case fn_Rests_root_at => first | k_is | rfl)
    (case fk1 => first | k_is | rfl)
    (case fk2 => first | k_is | rfl)
    (case a0 => k_is)
    (case l0 => k_is)
    (case c0 => k_is)
    (case k0 => k_is)
    (case a1 => k_is)
    (case l1 => k_is)
    (case c1 => k_is)
    (case k1 => k_is)
    (case a2 => k_is)
    (case l2 => k_is)
    (case c2 => k_is)
    (case k2 => k_is)
    (case a3 => k_is)
    (case l3 => k_is)
    (case c3 => k_is)
    (case k3 => k_is)
    (case a4 => k_is)
    (case l4 => k_is)
    (case c4 => k_is)
    (case k4 => k_is)
    (case a5 => k_is)
    (case l5 => k_is)
    (case c5 => k_is)
    (case k5 => k_is)
    (case a6 => k_is)
    (case l6 => k_is)
    (case c6 => k_is)
    (case k6 => k_is)
    (case a7 => k_is)
    (case l7 => k_is)
    (case c7 => k_is)
    (case k7 => k_is)
    (case a8 => k_is)
    (case l8 => k_is)
    (case c8 => k_is)
    (case k8 => k_is)
    (case a9 => k_is)
    (case l9 => k_is)
    (case c9 => k_is)
    (case k9 => k_is)
    (case a10 => k_is)
    (case l10 => k_is)
    (case c10 => k_is)
    (case k10 => k_is)
    (case a11 => k_is)
    (case l11 => k_is)
    (case c11 => k_is)
    (case k11 => k_is)
    (case a12 => k_is)
    (case l12 => k_is)
    (case c12 => k_is)
    (case k12 => k_is)
    (case a13 => k_is)
    (case l13 => k_is)
    (case c13 => k_is)
    (case k13 => k_is)
    (case a14 => k_is)
    (case l14 => k_is)
    (case c14 => k_is)
    (case k14 => k_is)
    (case z0 => k_is)
    (case z1 => k_is)
    (case z2 => k_is)
    (case z3 => k_is)
    (case z4 => k_is)
    (case z5 => k_is)
    (case z6 => k_is)
    (case z7 => k_is)
    (case z8 => k_is)
    (case z9 => k_is)
    (case z10 => k_is)
    (case z11 => k_is)
    (case z12 => k_is)
    (case z13 => k_is)
    (case z14 => k_is)
    (case z15 => k_is)
    (case z16 => k_is)

