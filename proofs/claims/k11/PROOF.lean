import PyProof.Rows.All
import Wide.All
import OpenK.AllK
import Wide.FinOn
import HandS.ForMost
import HandS.IsInst
import HandS.Style
import HandS.Wide
import HandS.WideMore
import HandS.Zip
import HandS.Flow
import HandS.SetFor
import HandS.Strs
import HandS.SortInts
import HandS.ExcInit
import HandS.ExcField
import HandS.ExcIs
import HandS.ExcValue
import HandS.WordsExc
import HandS.NoneIn
import HandS.Conv
import KE.KExcIs
import PySem.Challenge.RW_turnsums_k11_wheels
set_option Elab.async false
set_option linter.all false
set_option maxRecDepth 100000
set_option maxHeartbeats 4000000
namespace My
open PySem L2
def top (i : Nat) : Stmt := PySem.Challenge.pw_turnsums_k11_wheels.main.body.getD i (.Pass ⟨0, 0, 0, 0⟩)
/-- a def of the text: where it stands, how it is called -/
structure Df (K : PySem.W.Frag) (mg : Str → Option Value) (x : Str) (st : Stmt) (ps : List Str) (f : Addr) (fd : FuncData) : Prop where
  F : Fun K x x st f fd
  b : Binds K fd ps []
  g : mg x = some (.ref f)
/-! heaps: all but the box stays -/
theorem same_upd {H H' : Hp} {p : Addr} {o : HO} (h : Same H H') (n : H' p = none) : Same H (upd H' p o) := fun b x e => by
  rw [upd_ne (ne_of_none (h b x e) n)]
  exact h b x e
theorem same_new {H : Hp} {p : Addr} {o : HO} (n : H p = none) : Same H (upd H p o) := same_upd (Same.refl H) n
theorem same_mut {H H' : Hp} {p : Addr} {o : HO} (h : Same H H') (n : H p = none) : Same H (upd H' p o) := fun b x e => by
  rw [upd_ne (ne_of_none e n)]
  exact h b x e
theorem same_t {K : PySem.W.Frag} {H H' : Hp} {a : Addr} {xs : List V} (e : Same H H') (h : SqT K H a xs) : SqT K H' a xs := by
  rcases h with (h | ⟨o, h⟩) | h
  · exact .inl (.inl (e _ _ h))
  · exact .inl (.inr ⟨o, e _ _ h⟩)
  · exact .inr h
def Keep (b : Addr) (H H' : Hp) : Prop := ∀ a o, a ≠ b → H a = some o → H' a = some o
theorem Keep.refl (b : Addr) (H : Hp) : Keep b H H := fun _ _ _ h => h
theorem Keep.trans {b : Addr} {H H1 H2 : Hp} (a : Keep b H H1) (c : Keep b H1 H2) : Keep b H H2 := fun x o n h => c x o n (a x o n h)
theorem keepS {b : Addr} {H H' : Hp} (h : Same H H') : Keep b H H' := fun x o _ e => h x o e
theorem keep_same {b : Addr} {H0 H H' : Hp} (a : Same H0 H) (n : H0 b = none) (k : Keep b H H') : Same H0 H' := fun x o e => k x o (ne_of_none e n) (a x o e)
theorem keep_upd {b : Addr} {H H' : Hp} {o : HO} (h : Keep b H H') : Keep b H (upd H' b o) := fun a u n e => by
  rw [upd_ne n]
  exact h a u n e
theorem keep_new {b p : Addr} {H H' : Hp} {o : HO} (h : Keep b H H') (n : H' p = none) : Keep b H (upd H' p o) := fun a u na e => by
  rw [upd_ne (ne_of_none (h a u na e) n)]
  exact h a u na e
theorem Keep.seq {K : PySem.W.Frag} {b a : Addr} {H H' : Hp} {xs : List V} (e : Keep b H H') (n : a ≠ b) (h : SqL K H a xs) : SqL K H' a xs := by
  rcases h with (h | ⟨o, h⟩) | h
  · exact .inl (.inl (e _ _ n h))
  · exact .inl (.inr ⟨o, e _ _ n h⟩)
  · exact .inr h
def BoxAt (H : Hp) (b : Addr) (n : Int) : Prop := ∃ x y z : Int, H b = some (.lst [.int x, .int y, .int z]) ∧ 0 ≤ x ∧ 0 ≤ y ∧ y ≤ 4294967296 ∧ 0 ≤ z ∧ z ≤ n
theorem BoxAt.mono {H : Hp} {b : Addr} {n m : Int} (h : BoxAt H b n) (e : n ≤ m) : BoxAt H b m := by
  obtain ⟨x, y, z, a1, a2, a3, a4, a5, a6⟩ := h
  exact ⟨x, y, z, a1, a2, a3, a4, a5, by omega⟩
theorem BoxAt.same {H H' : Hp} {b : Addr} {n : Int} (h : BoxAt H b n) (e : Same H H') : BoxAt H' b n := by
  obtain ⟨x, y, z, a1, a2⟩ := h
  exact ⟨x, y, z, e _ _ a1, a2⟩
theorem BoxAt.some {H : Hp} {b : Addr} {n : Int} (h : BoxAt H b n) : ∃ o, H b = some o := by
  obtain ⟨x, y, z, a1, a2⟩ := h
  exact ⟨_, a1⟩
theorem BoxAt.ne {H : Hp} {b p : Addr} {n : Int} (h : BoxAt H b n) (e : H p = none) : p ≠ b := by
  obtain ⟨o, h⟩ := h.some
  exact (ne_of_none h e).symm
theorem szl {n : Nat} (h : n ≤ 60000) : n ≤ sizeLine := Nat.le_trans h (by decide)
theorem szm {n : Nat} (h : n ≤ 60000) : n < sizeLine := Nat.lt_of_le_of_lt h (by decide)
theorem pw6 : (10 : Int) ^ Int.toNat 6 = 1000000 := by decide
theorem pw9 : (10 : Int) ^ Int.toNat 9 = 1000000000 := by decide
theorem newO {H H' : Hp} {p : Addr} {o : HO} (e : upd H p o = H') (hp : H p = none) : Same H H' ∧ H' p = some o := by
  subst e
  exact ⟨same_new hp, upd_same⟩
theorem mutO {H H' : Hp} {p : Addr} {o : HO} (e : upd H p o = H') : Keep p H H' ∧ H' p = some o := by
  subst e
  exact ⟨keep_upd (Keep.refl _ _), upd_same⟩
/-- a word of ours that the walk must not open -/
inductive Hold (p : Prop) : Prop
  | mk : p → Hold p
theorem Hold.un {p : Prop} (h : Hold p) : p := by
  cases h with
  | mk h => exact h
theorem holdN {W : Nat → L2.St → Hp → Prop} {m : Nat} : ∀ (σ' : L2.St) (H' : Hp), Hold (∃ m', m' < m ∧ W m' σ' H') → ∃ m', m' < m ∧ W m' σ' H' := fun _ _ h => h.un
theorem ite_dec {c A B : Prop} [Decidable c] (hc : c) (h : A) : if decide c = true then A else B := by
  rw [decide_eq_true hc]
  exact iteT h
def rLenQ (K : PySem.W.Frag) : List V → Hp → VK → Prop := fun xs H Q => ∃ p ys, xs = [.ref p] ∧ (SqL K H p ys ∨ SqT K H p ys) ∧ Q (.int ys.length) H
theorem iteTe {b : Bool} {A B : Prop} (e : b = true) (h : A) : if b = true then A else B := by
  rw [if_pos e]
  exact h
theorem iteFe {b : Bool} {A B : Prop} (e : b = false) (h : B) : if b = true then A else B := by
  rw [e]
  exact iteF h
theorem cmul_b {i : Int} {b : Bool} : CMul i (if b then 1 else 0) := by
  refine .inr ?_
  cases b <;> exact ⟨by decide, by decide⟩
theorem at_ints {ns : List Int} {k : Int} (h0 : 0 ≤ k) (h : k < (ns.length : Int)) : ∃ c, c ∈ ns ∧ atI (ns.map V.int) k = some (.int c) := by
  have hk : k.toNat < ns.length := by omega
  refine ⟨ns[k.toNat], List.getElem_mem hk, at_of (j := k.toNat) (by omega) ?_⟩
  rw [List.getElem?_map, List.getElem?_eq_getElem hk]
  rfl
theorem at_some {xs : List V} {k : Int} (h0 : 0 ≤ k) (h : k < (xs.length : Int)) : ∃ v, v ∈ xs ∧ atI xs k = some v := by
  have hk : k.toNat < xs.length := by omega
  exact ⟨xs[k.toNat], List.getElem_mem hk, at_of (j := k.toNat) (by omega) (List.getElem?_eq_getElem hk)⟩
theorem int_mem {ns : List Int} {v : V} (h : v ∈ ns.map V.int) : ∃ c, c ∈ ns ∧ v = .int c := by
  obtain ⟨c, hc, e⟩ := List.mem_map.mp h
  exact ⟨c, hc, e.symm⟩
structure Blt (mg : Str → Option Value) : Prop where
  b_abs : mg "abs" = none
  b_all : mg "all" = none
  b_bool : mg "bool" = none
  b_enumerate : mg "enumerate" = none
  b_int : mg "int" = none
  b_isinstance : mg "isinstance" = none
  b_len : mg "len" = none
  b_list : mg "list" = none
  b_max : mg "max" = none
  b_min : mg "min" = none
  b_range : mg "range" = none
  b_set : mg "set" = none
  b_sorted : mg "sorted" = none
  b_str : mg "str" = none
  b_tuple : mg "tuple" = none
  b_zip : mg "zip" = none
/-! ### sorted(set(xs)), xs a list of few ints -/
section
open PySem.Spec PyProof.Rows PySem.Calls
abbrev bareSet (w : World) : Obj := { cls := .type "set", dict := none, data := .set #[] 0 (.fresh 0 0 (!w.params.followText "set-order")) }
/-- what set(xs) leaves behind -/
def SetLeft (w : World) (s : Shared) (ns : List Int) (h' : Heap) (c : Nat) : Prop := SetR w h' s.heap.objs.size (fun j => decide (j ∈ ns)) c ∧ c ≤ ns.length ∧ ∀ b o, s.heap.get? b = some o → h'.get? b = some o
variable {P : Program} {w : World} {A : Around} {E : Value → Shared → Prop} {s : Shared}
theorem items_ints {items : Array Value} {ns : List Int} (hi : IntsAre items.toList ns) (i : Nat) (v : Value) (hv : items[i]? = some v) : ∃ k t, ns[i]? = some k ∧ v = .int k t := by
  have hl : items.size = ns.length := by
    rw [← Array.length_toList]
    exact hi.length
  have hlt : i < ns.length := by
    rw [← hl]
    exact (Array.getElem?_eq_some_iff.mp hv).1
  obtain ⟨t, e⟩ := hi.int_at i v (by rw [Array.getElem?_toList]; exact hv)
  refine ⟨ns[i], t, List.getElem?_eq_getElem hlt, e.trans ?_⟩
  rw [List.getD_eq_getElem?_getD, List.getElem?_eq_getElem hlt]
  rfl
set_option maxHeartbeats 3200000 in
theorem set_of_list {l : Addr} {items : Array Value} {ns : List Int} {Q : Value → Shared → Prop} (hh : A.handled = none) (hl : s.heap.IsList l items) (hi : IntsAre items.toList ns) (hb : ns.length + 1 < scanBound)
    (h : ∀ (h' : Heap) (tk c : Nat), SetLeft w s ns h' c → Q (.ref s.heap.objs.size) { s with heap := h', toks := tk }) : wpAny (model P w) A (call (.type "set") [.ref l]) Q E s := by
  have hsz : items.size = ns.length := by
    rw [← Array.length_toList]
    exact hi.length
  obtain ⟨mc, mt, hmro⟩ := F.called_set.mro
  have a1 := F.called_set.made; have a2 := F.called_set.sub; have a3 := F.called_set.notType; have a4 := F.called_set.canCreate; have a5 := F.typeCall_set_1 (.ref l)
  refine wpAny_call (codeAny_of_tree (show wpAny _ _ (callAny (.type "set") _) _ _ _ from wpAny_pure ⟨Code.quiet_builtin _ (by decide +kernel), codeAny_builtin F.entry_type_call ?_⟩))
  rw [Around.under_plain (weight_type_call_type "set" [.ref l] []) rfl]; repeat (any_goals (first | assumption | wp_step))
  refine codeAny_mono (code_set_led1 (.ref l) (E := E) (Q₁ := fun v s' => v = .ref s.heap.objs.size ∧ s' = { s with heap := s.heap.push (bareSet w) }) ⟨rfl, rfl⟩) fun res s1 hres => ?_
  match res, hres with
  | .error e, hres => exact hres
  | .ok .next, hres => exact hres.elim
  | .ok .cont, hres => exact hres.elim
  | .ok .brk, hres => exact hres.elim
  | .ok (.ret v), hres =>
    obtain ⟨rfl, rfl⟩ := hres
    have g0 : (s.heap.push (bareSet w)).get? s.heap.objs.size = some (bareSet w) := Heap.get?_push_size _ rfl
    have ty0 : Shared.TypeIs { s with heap := s.heap.push (bareSet w) } (.ref s.heap.objs.size) "set" := ⟨_, g0, rfl⟩
    have i1 := F.called_set.init.lookup; have i2 := F.called_set.init.bind (.ref s.heap.objs.size)
    repeat (any_goals (first | assumption | wp_step))
    refine codeAny_mono (codeAny_call_builtin (R := wants (fun v s' => v = .none ∧ ∃ h' tk c, s' = { s with heap := h', toks := tk } ∧ SetLeft w s ns h' c) E) F.called_set.init.plain F.entry_set_init (check_set_init_1 ty0 ?_)) fun res2 s2 hres2 => ?_
    · obtain ⟨⟨lc, ld, la, ls⟩, hol, hcl, nl, hdl⟩ := hl
      simp only at hcl hdl; subst hcl; subst hdl
      have hol1 := Heap.get?_push_of_some (bareSet w) hol
      have hL1 : (s.heap.push (bareSet w)).IsList l items := ⟨_, hol1, rfl, nl, rfl⟩
      have n1 := F.sub_list_set; have n2 := F.sub_list_frozenset; have n3 : (Value.type "list" == Value.type "dict") = false := by decide
      unfold Builtin.«set.__init__» noKeywords Builtin.Frozenset.updateFrom; generalize hgo : pyIter = go; wp_walk; subst hgo
      refine wpAny_pyIter_list hL1 (wpAny_bind (wpAny_runValue ?_))
      have ll := Heap.lt_size hol
      have hhd : A.in1.in1.in1.handled = none := by simp [hh]
      have sz1 : (s.heap.push (bareSet w)).objs.size = s.heap.objs.size + 1 := Heap.size_push ..
      have off : l ≠ (s.heap.push (bareSet w)).objs.size := by rw [sz1]; exact Nat.ne_of_lt (Nat.lt_succ_of_lt ll)
      have out : s.heap.objs.size ∉ [(s.heap.push (bareSet w)).objs.size, l] := by
        intro z
        rcases List.mem_cons.mp z with z | z
        · rw [sz1] at z
          exact absurd z (Nat.ne_of_lt (Nat.lt_succ_self _))
        · exact absurd (List.mem_singleton.mp z) (Nat.ne_of_gt ll)
      refine set_update_ints ((Walks.list hhd _ l off items).toS) s.heap.objs.size out ns hsz hb (items_ints hi) (items.size - 0) 0 _ (by omega) (Nat.zero_le _) ⟨⟨_, Heap.get?_push_size _ rfl, rfl, rfl⟩, hL1.push _⟩ ⟨0, Nat.le_refl 0, setR_new_at (Heap.get?_push_of_some _ g0)⟩ ?_
      rintro ⟨h', g', d', tk', os'⟩ c' hm hc' hS'
      obtain ⟨e1, e2, e3⟩ := (show g' = s.gens ∧ d' = s.drawn ∧ os' = s.os from ⟨hm.gens, hm.drawn, hm.os⟩)
      subst e1; subst e2; subst e3
      refine wpAny_pure (show wpAny _ _ (ret Value.none) _ _ _ from wpAny_pure ⟨rfl, h', tk', c', rfl, hS', by omega, fun b o e => ?_⟩)
      have lb := Heap.lt_size e
      refine hm.heap b o ?_ (Heap.get?_push_of_some _ (Heap.get?_push_of_some _ e))
      intro z
      rcases List.mem_cons.mp z with z | z
      · exact absurd z (Nat.ne_of_lt lb)
      · have z2 := List.mem_singleton.mp z
        rw [sz1] at z2
        exact absurd z2 (Nat.ne_of_lt (Nat.lt_succ_of_lt lb))
    · match res2, hres2 with
      | .error e, hres2 => exact hres2
      | .ok .next, hres2 => exact hres2.elim
      | .ok .cont, hres2 => exact hres2.elim
      | .ok .brk, hres2 => exact hres2.elim
      | .ok (.ret v2), hres2 =>
        obtain ⟨rfl, h', tk, c', rfl, hS'⟩ := hres2
        repeat (any_goals (first | assumption | wp_step))
        exact h _ _ _ hS'
end
open PySem.Spec PyProof.Rows in
/-- sorted of a set of ints, however many -/
theorem set_sorted {P : Program} {w : World} {A : Around} {E : Value → Shared → Prop} {s : Shared} {a : Addr} {S : Int → Bool} {n : Nat} {Q : Value → Shared → Prop} (R : SetR w s.heap a S n) (hh : A.handled = none)
    (q : ∀ s' p (out : List Value) (c : Nat) (ms : List Int), (∀ b o, s.heap.get? b = some o → s'.heap.get? b = some o) → s'.gens = s.gens → s'.os = s.os → s.heap.objs.size ≤ p →
      s'.heap.get? p = some (seqObj "list" out.toArray c) → IntsAre out ms → ms.Pairwise (· < ·) → (∀ k, k ∈ ms ↔ S k = true) → ms.length = n → Q (.ref p) s') : wpAny (model P w) A (call (.builtin "sorted") [.ref a]) Q E s := by
  obtain ⟨o, es, ep, t, g1, g2, g3, good, nod, mem, g4, g5, g6, g7, g8⟩ := R
  refine Calls.call_function_entry kind_sorted plain_sorted entry_sorted (args_sorted1 _) ?_; unfold Builtin.«sorted»
  refine wpAny_bind (m := checkCount "sorted" 1 1 _) (wpAny_pure (wpAny_bind (collect_set (A := A.in1) hh ⟨o, g1, g2.1, g3⟩ g5 g4 g7 g8 fun s1 vs k1 z1 e1 e2 pm => ?_)))
  have len : vs.length = n := by
    rw [pm.length_eq, List.length_map, Array.length_toList]
    exact g6
  have ivs : ∀ e ∈ es.toList, SrtO.iv e.2 = keyOf e := fun e he => by
    obtain ⟨k, tk, h1, _⟩ := good e he
    unfold keyOf
    rw [h1]
    rfl
  have hI : IntsAre vs (vs.map SrtO.iv) := SrtO.ints_iv fun v hv => by
    obtain ⟨e, he, ev⟩ := List.mem_map.mp (pm.mem_iff.mp hv)
    obtain ⟨k, tk, h1, _⟩ := good e he
    exact ⟨k, tk, ev.symm.trans h1⟩
  have prm : (vs.map SrtO.iv).Perm (es.toList.map keyOf) := by
    refine (pm.map SrtO.iv).trans ?_
    rw [List.map_map]
    exact List.Perm.of_eq (List.map_congr_left ivs)
  have zn : n ≤ sizeLine := by
    unfold scanBound at g4
    exact szl (by omega)
  refine wpAny_bind (wpAny_newList ?_ (by rw [len]; exact zn))
  have at1 : (s1.heap.push (seqObj "list" vs.toArray 0)).get? s1.heap.objs.size = some (seqObj "list" vs.toArray 0) := Heap.get?_push_size _ rfl
  refine wpAny_bind (wpAny_holding (wpAny_call_entry slot_list_sort ⟨_, at1, rfl⟩ entry_list_sort (SrtO.list_sort_ord SrtO.swo_int at1 (by rw [len]; exact zn) (fun two => SrtO.ints_sortable hI two) fun out o1 o2 => ⟨_, rfl, ?_⟩) (args_list_sort _)))
  obtain ⟨j1, j2, j3⟩ := SrtO.ints_out hI o1 o2
  obtain ⟨c, at2⟩ := sortedHeap_at (vs := vs) (out := out.toArray) at1
  have prm2 := j2.trans prm
  refine wpAny_pure ⟨_, rfl, q _ s1.heap.objs.size out c _ (fun b u e => ?_) e1 e2 z1 at2 j1 (lt_of_le_nodup _ j3 (prm2.nodup_iff.mpr nod)) (fun k => by rw [prm2.mem_iff, ← mem k]) (by rw [prm2.length_eq, List.length_map, Array.length_toList]; exact g6)⟩
  have e3 := k1 b u e
  have l3 := Heap.lt_size e3
  exact (sortedHeap_old (vs := vs) (out := out.toArray) (Nat.ne_of_lt l3) (by rw [size_push']; exact Nat.lt_succ_of_lt l3)).trans (Heap.get?_push_of_some _ e3)
def tSortSet (K : PySem.W.Frag) (ta : TE) : TE := fun σ H Q => ta σ H fun x H1 => ∃ (l : Addr) (ns : List Int), x = .ref l ∧ SqL K H1 l (ns.map V.int) ∧ ns.length ≤ 4000 ∧
  ∀ (out : List Int) (p : Addr), H1 p = none → out.Pairwise (· < ·) → (∀ k, k ∈ out ↔ k ∈ ns) → out.length ≤ ns.length → Q (.ref p) (upd H1 p (.lst (out.map V.int)))
open PySem.Spec PyProof.Rows in
theorem pe_sortSet {X : Cx} {a : Expr} {ta : TE} {p p2 q pos : Pos} (hg : Gl X "sorted") (hm : X.mg "sorted" = none) (hg2 : Gl X "set") (hm2 : X.mg "set" = none) (ha : PE X a ta) (hc : X.calm = true := by rfl)
    (na : starEach [a] X.env = (false, eval a X.env) :: starEach [] X.env := by rfl) : PE X (.Call (.Name "sorted" p) [.Call (.Name "set" p2) [a] [] q] [] pos) (tSortSet X.K ta) := by
  refine ⟨fun pins s σ H Q I h => ?_⟩
  refine Call_ (ld_blt I hg hm boot_sorted (callWith_builtin1 (args_cons (Call_ (ld_blt I hg2 hm2 boot_set (callWith_type1 (args_cons (thn (ha.run pins s σ H _ I h) fun v s1 ⟨x, H1, I1, r1, q1⟩ => args_nil ?_) na) na rfl))) rfl) rfl rfl))
  obtain ⟨l, ns, rfl, hq, hn, q1⟩ := q1
  cases r1
  obtain ⟨its, r, pl, hz⟩ := I1.list hq
  have hd := I1.ok.hd hc
  refine set_of_list hd pl.isList (by simpa using ints_of_vals r) (by unfold scanBound; omega) fun h' tk c hL => args_nil ?_
  obtain ⟨R1, hcn, kept⟩ := hL
  refine set_sorted (s := { s1 with heap := h', toks := tk }) R1 hd fun s' pp out cc ms k g o hp hgt hi hs hmem hlen => ?_
  have kk : ∀ b u, s1.heap.get? b = some u → s'.heap.get? b = some u := fun b u e => k b u (kept b u e)
  have hpp : s1.heap.objs.size ≤ pp := Nat.le_trans (Nat.le_of_lt R1.lt) hp
  have fr : H1 pp = none := I1.hok.fresh hpp
  have sl : (ms.map V.int).length ≤ sizeLine := by
    rw [List.length_map, hlen]
    exact szl (by omega)
  have hos : s'.os = s1.os := o
  have J : Inv X pins σ (upd H1 pp (.lst (ms.map V.int))) { s1 with heap := s'.heap, gens := s'.gens, drawn := s'.drawn, toks := s'.toks } :=
    I1.call (ch := []) (Un.laid kk hpp fr) (I1.hok.laid kk hpp ⟨sl, out, cc, vals_of_ints hi, hgt⟩) (by rw [g]; exact I1.bare) (fun _ z => nomatch z)
  have es : s' = { s1 with heap := s'.heap, gens := s'.gens, drawn := s'.drawn, toks := s'.toks } := by
    obtain ⟨b1, b2, b3, b4, b5⟩ := s'
    simp only at hos
    subst hos
    rfl
  rw [es]
  exact ⟨.ref pp, _, J, rfl, q1 ms pp fr hs (fun j => (hmem j).trans decide_eq_true_iff) (by omega)⟩
local macro_rules | `(tactic| walk_at "ev1") => `(tactic| first
  | with_reducible assumption
  | ((with_reducible show _ = _); exact rfl)
  | ((first | with_reducible show (_ : Int) = _ | with_reducible show (_ : Int) < _ | with_reducible show (_ : Int) ≤ _ | with_reducible show (_ : Nat) < _ | with_reducible show (_ : Nat) ≤ _); first | omega | decide | (simp only [pw6, pw9]; omega) | (simp only [List.length_cons, List.length_nil, List.length_append, List.length_map, List.length_replicate]; omega))
  | assumption
  | exact upd_same
  | exact SqL.of upd_same
  | exact Or.inl (SqL.of upd_same)
  | exact Or.inl (by assumption)
  | exact Or.inr (by assumption)
  | omega
  | exact (show CDiv _ _ from ⟨by omega, by omega⟩)
  | exact (show CPow _ _ from ⟨by omega, by omega, by omega⟩)
  | exact (show CMul _ _ from .inl ⟨by omega, by omega⟩)
  | exact (show CMul _ _ from .inr ⟨by omega, by omega⟩)
  | exact (show CMul _ _ from cmul_b)
  | exact (show CDivW _ _ from wide_div (b := 31) (by omega) (by omega) (by decide) (by decide))
  | exact (Or.inl ⟨rfl, _, SqL.of (by assumption)⟩)
  | exact ClsV.ty _
  | exact .cons (.ty _) (.cons (.ty _) .nil)
  | (refine szl ?_; simp only [List.length_cons, List.length_nil, List.length_append, List.length_map, List.length_replicate]; omega)
  | (refine szm ?_; simp only [List.length_cons, List.length_nil, List.length_append, List.length_map, List.length_replicate]; omega))
local macro_rules | `(tactic| walk_at "s") => `(tactic| (first
  | (refine And.intro ?l ?_; (case l => walk_at "ev1"))
  | with_reducible refine iteT ?_
  | with_reducible refine iteF ?_
  | with_reducible refine ite_dec rfl ?_
  | with_reducible refine iteNS rfl ?_
  | with_reducible refine iteNS (by assumption) ?_
  | (apply Or.inl; apply Exists.intro; apply And.intro rfl)
  | (apply Or.inr; apply Exists.intro; apply And.intro rfl)
  | ((fail_if_success (refine @Exists.intro (Nat → Nat → L2.St → Hp → Prop) _ ?_ ?_)); (fail_if_success (refine @Exists.intro (Nat → L2.St → Hp → Prop) _ ?_ ?_)); (fail_if_success (refine @Exists.intro (L2.St → Hp → Prop) _ ?_ ?_)); (fail_if_success (refine @Exists.intro (Hp → Prop) _ ?_ ?_)); (fail_if_success (refine @Exists.intro (Nat → Nat → Hp → Prop) _ ?_ ?_)); apply Exists.intro)))
local macro_rules | `(tactic| walk_at "ev") => `(tactic| repeat (walk_at "s"))
local macro_rules | `(tactic| w_cond $i:ident) => do
  let b := (i.getId.toString.drop 1).toString
  let l := Lean.mkIdent (.mkSimple ("l" ++ b))
  let hl := Lean.mkIdent (.mkSimple ("hl" ++ b))
  let h := Lean.mkIdent (.mkSimple ("H" ++ b))
  let sm := Lean.mkIdent (.mkSimple ("sm" ++ b))
  let hq := Lean.mkIdent (.mkSimple ("hq" ++ b))
  `(tactic| (intro $l:ident $hl:ident; generalize hG : upd _ $l:ident _ = $h:ident; obtain ⟨$sm:ident, $hq:ident⟩ := newO hG $hl:ident; clear hG))
/-! ### xs[i] op= e, xs a list -/
section
open PySem.Spec PyProof.Rows
variable {X : Cx}
theorem get_list : PGet X (rIxL X.K) := by
  intro pins s σ H o i ov iv Q I ro ri h
  obtain ⟨p, xs, k, z, rfl, rfl, hq, he, q⟩ := h
  cases ro
  obtain ⟨t, rfl⟩ := ri
  obtain ⟨its, r, pl, hz⟩ := I.list hq
  obtain ⟨j, h1, h2, h3, h4, h5⟩ := atI_get he
  obtain ⟨w, ew, rw'⟩ := r.get h2
  have hl := r.length
  have hn := line63
  have fin : EP X pins σ Q w s := ⟨z, H, I, rw', q⟩
  by_cases h0 : 0 ≤ k
  · have hj : k.toNat = j := by
      rw [seqIndex_of h0 h5] at h1
      exact Option.some.inj h1
    exact wpAny_getItem_list pl.isList h0 (by omega) (by rw [hj]; simpa using ew) fin
  · have hj : (k + (its.toArray.size : Int)).toNat = j := by
      rw [seqIndex_neg (by omega) h4] at h1
      rw [List.size_toArray, ← hl]
      exact Option.some.inj h1
    exact wpAny_getItem_list_neg pl.isList (by omega) (by rw [List.size_toArray] <;> omega) (by omega) (by rw [hj]; simpa using ew) fin
end
/-! ### the drawing -/
theorem log2_lt60 {t : Int} (h0 : 0 < t) (h : t < 1152921504606846976) : t.natAbs.log2 < 9000 := by
  have h1 : t.natAbs < 2 ^ 60 := by
    have : (2 : Nat) ^ 60 = 1152921504606846976 := by decide
    omega
  exact Nat.lt_trans ((Nat.log2_lt (by omega)).mpr h1) (by decide)
abbrev s__law_take : Stmt := top 9
abbrev N__law_take : List Str := ["_law_box_here", "_law_top", "_law_found", "_law_once"]
abbrev P__law_take : List Str := ["_law_box_here", "_law_top"]
theorem sc__law_take : FnScope N__law_take P__law_take (defScope s__law_take) := ⟨rfl, rfl, rfl, by decide +kernel, rfl, by decide +kernel, by decide +kernel⟩
def spTake : Sp := fun vs H Q _ => ∃ (b : Addr) (top n : Int), vs = [.ref b, .int top] ∧ BoxAt H b n ∧ 0 < top ∧ top < 1152921504606846976 ∧ n < 1048576 ∧ ∀ r H', 0 ≤ r → r < top → Keep b H H' → BoxAt H' b (n + 1) → Q (.int r) H'
section
variable {P : Program} {w : World} {K : PySem.W.Frag} {mg : Str → Option Value} {base : Heap}
theorem ok_take {f : Addr} {fd : FuncData} {k : Nat} (F : Fun K "_law_take" "_law_take" s__law_take f fd) : FnOk P w K mg base CX0 (k + 1) f fd P__law_take spTake := by
  have nd := sc__law_take.nd
  refine F.ok sc__law_take (fun vs H Q E h => ?_) (fun cdv A outer s H vs Q E hr h => ?_)
  · obtain ⟨b, top, n, rfl, _⟩ := h
    rfl
  · obtain ⟨b, top, n, rfl, ⟨x, y, z, hb, hx, hy, hy2, hz, hzn⟩, ht, ht2, hn, q⟩ := h
    refine ⟨_, (pss_cons (ps_if (pt_cmpR op_gt (pe_ix (r := rIxL K) ix_list (pv 0) (pe_int) (fun _ _ => rfl)) (pe_int) (nomark _)) (pss_cons (ps_set (i := 2) nd rfl (Or.inl rfl) (pe_op op_mod (pe_ix (r := rIxL K) ix_list (pv 0) (pe_int) (fun _ _ => rfl)) (pv 1)))
      (pss_cons (ps_asg (pe_op op_fdivW (pe_ix (r := rIxL K) ix_list (pv 0) (pe_int) (fun _ _ => rfl)) (pv 1)) (pg_sub (pv 0) (pe_int) set_list))
      (pss_one (ps_ret (pv 2))))) pss_nil)
      (pss_cons (ps_asg (pe_op op_add (pe_ix (r := rIxL K) ix_list (pv 0) (pe_int) (fun _ _ => rfl)) (pe_int)) (pg_sub (pv 0) (pe_int) set_list))
      (pss_cons (ps_set (i := 3) nd rfl (Or.inl rfl) (pe_op op_mod (pe_op op_pow (pe_op op_add (pe_ix (r := rIxL K) ix_list (pv 0) (pe_int) (fun _ _ => rfl)) (pe_op op_mul (pe_int) (pe_ix (r := rIxL K) ix_list (pv 0) (pe_int) (fun _ _ => rfl)))) (pe_int)) (pe_int)))
      (pss_one (ps_ret (pe_op op_mod (pe_op op_fdivW (pe_op op_mod (pe_op op_add (pe_op op_mul (pv 3) (pe_op op_add (pe_op op_mod (pv 3) (pe_int)) (pe_int))) (pe_op op_mul (pe_ix (r := rIxL K) ix_list (pv 0) (pe_int) (fun _ _ => rfl)) (pe_int))) (pe_int)) (pe_int)) (pv 1))))))), ?_⟩
    have hL : SqL K H b [.int x, .int y, .int z] := SqL.of hb
    have cw : ∀ i : Int, CDivW i top := fun i => ⟨ht, log2_lt60 ht ht2⟩
    have cw6 : ∀ i : Int, CDivW i 64 := fun i => ⟨by decide, by decide⟩
    have cw1 := cw x
    walk_at "ev"
    refine ite2 (fun e => ?_) (fun e => ?_)
    · have e1 : 0 < x := of_decide_eq_true e
      walk_at "ev"
      exact q _ _ (Int.emod_nonneg _ (by omega)) (Int.emod_lt_of_pos _ ht) (keep_upd (Keep.refl _ _)) ⟨_, _, _, upd_same, Int.ediv_nonneg hx (by omega), hy, hy2, hz, by omega⟩
    · walk_at "ev"
      exact q _ _ (Int.emod_nonneg _ (by omega)) (Int.emod_lt_of_pos _ ht) (keep_upd (Keep.refl _ _)) ⟨_, _, _, upd_same, hx, hy, hy2, by omega, by omega⟩
end
abbrev s__law_box : Stmt := top 8
abbrev N__law_box : List Str := ["_law_script", "_law_k", "_law_cell"]
abbrev P__law_box : List Str := ["_law_script", "_law_k"]
theorem sc__law_box : FnScope N__law_box P__law_box (defScope s__law_box) := ⟨rfl, rfl, rfl, by decide +kernel, rfl, by decide +kernel, by decide +kernel⟩
def spBox (K : PySem.W.Frag) : Sp := fun vs H Q _ => ∃ (a : Addr) (ns : List Int) (k : Int), vs = [.ref a, .int k] ∧ SqL K H a (ns.map V.int) ∧ 0 ≤ k ∧ k ≤ 100000 ∧ ∀ p H', H p = none → Same H H' → BoxAt H' p 0 → Q (.ref p) H'
section
variable {P : Program} {w : World} {K : PySem.W.Frag} {mg : Str → Option Value} {base : Heap}
theorem ok_box {f : Addr} {fd : FuncData} {k : Nat} (F : Fun K "_law_box" "_law_box" s__law_box f fd) (T : Blt mg) : FnOk P w K mg base CX0 (k + 1) f fd P__law_box (spBox K) := by
  have nd := sc__law_box.nd
  refine F.ok sc__law_box (fun vs H Q E h => ?_) (fun cdv A outer s H vs Q E hr h => ?_)
  · obtain ⟨b, top, n, rfl, _⟩ := h
    rfl
  · obtain ⟨a, ns, k, rfl, hL, h0, h1, q⟩ := h
    refine ⟨_, (pss_cons (ps_set (i := 2) nd rfl (Or.inl rfl) (pe_int))
      (pss_cons (ps_if (pt_cmpR op_lt (pv 1) (pe_callB (r := rLenQ K) call_len_seq (by rfl) T.b_len (by decide +kernel) (pa_cons (pv 0) pa_nil)) (nomark _)) (pss_one (ps_set (i := 2) nd rfl (Or.inl rfl) (pe_ix (r := rIxL K) ix_list (pv 0) (pv 1) (fun _ _ => rfl)))) pss_nil)
      (pss_one (ps_ret (pe_lst (pa_cons (pe_op op_mul (pe_callB call_abs (by rfl) T.b_abs (by decide +kernel) (pa_cons (pv 2) pa_nil)) (pe_callTy call_int1 (by rfl) T.b_int (by decide +kernel) (pa_cons (pe_cmpR op_ge (pe_callB call_abs (by rfl) T.b_abs (by decide +kernel) (pa_cons (pv 2) pa_nil)) (pe_op op_pow (pe_int) (pe_int)) (nomark _)) pa_nil))) (pa_cons (pe_op op_add (pe_op op_add (pe_op op_mod (pv 2) (pe_int)) (pe_op op_mul (pe_int) (pv 1))) (pe_int)) (pa_cons (pe_int) pa_nil)))))))), ?_⟩
    have fin : ∀ c : Int, ∀ p, H p = none → Q (.ref p) (upd H p (.lst [.int ((if c < 0 then -c else c) * (if decide ((10 : Int) ^ 18 ≤ if c < 0 then -c else c) then 1 else 0)), .int (c % 2147483629 + 7919 * k + 11), .int 0])) := by
      intro c p hp
      refine q p _ hp (same_new hp) ⟨_, _, _, upd_same, ?_, ?_, ?_, by omega, by omega⟩
      · refine Int.mul_nonneg ?_ ?_
        · split <;> omega
        · split <;> omega
      · have := Int.emod_nonneg c (show (2147483629 : Int) ≠ 0 by decide)
        omega
      · have := Int.emod_lt_of_pos c (show (0 : Int) < 2147483629 by decide)
        omega
    walk_at "ev"
    refine ite2 (fun e => ?_) (fun e => ?_)
    · have e1 : k < ((ns.map V.int).length : Int) := of_decide_eq_true e
      rw [List.length_map] at e1
      obtain ⟨c, hc, hat⟩ := at_ints h0 e1
      walk_at "ev"
      exact fin c
    · walk_at "ev"
      exact fin 0
end
/-! ### the mathematics of primes -/
def Rough (n d : Int) : Prop := ∀ e : Int, 2 ≤ e → e < d → ¬ e ∣ n
inductive Fac : Int → List Int → Prop
  | one : Fac 1 []
  | cons {n p q : Int} {ps : List Int} : 2 ≤ p → n = p * q → 1 ≤ q → Rough n p → Fac q ps → Fac n (p :: ps)
theorem Fac.uniq : ∀ {n : Int} {xs ys : List Int}, Fac n xs → Fac n ys → xs = ys := by
  intro n xs ys h
  induction h generalizing ys with
  | one =>
    intro k
    cases k with
    | one => rfl
    | cons h1 h2 h3 h4 h5 =>
      rename_i p q ps
      have : 2 * 1 ≤ p * q := Int.mul_le_mul h1 h3 (by omega) (by omega)
      omega
  | cons h1 h2 h3 h4 h5 ih =>
    rename_i n p q ps
    intro k
    cases k with
    | one =>
      have : 2 * 1 ≤ p * q := Int.mul_le_mul h1 h3 (by omega) (by omega)
      omega
    | cons g1 g2 g3 g4 g5 =>
      rename_i p' q' ps'
      have e : p = p' := by
        rcases Int.lt_trichotomy p p' with l | l | l
        · exact absurd ⟨q, h2⟩ (g4 p h1 l)
        · exact l
        · exact absurd ⟨q', g2⟩ (h4 p' g1 l)
      subst e
      have e2 : q = q' := by
        have : p * q = p * q' := by omega
        exact Int.eq_of_mul_eq_mul_left (by omega) this
      subst e2
      rw [ih g5]
theorem Fac.len1 {n : Int} {xs : List Int} (h : Fac n xs) (e : xs.length = 1) : xs = [n] := by
  cases h with
  | one => simp at e
  | cons h1 h2 h3 h4 h5 =>
    rename_i p q ps
    have : ps = [] := by
      cases ps with
      | nil => rfl
      | cons a r => simp at e
    subst this
    cases h5 with
    | one =>
      rw [h2, Int.mul_one]
theorem Fac.self {n : Int} (h : 2 ≤ n) (r : Rough n n) : Fac n [n] := .cons h (by omega) (by omega) r .one
theorem Rough.of_fac {n : Int} (h : Fac n [n]) : 2 ≤ n ∧ Rough n n := by
  cases h with
  | cons h1 h2 h3 h4 h5 => exact ⟨h1, h4⟩
theorem Rough.step {n d : Int} (h : Rough n d) (e : ¬ d ∣ n) : Rough n (d + 1) := fun c h1 h2 => by
  by_cases q : c = d
  · rw [q]; exact e
  · exact h c h1 (by omega)
theorem Rough.quot {n p q d : Int} (h : Rough n d) (e : n = p * q) : Rough q d := fun c h1 h2 k => h c h1 h2 (by rw [e]; exact Int.dvd_trans k (Int.dvd_mul_left p q))
/-- nothing below d divides n, d squared is above n: n has no divisor at all -/
theorem Rough.top {n d : Int} (h : Rough n d) (hd : 2 ≤ d) (hn : 2 ≤ n) (e : n < d * d) : Rough n n := fun c h1 h2 k => by
  obtain ⟨q, hq⟩ := k
  by_cases hc : c < d
  · exact h c h1 hc ⟨q, hq⟩
  · have hq0 : 0 < q := by
      apply Int.lt_of_not_ge
      intro z
      have : c * q ≤ 0 := Int.mul_nonpos_of_nonneg_of_nonpos (by omega) z
      omega
    have hq1 : q ≠ 1 := by
      intro z
      rw [z] at hq
      omega
    have hqd : q < d := by
      apply Int.lt_of_not_ge
      intro z
      have : d * d ≤ c * q := Int.mul_le_mul (by omega) z (by omega) (by omega)
      omega
    exact h q (by omega) hqd ⟨c, by rw [hq, Int.mul_comm]⟩
theorem dvd_iff {n d : Int} : n % d = 0 ↔ d ∣ n := ⟨Int.dvd_of_emod_eq_zero, Int.emod_eq_zero_of_dvd⟩
/-- a divisor taken out -/
theorem Fac.out {n num d : Int} {found : List Int} (h : ∀ ps, Fac num ps → Fac n (found ++ ps)) (hd : 2 ≤ d) (h1 : 1 ≤ num) (r : Rough num d) (e : num % d = 0) :
    (∀ ps, Fac (num / d) ps → Fac n ((found ++ [d]) ++ ps)) ∧ 1 ≤ num / d ∧ Rough (num / d) d ∧ 2 * (num / d) ≤ num := by
  have e1 : num = d * (num / d) := (Int.mul_ediv_cancel' (Int.dvd_of_emod_eq_zero e)).symm
  generalize num / d = q at *
  have q0 : 0 < q := by
    apply Int.lt_of_not_ge
    intro z
    have : d * q ≤ 0 := Int.mul_nonpos_of_nonneg_of_nonpos (by omega) z
    omega
  refine ⟨fun ps f => ?_, q0, r.quot e1, ?_⟩
  · rw [List.append_assoc]
    exact h _ (.cons hd e1 q0 r f)
  · have : 2 * q ≤ d * q := Int.mul_le_mul_of_nonneg_right hd (by omega)
    omega
theorem pow_len {L : Nat} {num n : Int} (h : 2 ^ L * num.toNat ≤ n.toNat) (h1 : 1 ≤ num) (hn : n ≤ 1000000000) : L ≤ 30 := by
  apply Nat.le_of_not_gt
  intro z
  have a : 2 ^ 31 ≤ 2 ^ L := Nat.pow_le_pow_right (by decide) z
  have b : 2 ^ L * 1 ≤ 2 ^ L * num.toNat := Nat.mul_le_mul_left _ (by omega)
  have h31 : (2 : Nat) ^ 31 = 2147483648 := by decide
  omega
theorem pow_step {L : Nat} {num q n : Int} (h : 2 ^ L * num.toNat ≤ n.toNat) (e : 2 * q ≤ num) : 2 ^ (L + 1) * q.toNat ≤ n.toNat := by
  have : 2 ^ (L + 1) * q.toNat = 2 ^ L * (2 * q.toNat) := by rw [Nat.pow_succ, Nat.mul_assoc]
  rw [this]
  exact Nat.le_trans (Nat.mul_le_mul_left _ (by omega)) h
/-! ### kinds of things -/
inductive Kd (K : PySem.W.Frag) (H : Hp) : V → String → Prop
  | non : Kd K H .non "NoneType"
  | bl (b : Bool) : Kd K H (.bl b) "bool"
  | int (i : Int) : Kd K H (.int i) "int"
  | str (x : Str) : Kd K H (.str x) "str"
  | lst {a : Addr} {xs : List V} : SqL K H a xs → Kd K H (.ref a) "list"
  | tup {a : Addr} {xs : List V} : SqT K H a xs → Kd K H (.ref a) "tuple"
theorem Kd.ty {K : PySem.W.Frag} {H : Hp} {x : V} {t : String} (h : Kd K H x t) : TyX K H x (.type t) := by
  cases h with
  | non => exact .base .non
  | bl b => exact .base (.bl b)
  | int i => exact .base (.int i)
  | str x => exact .base (.str x)
  | lst h =>
    rcases h with (h | ⟨o, h⟩) | ⟨o, its, n, h1, h2, _⟩
    · exact .base (.lst h)
    · exact .base (.frz h)
    · exact .kList h1 h2
  | tup h =>
    rcases h with (h | ⟨o, h⟩) | ⟨o, its, n, h1, h2, _⟩
    · exact .base (.tup h)
    · exact .fTuple h
    · exact .kTuple h1 h2
theorem Kd.same {K : PySem.W.Frag} {H H' : Hp} {x : V} {t : String} (h : Kd K H x t) (e : Same H H') : Kd K H' x t := by
  cases h with
  | non => exact .non
  | bl b => exact .bl b
  | int i => exact .int i
  | str x => exact .str x
  | lst h => exact .lst (e.seq h)
  | tup h => exact .tup (same_t e h)
def tis (t c : String) : Bool := t == c || (t == "bool" && c == "int")
theorem Kd.kit {K : PySem.W.Frag} {H : Hp} {x : V} {t : String} (h : Kd K H x t) : PySem.W.kitOne K (.type t) (.type "int") = some (tis t "int") ∧ PySem.W.kitOne K (.type t) (.type "bool") = some (tis t "bool") ∧ PySem.W.kitOne K (.type t) (.type "str") = some (tis t "str") ∧ PySem.W.kitOne K (.type t) (.type "list") = some (tis t "list") ∧ PySem.W.kitOne K (.type t) (.type "tuple") = some (tis t "tuple") := by
  cases h <;> exact ⟨kit_ty (by decide +kernel), kit_ty (by decide +kernel), kit_ty (by decide +kernel), kit_ty (by decide +kernel), kit_ty (by decide +kernel)⟩
theorem kit_lt {K : PySem.W.Frag} {t : String} {a b : Bool} (h1 : PySem.W.kitOne K (.type t) (.type "list") = some a) (h2 : PySem.W.kitOne K (.type t) (.type "tuple") = some b) : PySem.W.kitAny K (.type t) [.type "list", .type "tuple"] = some (a || b) := by
  refine kitAny_cons h1 (fun e => kitAny_cons h2 (fun e2 => ?_) (fun e2 => ?_)) (fun e => by rw [e]; rfl)
  · rw [e, e2]
    exact kitAny_nil
  · rw [e, e2]
    rfl
/-! ### == of lists of ints -/
theorem dp_ints {K : PySem.W.Frag} {H : Hp} : ∀ ns : List Int, DpAll K H (ns.map V.int) (ns.map PyData.int)
  | [] => .nil
  | n :: r => .cons (.int n) (dp_ints r)
theorem eqv_ints : ∀ ns ms : List Int, PyData.eqvAll (ns.map PyData.int) (ms.map PyData.int) = decide (ns = ms)
  | [], [] => by simp [PyData.eqvAll]
  | [], _ :: _ => by simp [PyData.eqvAll]
  | _ :: _, [] => by simp [PyData.eqvAll]
  | a :: r, b :: t => by
    simp only [List.map_cons, PyData.eqvAll, PyData.eqv, eqv_ints r t]
    by_cases h : a = b <;> by_cases h' : r = t <;> simp [h, h']
theorem eqd_ints {K : PySem.W.Frag} {H : Hp} {a b : Addr} {ns ms : List Int} {Q : VK} (ha : SqL K H a (ns.map V.int)) (hb : SqL K H b (ms.map V.int)) (q : Q (.bl (decide (ns = ms))) H) : rEqD K (.ref a) (.ref b) H Q := by
  refine ⟨_, _, .lst ha (dp_ints ns), .lst hb (dp_ints ms), PySem.W.ke_shaped_ints ns, PySem.W.ke_shaped_ints ms, ?_⟩
  have e : PyData.eqv (.list (ns.map PyData.int)) (.list (ms.map PyData.int)) = decide (ns = ms) := by
    rw [PyData.eqv]
    exact eqv_ints ns ms
  rw [e]
  exact q
abbrev s_factors : Stmt := top 1
abbrev N_factors : List Str := ["number", "found", "divisor"]
abbrev P_factors : List Str := ["number"]
theorem sc_factors : FnScope N_factors P_factors (defScope s_factors) := ⟨rfl, rfl, rfl, by decide +kernel, rfl, by decide +kernel, by decide +kernel⟩
def spFactors : Sp := fun vs H Q _ => ∃ (n : Int), vs = [.int n] ∧ 1 ≤ n ∧ n ≤ 1000000000 ∧ ∀ xs p H', Fac n xs → H p = none → Same H H' → H' p = some (.lst (xs.map V.int)) → Q (.ref p) H'
section
variable {P : Program} {w : World} {K : PySem.W.Frag} {mg : Str → Option Value} {base : Heap}
theorem ok_factors {f : Addr} {fd : FuncData} {k : Nat} (F : Fun K "factors" "factors" s_factors f fd) : FnOk P w K mg base CX0 (k + 1) f fd P_factors spFactors := by
  have nd := sc_factors.nd
  refine F.ok sc_factors (fun vs H Q E h => ?_) (fun cdv A outer s H vs Q E hr h => ?_)
  · obtain ⟨n, rfl, _⟩ := h
    rfl
  · obtain ⟨n, rfl, hn1, hn2, q⟩ := h
    refine ⟨_, (pss_cons (ps_set (i := 1) nd rfl (Or.inl rfl) (pe_lst pa_nil))
      (pss_cons (ps_set (i := 2) nd rfl (Or.inl rfl) (pe_int))
      (pss_cons (ps_while PassesOwn.never (pt_cmpR op_le (pe_op op_mul (pv 2) (pv 2)) (pv 0) (nomark _))
      (pss_one (ps_if (pt_cmpR op_eq (pe_op op_mod (pv 0) (pv 2)) (pe_int) (nomark _)) (pss_cons (ps_expr (pe_bm PySem.F.plainAttrs_list PySem.F.slot_list_append PySem.F.type_list_append mt_append (pv 1) (pa_cons (pv 2) pa_nil)))
      (pss_one (ps_aug (i := 0) nd rfl (Or.inl rfl) (pv 2) iop_fdivW))) (pss_one (ps_aug (i := 2) nd rfl (Or.inl rfl) (pe_int) ip_add)))))
      (pss_cons (ps_if (pt_cmpR op_gt (pv 0) (pe_int) (nomark _)) (pss_one (ps_expr (pe_bm PySem.F.plainAttrs_list PySem.F.slot_list_append PySem.F.type_list_append mt_append (pv 1) (pa_cons (pv 0) pa_nil)))) pss_nil)
      (pss_one (ps_ret (pv 1))))))), ?_⟩
    walk_at "ev"
    intro p hp
    generalize hG : upd _ p _ = H1
    obtain ⟨sm, hp1⟩ := newO hG hp
    refine ⟨fun m σ H' => ∃ (num d : Int) (found : List Int), σ = [some (.int num), some (.ref p), some (.int d)] ∧ m = (num - d).toNat + num.toNat ∧ 1 ≤ num ∧ num ≤ n ∧ 2 ≤ d ∧ d ≤ n + 2 ∧ 2 ^ found.length * num.toNat ≤ n.toNat ∧ Rough num d ∧ (∀ ps, Fac num ps → Fac n (found ++ ps)) ∧ Same H H' ∧ H' p = some (.lst (found.map V.int)), ⟨_, n, 2, [], rfl, rfl, hn1, by omega, by omega, by omega, by simp, fun e h1 h2 => by omega, fun ps f => f, sm, hp1⟩, ?_⟩
    rintro m σ H' ⟨num, d, found, rfl, rfl, h1, h2, h3, h4, h5, hr', hf, sm', hp'⟩
    have hL := pow_len h5 h1 hn2
    have cm : CMul d d := .inl ⟨by omega, by omega⟩
    walk_at "ev"
    refine ite2 (fun e => ?_) (fun e => ?_)
    · have e1 : d * d ≤ num := of_decide_eq_true e
      refine ⟨_, holdN, ?_⟩
      walk_at "ev"
      refine ite2 (fun e2 => ?_) (fun e2 => ?_)
      · have e3 : num % d = 0 := V.int.inj (of_decide_eq_true e2)
        obtain ⟨o1, o2, o3, o4⟩ := Fac.out hf h3 h1 hr' e3
        walk_at "ev"
        refine .mk ⟨(num / d - d).toNat + (num / d).toNat, by omega, num / d, d, found ++ [d], rfl, rfl, o2, by omega, h3, h4, ?_, o3, o1, same_mut sm' hp, by rw [upd_same, List.map_append]; rfl⟩
        rw [List.length_append]
        exact pow_step h5 o4
      · have e3 : ¬ num % d = 0 := fun z => e2 (decide_eq_true (congrArg V.int z))
        have e4 : 2 * d ≤ d * d := Int.mul_le_mul_of_nonneg_right h3 (by omega)
        walk_at "ev"
        exact .mk ⟨(num - (d + 1)).toNat + num.toNat, by omega, num, d + 1, found, rfl, rfl, h1, h2, by omega, by omega, h5, hr'.step (fun z => e3 (dvd_iff.mpr z)), hf, sm', hp'⟩
    · have e1 : ¬ d * d ≤ num := fun z => e (decide_eq_true z)
      walk_at "ev"
      refine ite2 (fun e2 => ?_) (fun e2 => ?_)
      · have e3 : 1 < num := of_decide_eq_true e2
        walk_at "ev"
        refine q (found ++ [num]) _ _ (hf _ (Fac.self (by omega) (hr'.top h3 (by omega) (by omega)))) hp (same_mut sm' hp) (by rw [upd_same, List.map_append]; rfl)
      · have e3 : ¬ 1 < num := fun z => e2 (decide_eq_true z)
        have e4 : num = 1 := by omega
        walk_at "ev"
        subst e4
        have fin := hf [] .one
        rw [List.append_nil] at fin
        exact q found _ _ fin hp sm' hp'
end
/-! ### the law's own comparing, of like things -/
abbrev s__law_same : Stmt := top 10
abbrev N__law_same : List Str := ["_law_found", "_law_due", "_law_one", "_law_two"]
abbrev P__law_same : List Str := ["_law_found", "_law_due"]
theorem sc__law_same : FnScope N__law_same P__law_same (defScope s__law_same) := ⟨rfl, rfl, rfl, by decide +kernel, rfl, by decide +kernel, by decide +kernel⟩
def Fit : Nat → PyData → Prop
  | 0, .list _ => False
  | 0, .tuple _ => False
  | n + 1, .list ds => ds.length ≤ 4000 ∧ ∀ e ∈ ds, Fit n e
  | n + 1, .tuple ds => ds.length ≤ 4000 ∧ ∀ e ∈ ds, Fit n e
  | _, .dict _ => False
  | _, _ => True
theorem dpall_len {K : PySem.W.Frag} {H : Hp} : ∀ {xs : List V} {ds : List PyData}, DpAll K H xs ds → xs.length = ds.length
  | _, _, .nil => rfl
  | _, _, .cons _ h => by rw [List.length_cons, List.length_cons, dpall_len h]
theorem dpall_get {K : PySem.W.Frag} {H : Hp} : ∀ {xs : List V} {ds : List PyData} {i : Nat} {x : V}, DpAll K H xs ds → xs[i]? = some x → ∃ d, ds[i]? = some d ∧ Dp K H x d
  | _, _, _, _, .nil, h => by simp at h
  | _, _, 0, _, .cons (d := d) h1 h2, h => ⟨d, rfl, by
      have e := Option.some.inj h
      rw [← e]
      exact h1⟩
  | _, _, i + 1, _, .cons h1 h2, h => dpall_get (i := i) h2 h
mutual
theorem dp_same {K : PySem.W.Frag} {H H' : Hp} (e : Same H H') : ∀ {x : V} {d : PyData}, Dp K H x d → Dp K H' x d
  | _, _, .non => .non
  | _, _, .bl b => .bl b
  | _, _, .int i => .int i
  | _, _, .str x => .str x
  | _, _, .lst h a => .lst (e.seq h) (dpall_same e a)
  | _, _, .tup h a => .tup (same_t e h) (dpall_same e a)
theorem dpall_same {K : PySem.W.Frag} {H H' : Hp} (e : Same H H') : ∀ {xs : List V} {ds : List PyData}, DpAll K H xs ds → DpAll K H' xs ds
  | _, _, .nil => .nil
  | _, _, .cons h a => .cons (dp_same e h) (dpall_same e a)
end
def spSame (K : PySem.W.Frag) (n : Nat) : Sp := fun vs H Q _ => ∃ (x y : V) (d : PyData), vs = [x, y] ∧ Dp K H x d ∧ Dp K H y d ∧ Fit n d ∧ ∀ H', Same H H' → Q (.bl true) H'
/-- a comprehension over pairs -/
theorem lc_pairs {J : It} {xs ys : List V} {g : TG} {tt : TT} {te : TE} {vs : List Nat} {σ : L2.St} {H1 : Hp} {D : Addr} {Qd : Hp → Prop} (Pv : Nat → Hp → Prop) (h0 : Pv 0 (upd H1 D (.lst [])))
    (hgo : ∀ i H, Pv i H → i < xs.length → J.go i H) (hy : ∀ i H v H', Pv i H → i < xs.length → J.yld i H v H' → ∃ T x y, v = .ref T ∧ H T = none ∧ H' = upd H T (.tup [x, y]) ∧ xs[i]? = some x ∧ ys[i]? = some y)
    (hst : ∀ H, Pv xs.length H → J.stop xs.length H)
    (hs : ∀ i x y T H H', xs[i]? = some x → ys[i]? = some y → Pv i H → H T = none → H' = upd H T (.tup [x, y]) → g (.ref T) (wipe σ vs) H' fun σ2 H2 => wipe σ2 vs = wipe σ vs ∧ tt σ2 H2 fun b H3 =>
      if b = true then te σ2 H3 fun y H4 => ∃ acc, H4 D = some (.lst acc) ∧ acc.length < sizeLine ∧ Pv (i + 1) (upd H4 D (.lst (acc ++ [y]))) else Pv (i + 1) H3) (hd : ∀ H, Pv xs.length H → Qd H) :
    ∃ W : Nat → Nat → Hp → Prop, (∃ m, W 0 m (upd H1 D (.lst []))) ∧ ∀ i m H, W i m H →
      (J.stop i H ∧ Qd H) ∨ (J.go i H ∧ ∃ Nx : Hp → Prop, (∀ H', Nx H' → ∃ m', m' < m ∧ W (i + 1) m' H') ∧ ∀ x H', J.yld i H x H' → g x (wipe σ vs) H' fun σ2 H2 => wipe σ2 vs = wipe σ vs ∧ tt σ2 H2 fun b H3 =>
        if b = true then te σ2 H3 fun y H4 => ∃ acc, H4 D = some (.lst acc) ∧ acc.length < sizeLine ∧ Nx (upd H4 D (.lst (acc ++ [y]))) else Nx H3) := by
  refine ⟨fun i m H => m = xs.length - i ∧ i ≤ xs.length ∧ Pv i H, ⟨xs.length, by simp, Nat.zero_le _, h0⟩, ?_⟩
  rintro i m H ⟨rfl, hi, p⟩
  by_cases hlt : i < xs.length
  · refine .inr ⟨hgo i H p hlt, Pv (i + 1), fun H' p' => ⟨xs.length - (i + 1), by omega, rfl, hlt, p'⟩, fun v H' yl => ?_⟩
    obtain ⟨T, x, y, rfl, hT, e, f1, f2⟩ := hy i H v H' p hlt yl
    exact hs i x y T H H' f1 f2 p hT e
  · have e : i = xs.length := by omega
    subst e
    exact .inl ⟨hst H p, hd H p⟩
theorem q_dec {Q : VK} {x : V} {H : Hp} (h : Q (.bl true) H) : Q (.bl (decide (x = x))) H := by
  rw [decide_eq_true rfl]
  exact h
theorem all_true : ∀ n : Nat, (List.replicate n true).all id = true
  | 0 => rfl
  | n + 1 => by
    rw [List.replicate_succ, List.all_cons, all_true n]
    rfl
section
variable {P : Program} {w : World} {K : PySem.W.Frag} {mg : Str → Option Value} {base : Heap}
theorem same_step {f : Addr} {fd : FuncData} {n : Nat} {spI : Sp} (D__law_same : Df K mg "_law_same" s__law_same P__law_same f fd) (T : Blt mg) (G__law_same : FnOk P w K mg base CX0 n f fd P__law_same spI) (hG : ∀ m, n = m + 1 → spI = spSame K m) : FnOk P w K mg base CX0 (n + 1) f fd P__law_same (spSame K n) := by
  have nd := sc__law_same.nd
  refine D__law_same.F.ok sc__law_same (fun vs H Q E h => ?_) (fun cdv A outer s H vs Q E hr h => ?_)
  · obtain ⟨x, y, d, rfl, _⟩ := h
    rfl
  · obtain ⟨x, y, d, rfl, hx, hy, hf, q⟩ := h
    refine ⟨_, (pss_cons (ps_if (pt_val (pe_callB (r := rIsiT K) call_isiT (by rfl) T.b_isinstance (by decide +kernel) (pa_cons (pv 1) (pa_cons (pe_tup (pa_cons (pe_bltn (v := .ty "list") (by rfl) T.b_list (by decide +kernel) rfl) (pa_cons (pe_bltn (v := .ty "tuple") (by rfl) T.b_tuple (by decide +kernel) rfl) pa_nil))) pa_nil)))) (pss_cons (ps_if (PW.pt (pw_or (pt_cmpR op_ne (pe_callB (r := rIsi K) call_isi (by rfl) T.b_isinstance (by decide +kernel) (pa_cons (pv 0) (pa_cons (pe_bltn (v := .ty "list") (by rfl) T.b_list (by decide +kernel) rfl) pa_nil))) (pe_callB (r := rIsi K) call_isi (by rfl) T.b_isinstance (by decide +kernel) (pa_cons (pv 1) (pa_cons (pe_bltn (v := .ty "list") (by rfl) T.b_list (by decide +kernel) rfl) pa_nil))) (nomark _)) (pw_or1 (pt_cmpR op_ne (pe_callB (r := rIsi K) call_isi (by rfl) T.b_isinstance (by decide +kernel) (pa_cons (pv 0) (pa_cons (pe_bltn (v := .ty "tuple") (by rfl) T.b_tuple (by decide +kernel) rfl) pa_nil))) (pe_callB (r := rIsi K) call_isi (by rfl) T.b_isinstance (by decide +kernel) (pa_cons (pv 1) (pa_cons (pe_bltn (v := .ty "tuple") (by rfl) T.b_tuple (by decide +kernel) rfl) pa_nil))) (nomark _))))) (pss_one (ps_ret (pe_bl))) pss_nil)
      (pss_cons (ps_if (pt_cmpR op_ne (pe_callB (r := rLenQ K) call_len_seq (by rfl) T.b_len (by decide +kernel) (pa_cons (pv 0) pa_nil)) (pe_callB (r := rLenQ K) call_len_seq (by rfl) T.b_len (by decide +kernel) (pa_cons (pv 1) pa_nil)) (nomark _)) (pss_one (ps_ret (pe_bl))) pss_nil)
      (pss_one (ps_ret (pe_callB (r := rAll K) (cr_all rfl) (by rfl) T.b_all (by decide +kernel) (pa_cons (pe_lc (own := [("_law_one", 2), ("_law_two", 3)]) (g := gTup K 2 (gCons (gName 2) (gCons (gName 3) gNil))) (by rfl) nd (RZ.pi_zipA (by rfl) T.b_zip (pa_cons (pv 0) (pa_cons (pv 1) pa_nil))) (blkOk_by (own := [("_law_one", 2), ("_law_two", 3)]) (N := N__law_same) (sc := defScope s__law_same) (by decide +kernel)) (fun _ _ _ _ _ => (pg_tup (by rfl) (pgs_cons (pg_name (i := 2) nd rfl (Or.inl rfl)) (pgs_cons (pg_name (i := 3) nd rfl (Or.inl rfl)) pgs_nil)))) (fun _ _ _ _ _ => pts_nil) (fun _ _ _ _ _ => (pe_call G__law_same (hr.mono (by omega)) (by rfl) D__law_same.g D__law_same.F.kp D__law_same.b .nil pass0 (pa_cons (pv 2) (pa_cons (pv 3) pa_nil))))) pa_nil)))))) pss_nil)
      (pss_cons (ps_if (PW.pt (pw_or (pt_cmpR op_isN (pv 1) (pe_non) (nomark _)) (pw_or1 (pt_val (pe_callB (r := rIsi K) call_isi (by rfl) T.b_isinstance (by decide +kernel) (pa_cons (pv 1) (pa_cons (pe_bltn (v := .ty "str") (by rfl) T.b_str (by decide +kernel) rfl) pa_nil))))))) (pss_one (ps_ret (pe_and (pe_cmpR op_eq (pv 0) (pv 1) (nomark _)) (pe_one (pe_cmpR op_eq (pe_callB (r := rIsi K) call_isi (by rfl) T.b_isinstance (by decide +kernel) (pa_cons (pv 0) (pa_cons (pe_bltn (v := .ty "str") (by rfl) T.b_str (by decide +kernel) rfl) pa_nil))) (pe_callB (r := rIsi K) call_isi (by rfl) T.b_isinstance (by decide +kernel) (pa_cons (pv 1) (pa_cons (pe_bltn (v := .ty "str") (by rfl) T.b_str (by decide +kernel) rfl) pa_nil))) (nomark _)))))) pss_nil)
      (pss_one (ps_ret (pe_and (pe_callB (r := rIsi K) call_isi (by rfl) T.b_isinstance (by decide +kernel) (pa_cons (pv 0) (pa_cons (pe_bltn (v := .ty "int") (by rfl) T.b_int (by decide +kernel) rfl) pa_nil))) (pe_and (pe_cmpR op_eq (pe_callB (r := rIsi K) call_isi (by rfl) T.b_isinstance (by decide +kernel) (pa_cons (pv 0) (pa_cons (pe_bltn (v := .ty "bool") (by rfl) T.b_bool (by decide +kernel) rfl) pa_nil))) (pe_callB (r := rIsi K) call_isi (by rfl) T.b_isinstance (by decide +kernel) (pa_cons (pv 1) (pa_cons (pe_bltn (v := .ty "bool") (by rfl) T.b_bool (by decide +kernel) rfl) pa_nil))) (nomark _)) (pe_one (pe_cmpR op_eq (pv 0) (pv 1) (nomark _))))))))), ?_⟩
    cases hx with
    | non =>
      cases hy
      walk_at "ev"
      intro p hp
      generalize hH : upd _ p _ = H1
      obtain ⟨sm, hp1⟩ := newO hH hp
      have kd : Kd K H1 .non "NoneType" := .non
      have ty := kd.ty
      obtain ⟨k1, k2, k3, k4, k5⟩ := kd.kit
      have ka := kit_lt k4 k5
      walk_at "ev"
      exact q_dec (q _ sm)
    | bl b =>
      cases hy
      walk_at "ev"
      intro p hp
      generalize hH : upd _ p _ = H1
      obtain ⟨sm, hp1⟩ := newO hH hp
      have kd : Kd K H1 (.bl b) "bool" := .bl b
      have ty := kd.ty
      obtain ⟨k1, k2, k3, k4, k5⟩ := kd.kit
      have ka := kit_lt k4 k5
      walk_at "ev"
      exact q_dec (q _ sm)
    | int i =>
      cases hy
      walk_at "ev"
      intro p hp
      generalize hH : upd _ p _ = H1
      obtain ⟨sm, hp1⟩ := newO hH hp
      have kd : Kd K H1 (.int i) "int" := .int i
      have ty := kd.ty
      obtain ⟨k1, k2, k3, k4, k5⟩ := kd.kit
      have ka := kit_lt k4 k5
      walk_at "ev"
      exact q_dec (q _ sm)
    | str z =>
      cases hy
      walk_at "ev"
      intro p hp
      generalize hH : upd _ p _ = H1
      obtain ⟨sm, hp1⟩ := newO hH hp
      have kd : Kd K H1 (.str z) "str" := .str z
      have ty := kd.ty
      obtain ⟨k1, k2, k3, k4, k5⟩ := kd.kit
      have ka := kit_lt k4 k5
      walk_at "ev"
      exact q_dec (q _ sm)
    | lst hs ha =>
      rename_i a xs ds
      cases hy with
      | lst ht hb =>
      rename_i b ys
      have el : ys.length = xs.length := (dpall_len hb).trans (dpall_len ha).symm
      have el' : V.int (xs.length : Int) = V.int (ys.length : Int) := by rw [el]
      cases n with
      | zero => exact hf.elim
      | succ n =>
      have hf' : ds.length ≤ 4000 ∧ ∀ e ∈ ds, Fit n e := hf
      have hS := hG n rfl
      subst hS
      walk_at "ev"
      intro p hp
      generalize hH : upd _ p _ = H1
      obtain ⟨sm, hp1⟩ := newO hH hp
      have hs1 := sm.seq hs
      have ht1 := sm.seq ht
      have kd : Kd K H1 (.ref a) "list" := .lst hs1
      have ty := kd.ty
      have kd' : Kd K H1 (.ref b) "list" := .lst ht1
      have ty' := kd'.ty
      obtain ⟨k1, k2, k3, k4, k5⟩ := kd.kit
      have ka := kit_lt k4 k5
      walk_at "ev"
      refine .inl ⟨hs1, ht1, fun D hD => ?_⟩
      refine lc_pairs (xs := xs) (ys := ys) (fun i H' => Hold (Same H1 H' ∧ H' D = some (.lst ((List.replicate i true).map V.bl)))) (.mk ⟨same_new hD, upd_same⟩) ?_ ?_ ?_ ?_ ?_
      · intro i H' hP hi
        obtain ⟨sm2, hD2⟩ := hP.un
        have hi2 : i < ys.length := by omega
        exact ⟨xs, ys, _, _, sm2.seq hs1, sm2.seq ht1, List.getElem?_eq_getElem hi, List.getElem?_eq_getElem hi2⟩
      · intro i H' v H'' hP hi yl
        obtain ⟨sm2, hD2⟩ := hP.un
        obtain ⟨T, x, y, e1, e2, e3, f1, f2⟩ := yl
        exact ⟨T, x, y, e1, e2, e3, f1 _ (sm2.seq hs1), f2 _ (sm2.seq ht1)⟩
      · intro H' hP
        obtain ⟨sm2, hD2⟩ := hP.un
        exact ⟨xs, ys, sm2.seq hs1, sm2.seq ht1, .inl (Nat.le_refl _)⟩
      · intro i x y T' H' H'' hx hy hP hT e
        obtain ⟨sm2, hD2⟩ := hP.un
        obtain ⟨sm3, hT3⟩ := newO e.symm hT
        have hT4 : SqT K H'' T' [x, y] := SqT.of hT3
        obtain ⟨d, hd, hdx⟩ := dpall_get ha hx
        obtain ⟨d', hd', hdy⟩ := dpall_get hb hy
        have ed : d' = d := Option.some.inj (hd'.symm.trans hd)
        subst ed
        have sm4 : Same H H'' := (sm.trans sm2).trans sm3
        have dx := dp_same sm4 hdx
        have dy := dp_same sm4 hdy
        have ft := hf'.2 _ (List.mem_of_getElem? hd)
        have hil : i < xs.length := (List.getElem?_eq_some_iff.mp hx).1
        have hdl := dpall_len ha
        have hlen : i ≤ 4000 := by omega
        walk_at "ev"
        intro H5 sm5
        have hD5 := sm5 _ _ (sm3 _ _ hD2)
        refine ⟨_, hD5, szm (by simp; omega), .mk ⟨same_mut ((sm2.trans sm3).trans sm5) hD, ?_⟩⟩
        rw [upd_same, List.replicate_succ', List.map_append]
        rfl
      · intro H' hP
        obtain ⟨sm2, hD2⟩ := hP.un
        refine ⟨D, List.replicate xs.length true, rfl, SqL.of hD2, ?_⟩
        rw [all_true]
        exact q _ (sm.trans sm2)
    | tup hs ha =>
      rename_i a xs ds
      cases hy with
      | tup ht hb =>
      rename_i b ys
      have el : ys.length = xs.length := (dpall_len hb).trans (dpall_len ha).symm
      have el' : V.int (xs.length : Int) = V.int (ys.length : Int) := by rw [el]
      cases n with
      | zero => exact hf.elim
      | succ n =>
      have hf' : ds.length ≤ 4000 ∧ ∀ e ∈ ds, Fit n e := hf
      have hS := hG n rfl
      subst hS
      walk_at "ev"
      intro p hp
      generalize hH : upd _ p _ = H1
      obtain ⟨sm, hp1⟩ := newO hH hp
      have hs1 := same_t sm hs
      have ht1 := same_t sm ht
      have kd : Kd K H1 (.ref a) "tuple" := .tup hs1
      have ty := kd.ty
      have kd' : Kd K H1 (.ref b) "tuple" := .tup ht1
      have ty' := kd'.ty
      obtain ⟨k1, k2, k3, k4, k5⟩ := kd.kit
      have ka := kit_lt k4 k5
      walk_at "ev"
      refine .inr ⟨hs1, ht1, fun D hD => ?_⟩
      refine lc_pairs (xs := xs) (ys := ys) (fun i H' => Hold (Same H1 H' ∧ H' D = some (.lst ((List.replicate i true).map V.bl)))) (.mk ⟨same_new hD, upd_same⟩) ?_ ?_ ?_ ?_ ?_
      · intro i H' hP hi
        obtain ⟨sm2, hD2⟩ := hP.un
        have hi2 : i < ys.length := by omega
        exact ⟨xs, ys, _, _, same_t sm2 hs1, same_t sm2 ht1, List.getElem?_eq_getElem hi, List.getElem?_eq_getElem hi2⟩
      · intro i H' v H'' hP hi yl
        obtain ⟨sm2, hD2⟩ := hP.un
        obtain ⟨T, x, y, e1, e2, e3, f1, f2⟩ := yl
        exact ⟨T, x, y, e1, e2, e3, f1 _ (same_t sm2 hs1), f2 _ (same_t sm2 ht1)⟩
      · intro H' hP
        obtain ⟨sm2, hD2⟩ := hP.un
        exact ⟨xs, ys, same_t sm2 hs1, same_t sm2 ht1, .inl (Nat.le_refl _)⟩
      · intro i x y T' H' H'' hx hy hP hT e
        obtain ⟨sm2, hD2⟩ := hP.un
        obtain ⟨sm3, hT3⟩ := newO e.symm hT
        have hT4 : SqT K H'' T' [x, y] := SqT.of hT3
        obtain ⟨d, hd, hdx⟩ := dpall_get ha hx
        obtain ⟨d', hd', hdy⟩ := dpall_get hb hy
        have ed : d' = d := Option.some.inj (hd'.symm.trans hd)
        subst ed
        have sm4 : Same H H'' := (sm.trans sm2).trans sm3
        have dx := dp_same sm4 hdx
        have dy := dp_same sm4 hdy
        have ft := hf'.2 _ (List.mem_of_getElem? hd)
        have hil : i < xs.length := (List.getElem?_eq_some_iff.mp hx).1
        have hdl := dpall_len ha
        have hlen : i ≤ 4000 := by omega
        walk_at "ev"
        intro H5 sm5
        have hD5 := sm5 _ _ (sm3 _ _ hD2)
        refine ⟨_, hD5, szm (by simp; omega), .mk ⟨same_mut ((sm2.trans sm3).trans sm5) hD, ?_⟩⟩
        rw [upd_same, List.replicate_succ', List.map_append]
        rfl
      · intro H' hP
        obtain ⟨sm2, hD2⟩ := hP.un
        refine ⟨D, List.replicate xs.length true, rfl, SqL.of hD2, ?_⟩
        rw [all_true]
        exact q _ (sm.trans sm2)
theorem ok_same {f : Addr} {fd : FuncData} (D__law_same : Df K mg "_law_same" s__law_same P__law_same f fd) (T : Blt mg) : ∀ n : Nat, FnOk P w K mg base CX0 (n + 1) f fd P__law_same (spSame K n)
  | 0 => same_step (spI := fun _ _ _ _ => False) D__law_same T ⟨fun _ _ _ _ h => h.elim, fun _ _ _ _ _ _ _ _ _ _ _ _ _ h => h.elim⟩ (fun m h => by omega)
  | n + 1 => same_step D__law_same T (ok_same D__law_same T n) (fun m h => by cases h; rfl)
end
theorem srt_ext : ∀ {l m : List Int}, l.Pairwise (· < ·) → m.Pairwise (· < ·) → (∀ k, k ∈ l ↔ k ∈ m) → l = m
  | [], [], _, _, _ => rfl
  | [], y :: m, _, _, h => by
    have := (h y).mpr List.mem_cons_self
    simp at this
  | x :: l, [], _, _, h => by
    have := (h x).mp List.mem_cons_self
    simp at this
  | x :: l, y :: m, hl, hm, h => by
    obtain ⟨hx, hl'⟩ := List.pairwise_cons.mp hl
    obtain ⟨hy, hm'⟩ := List.pairwise_cons.mp hm
    have e : x = y := by
      have a1 := (h x).mp List.mem_cons_self
      have a2 := (h y).mpr List.mem_cons_self
      rcases List.mem_cons.mp a1 with e | e
      · exact e
      · rcases List.mem_cons.mp a2 with e2 | e2
        · exact e2.symm
        · have := hy x e
          have := hx y e2
          omega
    subst e
    rw [srt_ext hl' hm' fun k => ?_]
    constructor
    · intro hk
      rcases List.mem_cons.mp ((h k).mp (List.mem_cons_of_mem _ hk)) with e | e
      · have := hx k hk
        omega
      · exact e
    · intro hk
      rcases List.mem_cons.mp ((h k).mpr (List.mem_cons_of_mem _ hk)) with e | e
      · have := hy k hk
        omega
      · exact e
theorem Fac.len {n : Int} {xs : List Int} (h : Fac n xs) (hn : n ≤ 1000000000) : xs.length ≤ 30 := by
  have key : ∀ {n : Int} {xs : List Int}, Fac n xs → 2 ^ xs.length * 1 ≤ n.toNat ∧ 1 ≤ n := by
    intro n xs h
    induction h with
    | one => exact ⟨by decide, by decide⟩
    | cons h1 h2 h3 h4 h5 ih =>
      rename_i n p q ps
      obtain ⟨i1, i2⟩ := ih
      have : 2 * q ≤ p * q := Int.mul_le_mul_of_nonneg_right h1 (by omega)
      refine ⟨?_, by omega⟩
      rw [List.length_cons, Nat.pow_succ]
      omega
  obtain ⟨k1, k2⟩ := key h
  exact pow_len (num := 1) (n := n) (by simpa using k1) (by decide) hn
theorem Fac.pos {n : Int} {xs : List Int} (h : Fac n xs) : 1 ≤ n := by
  induction h with
  | one => decide
  | cons h1 h2 h3 h4 h5 ih =>
    rename_i n p q ps
    have : 1 * 1 ≤ p * q := Int.mul_le_mul (by omega) ih (by omega) (by omega)
    omega
theorem Fac.le {n : Int} {xs : List Int} (h : Fac n xs) : ∀ q ∈ xs, q ≤ n := by
  induction h with
  | one => intro q hq; simp at hq
  | cons h1 h2 h3 h4 h5 ih =>
    rename_i n p q ps
    intro x hx
    rcases List.mem_cons.mp hx with e | e
    · rw [e]
      have : p * 1 ≤ p * q := Int.mul_le_mul_of_nonneg_left h3 (by omega)
      omega
    · have := ih x e
      have : 1 * q ≤ p * q := Int.mul_le_mul_of_nonneg_right (by omega) (by omega)
      omega
theorem Fac.primes {n : Int} {xs : List Int} (h : Fac n xs) : ∀ q ∈ xs, 2 ≤ q ∧ Rough q q := by
  induction h with
  | one => intro q hq; simp at hq
  | cons h1 h2 h3 h4 h5 ih =>
    rename_i n p q ps
    intro x hx
    rcases List.mem_cons.mp hx with e | e
    · rw [e]
      exact ⟨h1, fun c c1 c2 c3 => h4 c c1 c2 (Int.dvd_trans c3 ⟨q, h2⟩)⟩
    · exact ih x e
/-! ### all divisors, rising -/
/-- ds is the rising list of all that divides n -/
def IsDv (n : Int) (ds : List Int) : Prop := ds.Pairwise (· < ·) ∧ ∀ k, k ∈ ds ↔ 1 ≤ k ∧ k ∣ n
theorem IsDv.uniq {n : Int} {l m : List Int} (a : IsDv n l) (b : IsDv n m) : l = m := srt_ext a.1 b.1 fun k => (a.2 k).trans (b.2 k).symm
theorem sq_lt {a b : Int} (ha : 0 ≤ a) (h : a * a < b * b) (hb : 0 ≤ b) : a < b := by
  apply Int.lt_of_not_ge
  intro z
  have : b * b ≤ a * a := Int.mul_le_mul z z hb ha
  omega
/-- low: those below c; high: the partners of those whose square is less, falling -/
structure Half (n c : Int) (low high : List Int) : Prop where
  up : low.Pairwise (· < ·)
  mem : ∀ k, k ∈ low ↔ 1 ≤ k ∧ k < c ∧ k ∣ n
  down : high.Pairwise (· > ·)
  part : ∀ y, y ∈ high ↔ ∃ d, 1 ≤ d ∧ d < c ∧ d * d < n ∧ y * d = n
  sq : ∀ d, 1 ≤ d → d < c → d * d ≤ n
theorem Half.start (n : Int) : Half n 1 [] [] := ⟨.nil, fun k => ⟨fun h => by simp at h, fun ⟨a, b, _⟩ => by omega⟩, .nil, fun y => ⟨fun h => by simp at h, fun ⟨d, a, b, _⟩ => by omega⟩, fun d a b => by omega⟩
theorem Half.skip {n c : Int} {low high : List Int} (h : Half n c low high) (hc : 1 ≤ c) (e : ¬ c ∣ n) (s : c * c ≤ n) : Half n (c + 1) low high := by
  refine ⟨h.up, fun k => ?_, h.down, fun y => ?_, fun d a b => ?_⟩
  · rw [h.mem]
    constructor
    · rintro ⟨a, b, d⟩
      exact ⟨a, by omega, d⟩
    · rintro ⟨a, b, d⟩
      refine ⟨a, ?_, d⟩
      have : k ≠ c := fun z => e (z ▸ d)
      omega
  · rw [h.part]
    constructor
    · rintro ⟨d, a, b, x, z⟩
      exact ⟨d, a, by omega, x, z⟩
    · rintro ⟨d, a, b, x, z⟩
      refine ⟨d, a, ?_, x, z⟩
      have : d ≠ c := fun w => e ⟨y, by rw [← w, Int.mul_comm]; exact z.symm⟩
      omega
  · by_cases z : d = c
    · rw [z]; exact s
    · exact h.sq d a (by omega)
theorem pw_append {R : Int → Int → Prop} {l : List Int} {x : Int} (h : l.Pairwise R) (k : ∀ y ∈ l, R y x) : (l ++ [x]).Pairwise R := by
  rw [List.pairwise_append]
  exact ⟨h, List.pairwise_singleton _ _, fun a ha b hb => by
    have e : b = x := by simpa using hb
    rw [e]
    exact k a ha⟩
theorem Half.low {n c : Int} {low high : List Int} (h : Half n c low high) (hc : 1 ≤ c) (e : c ∣ n) (s : c * c ≤ n) :
    (c * c < n → Half n (c + 1) (low ++ [c]) (high ++ [n / c])) ∧ (¬ c * c < n → Half n (c + 1) (low ++ [c]) high) := by
  have up : (low ++ [c]).Pairwise (· < ·) := pw_append h.up fun y hy => ((h.mem y).mp hy).2.1
  have mem : ∀ k, k ∈ low ++ [c] ↔ 1 ≤ k ∧ k < c + 1 ∧ k ∣ n := fun k => by
    rw [List.mem_append, h.mem, List.mem_singleton]
    constructor
    · rintro (⟨a, b, d⟩ | z)
      · exact ⟨a, by omega, d⟩
      · rw [z]
        exact ⟨hc, by omega, e⟩
    · rintro ⟨a, b, d⟩
      by_cases z : k = c
      · exact .inr z
      · exact .inl ⟨a, by omega, d⟩
  have sq : ∀ d, 1 ≤ d → d < c + 1 → d * d ≤ n := fun d a b => by
    by_cases z : d = c
    · rw [z]; exact s
    · exact h.sq d a (by omega)
  have ec : n / c * c = n := Int.ediv_mul_cancel e
  constructor
  · intro lt
    refine ⟨up, mem, pw_append h.down fun y hy => ?_, fun y => ?_, sq⟩
    · obtain ⟨d, a, b, x, z⟩ := (h.part y).mp hy
      show n / c < y
      apply Int.lt_of_not_ge
      intro w
      have p1 : y * d ≤ n / c * d := Int.mul_le_mul_of_nonneg_right w (by omega)
      have q0 : 0 < n / c := by
        apply Int.lt_of_not_ge
        intro v
        have : n / c * c ≤ 0 := Int.mul_nonpos_of_nonpos_of_nonneg v (by omega)
        have : 1 * 1 ≤ c * c := Int.mul_le_mul hc hc (by omega) (by omega)
        omega
      have p2 : n / c * d < n / c * c := Int.mul_lt_mul_of_pos_left b q0
      omega
    · rw [List.mem_append, h.part, List.mem_singleton]
      constructor
      · rintro (⟨d, a, b, x, z⟩ | w)
        · exact ⟨d, a, by omega, x, z⟩
        · rw [w]
          exact ⟨c, hc, by omega, lt, ec⟩
      · rintro ⟨d, a, b, x, z⟩
        by_cases w : d = c
        · right
          subst w
          have : y * d = n / d * d := by omega
          exact Int.eq_of_mul_eq_mul_right (by omega) this
        · exact .inl ⟨d, a, by omega, x, z⟩
  · intro nlt
    refine ⟨up, mem, h.down, fun y => ?_, sq⟩
    rw [h.part]
    constructor
    · rintro ⟨d, a, b, x, z⟩
      exact ⟨d, a, by omega, x, z⟩
    · rintro ⟨d, a, b, x, z⟩
      refine ⟨d, a, ?_, x, z⟩
      have : d ≠ c := fun w => nlt (w ▸ x)
      omega
theorem Half.done {n c : Int} {low high : List Int} (h : Half n c low high) (hn : 1 ≤ n) (hc : 1 ≤ c) (e : n < c * c) : IsDv n (low ++ high.reverse) := by
  constructor
  · rw [List.pairwise_append]
    refine ⟨h.up, ?_, fun x hx y hy => ?_⟩
    · rw [List.pairwise_reverse]
      exact h.down
    · obtain ⟨a, b, d⟩ := (h.mem x).mp hx
      obtain ⟨d', a', b', s', z'⟩ := (h.part y).mp (List.mem_reverse.mp hy)
      have sx := h.sq x a b
      -- y * y > n ≥ x * x
      have y0 : 0 < y := by
        apply Int.lt_of_not_ge
        intro v
        have : y * d' ≤ 0 := Int.mul_nonpos_of_nonpos_of_nonneg v (by omega)
        omega
      have yd : d' < y := by
        apply Int.lt_of_not_ge
        intro v
        have : y * d' ≤ d' * d' := Int.mul_le_mul_of_nonneg_right v (by omega)
        omega
      have : y * d' < y * y := Int.mul_lt_mul_of_pos_left yd y0
      exact sq_lt (by omega) (by omega) (by omega)
  · intro k
    rw [List.mem_append, List.mem_reverse, h.mem, h.part]
    constructor
    · rintro (⟨a, b, d⟩ | ⟨d, a, b, x, z⟩)
      · exact ⟨a, d⟩
      · refine ⟨?_, ⟨d, z.symm⟩⟩
        show 0 < k
        apply Int.lt_of_not_ge
        intro v
        have : k * d ≤ 0 := Int.mul_nonpos_of_nonpos_of_nonneg (by omega) (by omega)
        omega
    · rintro ⟨a, b⟩
      by_cases kc : k < c
      · exact .inl ⟨a, kc, b⟩
      · right
        obtain ⟨d, hd⟩ := b
        have d0 : 0 < d := by
          apply Int.lt_of_not_ge
          intro v
          have : k * d ≤ 0 := Int.mul_nonpos_of_nonneg_of_nonpos (by omega) v
          omega
        have dc : d < c := by
          apply Int.lt_of_not_ge
          intro v
          have : c * c ≤ k * d := Int.mul_le_mul (by omega) v (by omega) (by omega)
          omega
        have dk : d < k := by omega
        have : d * d < k * d := Int.mul_lt_mul_of_pos_right dk d0
        exact ⟨d, by omega, dc, by omega, hd.symm⟩
theorem half_len {m : Int} (hm : 1 ≤ m) (hm2 : m ≤ 1000000) : ∀ c : Nat, 1 ≤ c → (∃ (c' : Nat) (low high : List Int), 1 ≤ c' ∧ c' ≤ c ∧ m < (c' : Int) * c' ∧ Half m c' low high ∧ low.length + high.length + 2 ≤ 2 * c') ∨ (∃ low high : List Int, Half m c low high ∧ low.length + high.length + 2 ≤ 2 * c) := by
  intro c
  induction c with
  | zero => intro h; omega
  | succ c ih =>
    intro _
    by_cases c0 : c = 0
    · subst c0
      exact .inr ⟨[], [], Half.start m, by simp⟩
    · rcases ih (by omega) with ⟨c', low, high, a1, a2, a3, a4, a5⟩ | ⟨low, high, a4, a5⟩
      · exact .inl ⟨c', low, high, a1, by omega, a3, a4, a5⟩
      · by_cases z : m < (c : Int) * c
        · exact .inl ⟨c, low, high, by omega, by omega, z, a4, a5⟩
        · have e1 : (((c + 1 : Nat) : Int)) = (c : Int) + 1 := by omega
          by_cases dv : (c : Int) ∣ m
          · obtain ⟨b1, b2⟩ := a4.low (by omega) dv (by omega)
            by_cases lt : (c : Int) * c < m
            · refine .inr ⟨_, _, by rw [e1]; exact b1 lt, ?_⟩
              simp
              omega
            · refine .inr ⟨_, _, by rw [e1]; exact b2 lt, ?_⟩
              simp
              omega
          · refine .inr ⟨low, high, by rw [e1]; exact a4.skip (by omega) dv (by omega), by omega⟩
theorem IsDv.len {m : Int} {ds : List Int} (h : IsDv m ds) (hm : 1 ≤ m) (hm2 : m ≤ 1000000) : ds.length ≤ 2000 := by
  rcases half_len hm hm2 1001 (by decide) with ⟨c', low, high, a1, a2, a3, a4, a5⟩ | ⟨low, high, a4, a5⟩
  · have e := h.uniq (a4.done hm (by omega) a3)
    rw [e, List.length_append, List.length_reverse]
    omega
  · have big : m < ((1001 : Nat) : Int) * ((1001 : Nat) : Int) := by
      have e : ((1001 : Nat) : Int) * ((1001 : Nat) : Int) = 1002001 := by decide
      omega
    have e := h.uniq (a4.done hm (by omega) big)
    rw [e, List.length_append, List.length_reverse]
    omega
theorem dv_one : IsDv 1 [1] := by
  refine ⟨List.pairwise_singleton _ _, fun k => ?_⟩
  rw [List.mem_singleton]
  constructor
  · intro e
    rw [e]
    exact ⟨by decide, Int.dvd_refl _⟩
  · rintro ⟨a, b⟩
    exact Int.le_antisymm (Int.le_of_dvd (by decide) b) a
/-- d divides m * p, p a prime -/
theorem dv_prime {k m p : Int} (hk : 1 ≤ k) (hp : 2 ≤ p) (r : Rough p p) (h : k ∣ m * p) : k ∣ m ∨ ∃ e, k = e * p := by
  by_cases hpk : p ∣ k
  · obtain ⟨e, he⟩ := hpk
    exact .inr ⟨e, by rw [he, Int.mul_comm]⟩
  · left
    have hg : Nat.gcd k.natAbs p.natAbs = 1 := by
      have d1 := Nat.gcd_dvd_left k.natAbs p.natAbs
      have d2 := Nat.gcd_dvd_right k.natAbs p.natAbs
      generalize Nat.gcd k.natAbs p.natAbs = g at *
      have gp : (g : Int) ∣ p := by
        rw [← Int.natAbs_dvd_natAbs, Int.natAbs_natCast]
        exact d2
      have gk : (g : Int) ∣ k := by
        rw [← Int.natAbs_dvd_natAbs, Int.natAbs_natCast]
        exact d1
      have gle : (g : Int) ≤ p := Int.le_of_dvd (by omega) gp
      have g0 : g ≠ 0 := fun z => by
        rw [z] at gp
        have := Int.zero_dvd.mp gp
        omega
      by_cases g1 : g = 1
      · exact g1
      · exfalso
        by_cases gpe : (g : Int) = p
        · rw [gpe] at gk
          exact hpk gk
        · exact r g (by omega) (by omega) gp
    have h1 : k.natAbs ∣ m.natAbs * p.natAbs := by
      rw [← Int.natAbs_mul]
      exact Int.natAbs_dvd_natAbs.mpr h
    have h2 := Nat.Coprime.dvd_of_dvd_mul_right (show Nat.Coprime k.natAbs p.natAbs from hg) h1
    exact Int.natAbs_dvd_natAbs.mp h2
theorem dv_step {m p : Int} {found out : List Int} (h : IsDv m found) (hp : 2 ≤ p) (r : Rough p p) (hs : out.Pairwise (· < ·)) (hm : ∀ k, k ∈ out ↔ k ∈ found ++ found.map (· * p)) : IsDv (m * p) out := by
  refine ⟨hs, fun k => ?_⟩
  rw [hm, List.mem_append, List.mem_map, h.2]
  constructor
  · rintro (⟨a, b⟩ | ⟨x, hx, e⟩)
    · exact ⟨a, Int.dvd_trans b (Int.dvd_mul_right m p)⟩
    · obtain ⟨a, b⟩ := (h.2 x).mp hx
      rw [← e]
      refine ⟨?_, Int.mul_dvd_mul_right p b⟩
      have : 1 * 1 ≤ x * p := Int.mul_le_mul a (by omega) (by omega) (by omega)
      omega
  · rintro ⟨a, b⟩
    rcases dv_prime a hp r b with z | ⟨e, he⟩
    · exact .inl ⟨a, z⟩
    · right
      refine ⟨e, (h.2 e).mpr ⟨?_, ?_⟩, he.symm⟩
      · show 0 < e
        apply Int.lt_of_not_ge
        intro v
        have : e * p ≤ 0 := Int.mul_nonpos_of_nonpos_of_nonneg (by omega) (by omega)
        omega
      · rw [he] at b
        exact Int.dvd_of_mul_dvd_mul_right (by omega) b
abbrev s_divisors : Stmt := top 2
abbrev N_divisors : List Str := ["number", "low", "high", "divisor"]
abbrev P_divisors : List Str := ["number"]
theorem sc_divisors : FnScope N_divisors P_divisors (defScope s_divisors) := ⟨rfl, rfl, rfl, by decide +kernel, rfl, by decide +kernel, by decide +kernel⟩
def spDiv : Sp := fun vs H Q _ => ∃ (n : Int), vs = [.int n] ∧ 1 ≤ n ∧ n ≤ 1000000 ∧ ∀ ds l H', IsDv n ds → H l = none → Same H H' → H' l = some (.lst (ds.map V.int)) → Q (.ref l) H'
section
variable {P : Program} {w : World} {K : PySem.W.Frag} {mg : Str → Option Value} {base : Heap}
theorem ok_divisors {f : Addr} {fd : FuncData} {k : Nat} (F : Fun K "divisors" "divisors" s_divisors f fd) (T : Blt mg) : FnOk P w K mg base CX0 (k + 1) f fd P_divisors spDiv := by
  have nd := sc_divisors.nd
  refine F.ok sc_divisors (fun vs H Q E h => ?_) (fun cdv A outer s H vs Q E hr h => ?_)
  · obtain ⟨n, rfl, _⟩ := h
    rfl
  · obtain ⟨n, rfl, h1, h2, q⟩ := h
    refine ⟨_, (pss_cons (ps_set (i := 1) nd rfl (Or.inl rfl) (pe_lst pa_nil))
      (pss_cons (ps_set (i := 2) nd rfl (Or.inl rfl) (pe_lst pa_nil))
      (pss_cons (ps_set (i := 3) nd rfl (Or.inl rfl) (pe_int))
      (pss_cons (ps_while PassesOwn.never (pt_cmpR op_le (pe_op op_mul (pv 3) (pv 3)) (pv 0) (nomark _))
      (pss_cons (ps_if (pt_cmpR op_eq (pe_op op_mod (pv 0) (pv 3)) (pe_int) (nomark _)) (pss_cons (ps_expr (pe_bm PySem.F.plainAttrs_list PySem.F.slot_list_append PySem.F.type_list_append mt_append (pv 1) (pa_cons (pv 3) pa_nil)))
      (pss_one (ps_if (pt_cmpR op_lt (pe_op op_mul (pv 3) (pv 3)) (pv 0) (nomark _)) (pss_one (ps_expr (pe_bm PySem.F.plainAttrs_list PySem.F.slot_list_append PySem.F.type_list_append mt_append (pv 2) (pa_cons (pe_op op_fdiv (pv 0) (pv 3)) pa_nil)))) pss_nil))) pss_nil)
      (pss_one (ps_aug (i := 3) nd rfl (Or.inl rfl) (pe_int) ip_add))))
      (pss_one (ps_ret (pe_op op_cat (pv 1) (pe_revL (pv 2))))))))), ?_⟩
    walk_at "ev"
    intro a ha
    generalize hG1 : upd _ a _ = H1
    obtain ⟨sm1, hq1⟩ := newO hG1 ha
    walk_at "ev"
    intro b hb
    generalize hG2 : upd _ b _ = H2
    obtain ⟨sm2, hq2⟩ := newO hG2 hb
    have nab : a ≠ b := ne_of_none hq1 hb
    have hbf : H b = none := sm1.free hb
    refine ⟨fun m σ H' => ∃ (c : Int) (low high : List Int), σ = [some (.int n), some (.ref a), some (.ref b), some (.int c)] ∧ m = (n + 1 - c).toNat ∧ 1 ≤ c ∧ c ≤ 1001 ∧ c ≤ n + 1 ∧ Half n c low high ∧ low.length + high.length + 2 ≤ 2 * c.toNat ∧ Same H H' ∧ H' a = some (.lst (low.map V.int)) ∧ H' b = some (.lst (high.map V.int)), ⟨_, 1, [], [], rfl, rfl, by omega, by omega, by omega, Half.start n, by simp, sm1.trans sm2, sm2 _ _ hq1, hq2⟩, ?_⟩
    rintro m σ H' ⟨c, low, high, rfl, rfl, c1, c2, c3, hf, hl, sm, hqa, hqb⟩
    have cm : CMul c c := .inl ⟨by omega, by omega⟩
    walk_at "ev"
    refine ite2 (fun e => ?_) (fun e => ?_)
    · have e1 : c * c ≤ n := of_decide_eq_true e
      have cl : c ≤ c * c := by
        have : 1 * c ≤ c * c := Int.mul_le_mul_of_nonneg_right c1 (by omega)
        omega
      have c1000 : c ≤ 1000 := by
        apply Int.le_of_not_gt
        intro z
        have : 1001 * 1001 ≤ c * c := Int.mul_le_mul (by omega) (by omega) (by omega) (by omega)
        omega
      refine ⟨_, holdN, ?_⟩
      walk_at "ev"
      refine ite2 (fun e2 => ?_) (fun e2 => ?_)
      · have e3 : n % c = 0 := V.int.inj (of_decide_eq_true e2)
        obtain ⟨g1, g2⟩ := hf.low c1 (dvd_iff.mp e3) e1
        have hty : tyV K "list" (.ref a) H' := .inl ⟨rfl, _, SqL.of hqa⟩
        have hsa : (low.map V.int).length < sizeLine := by
          rw [List.length_map]
          exact szm (by omega)
        walk_at "ev"
        generalize hG3 : upd H' a _ = H3
        have hqa3 : H3 a = some (.lst ((low ++ [c]).map V.int)) := by
          rw [(mutO hG3).2, List.map_append]
          rfl
        have hqb3 : H3 b = some (.lst (high.map V.int)) := (mutO hG3).1 _ _ nab.symm hqb
        have sm3 : Same H H3 := by
          rw [← hG3]
          exact same_mut sm ha
        clear hG3
        refine ite2 (fun e4 => ?_) (fun e4 => ?_)
        · have e5 : c * c < n := of_decide_eq_true e4
          have hty3 : tyV K "list" (.ref b) H3 := .inl ⟨rfl, _, SqL.of hqb3⟩
          have hsb : (high.map V.int).length < sizeLine := by
            rw [List.length_map]
            exact szm (by omega)
          walk_at "ev"
          refine .mk ⟨(n + 1 - (c + 1)).toNat, by omega, c + 1, low ++ [c], high ++ [n / c], rfl, rfl, by omega, by omega, by omega, g1 e5, ?_, same_mut sm3 hbf, ?_, ?_⟩
          · simp
            omega
          · rw [upd_ne nab]
            exact hqa3
          · rw [upd_same, List.map_append]
            rfl
        · have e5 : ¬ c * c < n := fun z => e4 (decide_eq_true z)
          walk_at "ev"
          refine .mk ⟨(n + 1 - (c + 1)).toNat, by omega, c + 1, low ++ [c], high, rfl, rfl, by omega, by omega, by omega, g2 e5, ?_, sm3, hqa3, hqb3⟩
          simp
          omega
      · have e3 : ¬ n % c = 0 := fun z => e2 (decide_eq_true (congrArg V.int z))
        walk_at "ev"
        exact .mk ⟨(n + 1 - (c + 1)).toNat, by omega, c + 1, low, high, rfl, rfl, by omega, by omega, by omega, hf.skip c1 (fun z => e3 (dvd_iff.mpr z)) e1, by omega, sm, hqa, hqb⟩
    · have e1 : ¬ c * c ≤ n := fun z => e (decide_eq_true z)
      have hLb : SqL K H' b (high.map V.int) := SqL.of hqb
      walk_at "ev"
      intro r hr'
      generalize hG3 : upd _ r _ = H3
      obtain ⟨sm3, hq3⟩ := newO hG3 hr'
      have hqa3 := sm3 _ _ hqa
      have hsz : (low.map V.int).length + (high.map V.int).reverse.length ≤ sizeLine := by
        rw [List.length_map, List.length_reverse, List.length_map]
        exact szl (by omega)
      walk_at "ev"
      intro p hp
      generalize hG4 : upd _ p _ = H4
      obtain ⟨sm4, hq4⟩ := newO hG4 hp
      refine q (low ++ high.reverse) p H4 (hf.done h1 c1 (by omega)) ((sm.trans sm3).free hp) (sm.trans (sm3.trans sm4)) ?_
      rw [hq4, List.map_append, List.map_reverse]
end
/-! ### long division of rows, as the program walks it -/
def subAt (start : Nat) (top : Int) (bs : List Int) (r : List Int) : Nat → List Int
  | 0 => r
  | i + 1 => (subAt start top bs r i).set (start + i) ((subAt start top bs r i).getD (start + i) 0 - top * bs.getD i 0)
theorem subAt_len {start : Nat} {top : Int} {bs r : List Int} {i : Nat} : (subAt start top bs r i).length = r.length := by
  induction i with
  | zero => rfl
  | succ i ih => rw [subAt, List.length_set, ih]
def dvS (bs : List Int) (x : List Int × List Int) : List Int × List Int :=
  (subAt (x.1.length - 1 - (bs.length - 1)) (x.1.getD (x.1.length - 1) 0) bs x.1.dropLast (bs.length - 1), x.2 ++ [x.1.getD (x.1.length - 1) 0])
def dvN (bs : List Int) (row : List Int) : Nat → List Int × List Int
  | 0 => (row, [])
  | n + 1 => dvS bs (dvN bs row n)
theorem dvN_len {bs row : List Int} {n : Nat} : (dvN bs row n).1.length = row.length - n ∧ (dvN bs row n).2.length = n := by
  induction n with
  | zero => exact ⟨rfl, rfl⟩
  | succ n ih =>
    rw [dvN, dvS]
    refine ⟨?_, ?_⟩
    · show (subAt _ _ _ _ _).length = _
      rw [subAt_len, List.length_dropLast, ih.1]
      omega
    · show List.length (_ ++ _) = _
      rw [List.length_append, ih.2]
      rfl
theorem at_nat {xs : List V} {v : V} {i : Int} {j : Nat} (h : xs[j]? = some v) (e : i = (j : Int)) : atI xs i = some v := at_of (j := j) (by omega) (by rw [← h])
theorem ixn_of {n j : Nat} {i : Int} (h : j < n) (e : i = (j : Int)) : ixN n i = some j := by
  subst e
  unfold ixN
  simp [h]
theorem rep_len {n : Nat} {v : V} : (List.replicate n [v]).flatten.length = n := by
  induction n with
  | zero => rfl
  | succ n ih =>
    rw [List.replicate_succ, List.flatten_cons, List.length_append, ih]
    show 1 + n = n + 1
    omega
/-- the share of row by bs -/
def dvQ (bs row : List Int) : List Int := (dvN bs row (row.length - (bs.length - 1))).2.reverse
abbrev s_divided : Stmt := top 5
abbrev N_divided : List Str := ["row", "by", "degree", "rest", "falling", "top", "start", "at"]
abbrev P_divided : List Str := ["row", "by"]
theorem sc_divided : FnScope N_divided P_divided (defScope s_divided) := ⟨rfl, rfl, rfl, by decide +kernel, rfl, by decide +kernel, by decide +kernel⟩
def spDvd (K : PySem.W.Frag) : Sp := fun vs H Q _ => ∃ (a b : Addr) (row bs : List Int), vs = [.ref a, .ref b] ∧ SqL K H a (row.map V.int) ∧ SqL K H b (bs.map V.int) ∧ 1 ≤ bs.length ∧ bs.length ≤ 1000 ∧ row.length ≤ 1000 ∧ (∀ x ∈ bs, -1000000 ≤ x ∧ x ≤ 1000000) ∧
  ∀ t q z H', H q = none → Same H H' → SqT K H' t [.ref q, .ref z] → H' q = some (.lst ((dvQ bs row).map V.int)) → Q (.ref t) H'
section
variable {P : Program} {w : World} {K : PySem.W.Frag} {mg : Str → Option Value} {base : Heap}
theorem ok_divided {f : Addr} {fd : FuncData} {k : Nat} (F : Fun K "divided" "divided" s_divided f fd) (T : Blt mg) : FnOk P w K mg base CX0 (k + 1) f fd P_divided (spDvd K) := by
  have nd := sc_divided.nd
  refine F.ok sc_divided (fun vs H Q E h => ?_) (fun cdv A outer s H vs Q E hr h => ?_)
  · obtain ⟨a, b, row, bs, rfl, _⟩ := h
    rfl
  · obtain ⟨a, b, row, bs, rfl, ha, hb, b1, b2, r1, hbb, q⟩ := h
    refine ⟨_, (pss_cons (ps_set (i := 2) nd rfl (Or.inl rfl) (pe_op op_sub (pe_callB (r := rLenQ K) call_len_seq (by rfl) T.b_len (by decide +kernel) (pa_cons (pv 1) pa_nil)) (pe_int)))
      (pss_cons (ps_set (i := 3) nd rfl (Or.inl rfl) (pe_callTy call_list_of (by rfl) T.b_list (by decide +kernel) (pa_cons (pv 0) pa_nil)))
      (pss_cons (ps_set (i := 4) nd rfl (Or.inl rfl) (pe_lst pa_nil))
      (pss_cons (ps_while PassesOwn.never (pt_cmpR op_gt (pe_callB (r := rLenQ K) call_len_seq (by rfl) T.b_len (by decide +kernel) (pa_cons (pv 3) pa_nil)) (pv 2) (nomark _))
      (pss_cons (ps_set (i := 5) nd rfl (Or.inl rfl) (pe_bm0 PySem.F.plainAttrs_list PySem.F.slot_list_pop PySem.F.type_list_pop mt_pop (pv 3)))
      (pss_cons (ps_expr (pe_bm PySem.F.plainAttrs_list PySem.F.slot_list_append PySem.F.type_list_append mt_append (pv 4) (pa_cons (pv 5) pa_nil)))
      (pss_cons (ps_set (i := 6) nd rfl (Or.inl rfl) (pe_op op_sub (pe_callB (r := rLenQ K) call_len_seq (by rfl) T.b_len (by decide +kernel) (pa_cons (pv 3) pa_nil)) (pv 2)))
      (pss_one (ps_for PassesOwn.never rfl (pi_range1 (by rfl) T.b_range (pa_cons (pv 2) pa_nil)) (pg_name (i := 7) nd rfl (Or.inl rfl))
      (pss_one (ps_augS (pv 3) (pe_op op_add (pv 6) (pv 7)) (get_list (X := _)) (pe_op op_mul (pv 5) (pe_ix (r := rIxL K) ix_list (pv 1) (pv 7) (fun _ _ => rfl))) ip_sub set_list))))))))
      (pss_one (ps_ret (pe_tup (pa_cons (pe_revL (pv 4)) (pa_cons (pe_op op_cat (pv 3) (pe_op op_rep (pe_lst (pa_cons (pe_int) pa_nil)) (pe_op op_sub (pv 2) (pe_callB (r := rLenQ K) call_len_seq (by rfl) T.b_len (by decide +kernel) (pa_cons (pv 3) pa_nil))))) pa_nil))))))))), ?_⟩
    walk_at "ev"
    intro l1 hl1
    generalize hG : upd _ l1 _ = H1
    obtain ⟨sm1, hq1⟩ := newO hG hl1
    clear hG
    walk_at "ev"
    intro l2 hl2
    generalize hG : upd _ l2 _ = H2
    obtain ⟨sm2, hq2⟩ := newO hG hl2
    clear hG
    have n12 : l1 ≠ l2 := ne_of_none hq1 hl2
    have f2 : H l2 = none := sm1.free hl2
    walk_at "ev"
    refine ⟨fun m σ H' => ∃ (n : Nat) (s5 s6 s7 : Option V), σ = [some (.ref a), some (.ref b), some (.int (((bs.map V.int).length : Int) - 1)), some (.ref l1), some (.ref l2), s5, s6, s7] ∧ m = row.length - n ∧ n ≤ row.length - (bs.length - 1) ∧ Same H H' ∧ H' l1 = some (.lst ((dvN bs row n).1.map V.int)) ∧ H' l2 = some (.lst ((dvN bs row n).2.map V.int)), ⟨_, 0, none, none, none, rfl, rfl, Nat.zero_le _, sm1.trans sm2, sm2 _ _ hq1, hq2⟩, ?_⟩
    rintro m σ H3 ⟨n, s5, s6, s7, rfl, rfl, hn, sm3, h1, h2⟩
    obtain ⟨e1, e2⟩ := dvN_len (bs := bs) (row := row) (n := n)
    have hL1 := SqL.of (K := K) h1
    walk_at "ev"
    refine ite2 (fun c => ?_) (fun c => ?_)
    · have c1 := of_decide_eq_true c
      simp only [List.length_map, e1] at c1
      refine ⟨_, holdN, ?_⟩
      have hy : ((dvN bs row n).1.map V.int)[((dvN bs row n).1.map V.int).length - 1]? = some (.int ((dvN bs row n).1.getD ((dvN bs row n).1.length - 1) 0)) := by
        rw [List.getElem?_map, List.length_map, List.getD_eq_getElem?_getD, List.getElem?_eq_getElem (by omega)]
        rfl
      have etop : ∃ top, (dvN bs row n).1.getD ((dvN bs row n).1.length - 1) 0 = top := ⟨_, rfl⟩
      obtain ⟨top, htop⟩ := etop
      rw [htop] at hy
      walk_at "ev"
      generalize hG : upd _ l1 _ = H4
      obtain ⟨k4, hq4⟩ := mutO hG
      have sm4 : Same H H4 := by rw [← hG]; exact same_mut sm3 hl1
      clear hG
      have h24 := k4 _ _ n12.symm h2
      have h14 : upd H4 l2 (.lst ((dvN bs row n).2.map V.int ++ [.int top])) l1 = some (.lst ((dvN bs row n).1.map V.int).dropLast) := by
        rw [upd_ne n12]
        exact hq4
      have hL5 := SqL.of (K := K) h14
      walk_at "ev"
      generalize hG : upd H4 l2 _ = H5
      have sm5 : Same H H5 := by rw [← hG]; exact same_mut sm4 f2
      have h25 := (mutO hG).2
      rw [hG] at h14
      clear hG hL5
      have edl : ((dvN bs row n).1.map V.int).dropLast = (dvN bs row n).1.dropLast.map V.int := by
        rw [List.map_dropLast]
      rw [edl] at h14
      refine for_range (lo := 0) (n := (((bs.map V.int).length : Int) - 1).toNat) (fun i σ H' => Hold (∃ s7, σ = [some (.ref a), some (.ref b), some (.int (((bs.map V.int).length : Int) - 1)), some (.ref l1), some (.ref l2), some (.int top), some (.int (((((dvN bs row n).1.map V.int).dropLast).length : Int) - (((bs.map V.int).length : Int) - 1))), s7] ∧ Same H H' ∧ H' l1 = some (.lst ((subAt ((dvN bs row n).1.length - 1 - (bs.length - 1)) top bs (dvN bs row n).1.dropLast i).map V.int)) ∧ H' l2 = some (.lst ((dvN bs row n).2.map V.int ++ [.int top])))) (.mk ⟨_, rfl, sm5, h14, h25⟩) ?_ ?_
      · intro i σ H6 hi hP
        obtain ⟨s7, rfl, sm6, h16, h26⟩ := hP.un
        have hi1 : i < bs.length - 1 := by
          rw [List.length_map] at hi
          omega
        have hb6 := sm6.seq hb
        have hL6 := SqL.of (K := K) h16
        have hsl := subAt_len (start := (dvN bs row n).1.length - 1 - (bs.length - 1)) (top := top) (bs := bs) (r := (dvN bs row n).1.dropLast) (i := i)
        rw [List.length_dropLast] at hsl
        have eix : ((((dvN bs row n).1.map V.int).dropLast).length : Int) - (((bs.map V.int).length : Int) - 1) + (0 + (i : Int)) = (((dvN bs row n).1.length - 1 - (bs.length - 1) + i : Nat) : Int) := by
          rw [List.length_dropLast, List.length_map, List.length_map]
          omega
        have hlt : (dvN bs row n).1.length - 1 - (bs.length - 1) + i < (dvN bs row n).1.length - 1 := by omega
        have at1 : atI ((subAt ((dvN bs row n).1.length - 1 - (bs.length - 1)) top bs (dvN bs row n).1.dropLast i).map V.int) (((((dvN bs row n).1.map V.int).dropLast).length : Int) - (((bs.map V.int).length : Int) - 1) + (0 + (i : Int))) = some (.int ((subAt ((dvN bs row n).1.length - 1 - (bs.length - 1)) top bs (dvN bs row n).1.dropLast i).getD ((dvN bs row n).1.length - 1 - (bs.length - 1) + i) 0)) := by
          refine at_nat ?_ eix
          rw [List.getElem?_map, List.getD_eq_getElem?_getD, List.getElem?_eq_getElem (by omega)]
          rfl
        have hix : ixN ((subAt ((dvN bs row n).1.length - 1 - (bs.length - 1)) top bs (dvN bs row n).1.dropLast i).map V.int).length (((((dvN bs row n).1.map V.int).dropLast).length : Int) - (((bs.map V.int).length : Int) - 1) + (0 + (i : Int))) = some ((dvN bs row n).1.length - 1 - (bs.length - 1) + i) := by
          exact ixn_of (by rw [List.length_map]; omega) eix
        have at2 : atI (bs.map V.int) (0 + (i : Int)) = some (.int (bs.getD i 0)) := by
          refine at_nat (j := i) ?_ (by omega)
          rw [List.getElem?_map, List.getD_eq_getElem?_getD, List.getElem?_eq_getElem (by omega)]
          rfl
        have hbi : -1000000 ≤ bs.getD i 0 ∧ bs.getD i 0 ≤ 1000000 := by
          rw [List.getD_eq_getElem?_getD, List.getElem?_eq_getElem (by omega)]
          exact hbb _ (List.getElem_mem _)
        have cm : CMul top (bs.getD i 0) := .inr ⟨by omega, by omega⟩
        walk_at "ev"
        refine .mk ⟨_, rfl, same_mut sm6 hl1, ?_, ?_⟩
        · rw [upd_same, subAt, List.map_set]
        · rw [upd_ne n12.symm]
          exact h26
      · intro σ H6 hP
        obtain ⟨s7, rfl, sm6, h16, h26⟩ := hP.un
        have edg : (((bs.map V.int).length : Int) - 1).toNat = bs.length - 1 := by
          rw [List.length_map]
          omega
        rw [edg] at h16
        refine .mk ⟨row.length - (n + 1), by omega, n + 1, _, _, _, rfl, rfl, by omega, sm6, ?_, ?_⟩
        · rw [h16, dvN, dvS, htop]
        · rw [h26, dvN, dvS, htop]
          show _ = some (HO.lst (List.map _ (_ ++ _)))
          rw [List.map_append]
          rfl
    · have c1 : ¬ _ := fun z => c (decide_eq_true z)
      simp only [List.length_map, e1] at c1
      have hL2 := SqL.of (K := K) h2
      have en : n = row.length - (bs.length - 1) := by omega
      walk_at "ev"
      intro q1 hq
      generalize hG : upd _ q1 _ = H4
      obtain ⟨sm4, hq4⟩ := newO hG hq
      clear hG
      have hL4 := sm4.seq hL1
      walk_at "ev"
      intro l5 hl5
      generalize hG : upd _ l5 _ = H5
      obtain ⟨sm5, hq5⟩ := newO hG hl5
      clear hG
      have hL5 := sm5.seq hL4
      have z1 : ([V.int 0] : List V).length * ((((bs.map V.int).length : Int) - 1) - (((dvN bs row n).1.map V.int).length : Int)).toNat ≤ sizeLine := szl (by rw [List.length_map, List.length_map]; show 1 * _ ≤ 60000; omega)
      have z2 : -(2 ^ 63) ≤ (((bs.map V.int).length : Int) - 1) - (((dvN bs row n).1.map V.int).length : Int) := by rw [List.length_map, List.length_map]; omega
      have z3 : (((bs.map V.int).length : Int) - 1) - (((dvN bs row n).1.map V.int).length : Int) < 2 ^ 63 := by rw [List.length_map, List.length_map]; omega
      walk_at "ev"
      intro l6 hl6
      generalize hG : upd _ l6 _ = H6
      obtain ⟨sm6, hq6⟩ := newO hG hl6
      clear hG
      have h16 := (sm4.trans (sm5.trans sm6)) _ _ h1
      have z4 : ((dvN bs row n).1.map V.int).length + (List.replicate ((((bs.map V.int).length : Int) - 1) - (((dvN bs row n).1.map V.int).length : Int)).toNat [V.int 0]).flatten.length ≤ sizeLine := szl (by
        rw [rep_len, List.length_map, List.length_map]
        show _ ≤ 60000
        omega)
      walk_at "ev"
      intro l7 hl7
      generalize hG : upd _ l7 _ = H7
      obtain ⟨sm7, hq7⟩ := newO hG hl7
      clear hG
      walk_at "ev"
      intro t8 ht8
      generalize hG : upd _ t8 _ = H8
      obtain ⟨sm8, hq8⟩ := newO hG ht8
      clear hG
      have s48 := sm5.trans (sm6.trans (sm7.trans sm8))
      refine q t8 q1 l7 H8 (sm3.free hq) (sm3.trans (sm4.trans s48)) (SqT.of hq8) ?_
      rw [s48 _ _ hq4, dvQ, ← en, List.map_reverse]
end
/-! ### wheels to thirty, by a table -/
def WT : List (List Int) := [[], [-1, 1], [1, 1], [1, 1, 1], [1, 0, 1], [1, 1, 1, 1, 1], [1, -1, 1], [1, 1, 1, 1, 1, 1, 1], [1, 0, 0, 0, 1], [1, 0, 0, 1, 0, 0, 1], [1, -1, 1, -1, 1], [1, 1, 1, 1, 1, 1, 1, 1, 1, 1, 1], [1, 0, -1, 0, 1], [1, 1, 1, 1, 1, 1, 1, 1, 1, 1, 1, 1, 1], [1, -1, 1, -1, 1, -1, 1], [1, -1, 0, 1, -1, 1, 0, -1, 1], [1, 0, 0, 0, 0, 0, 0, 0, 1], [1, 1, 1, 1, 1, 1, 1, 1, 1, 1, 1, 1, 1, 1, 1, 1, 1], [1, 0, 0, -1, 0, 0, 1], [1, 1, 1, 1, 1, 1, 1, 1, 1, 1, 1, 1, 1, 1, 1, 1, 1, 1, 1], [1, 0, -1, 0, 1, 0, -1, 0, 1], [1, -1, 0, 1, -1, 0, 1, 0, -1, 1, 0, -1, 1], [1, -1, 1, -1, 1, -1, 1, -1, 1, -1, 1], [1, 1, 1, 1, 1, 1, 1, 1, 1, 1, 1, 1, 1, 1, 1, 1, 1, 1, 1, 1, 1, 1, 1], [1, 0, 0, 0, -1, 0, 0, 0, 1], [1, 0, 0, 0, 0, 1, 0, 0, 0, 0, 1, 0, 0, 0, 0, 1, 0, 0, 0, 0, 1], [1, -1, 1, -1, 1, -1, 1, -1, 1, -1, 1, -1, 1], [1, 0, 0, 0, 0, 0, 0, 0, 0, 1, 0, 0, 0, 0, 0, 0, 0, 0, 1], [1, 0, -1, 0, 1, 0, -1, 0, 1, 0, -1, 0, 1], [1, 1, 1, 1, 1, 1, 1, 1, 1, 1, 1, 1, 1, 1, 1, 1, 1, 1, 1, 1, 1, 1, 1, 1, 1, 1, 1, 1, 1], [1, 1, 0, -1, -1, -1, 0, 1, 1]]
def whl (n : Nat) : List Int := WT.getD n []
def pdv (n : Nat) : List Nat := (List.range' 1 (n - 1)).filter fun d => decide (n % d = 0)
def whS (n : Nat) : List Int := [-1] ++ List.replicate (n - 1) 0 ++ [1]
theorem whl_ok : ∀ n < 31, 1 ≤ n → (pdv n).foldl (fun t d => dvQ (whl d) t) (whS n) = whl n := by decide +kernel
theorem whl_len : ∀ n < 31, 1 ≤ n → 1 ≤ (whl n).length ∧ (whl n).length ≤ 31 := by decide +kernel
theorem whl_bnd : ∀ n < 31, ∀ x ∈ whl n, -1000000 ≤ x ∧ x ≤ 1000000 := by decide +kernel
theorem dvQ_len {bs row : List Int} : (dvQ bs row).length ≤ row.length := by
  unfold dvQ
  rw [List.length_reverse, dvN_len.2]
  omega
theorem pdv_dv {n : Nat} (h : 1 ≤ n) : IsDv (n : Int) ((pdv n ++ [n]).map Int.ofNat) := by
  refine ⟨?_, fun k => ?_⟩
  · rw [List.pairwise_map, List.pairwise_append]
    refine ⟨?_, List.pairwise_singleton _ _, fun x hx y hy => ?_⟩
    · refine (List.Pairwise.filter _ (List.pairwise_lt_range' (s := 1) (n := n - 1))).imp fun {x y} z => ?_
      exact Int.ofNat_lt.mpr z
    · have h1 := (List.mem_filter.mp hx).1
      rw [List.mem_range'_1] at h1
      rw [List.mem_singleton.mp hy]
      exact Int.ofNat_lt.mpr (by omega)
  · rw [List.mem_map]
    constructor
    · rintro ⟨x, hx, rfl⟩
      rcases List.mem_append.mp hx with z | z
      · obtain ⟨h1, h2⟩ := List.mem_filter.mp z
        rw [List.mem_range'_1] at h1
        exact ⟨Int.ofNat_le.mpr h1.1, Int.ofNat_dvd.mpr (Nat.dvd_of_mod_eq_zero (of_decide_eq_true h2))⟩
      · rw [List.mem_singleton.mp z]
        exact ⟨Int.ofNat_le.mpr h, Int.dvd_refl _⟩
    · rintro ⟨h1, h2⟩
      obtain ⟨m, rfl⟩ := Int.eq_ofNat_of_zero_le (show 0 ≤ k by omega)
      have h3 : m ∣ n := Int.ofNat_dvd.mp h2
      have h4 := Nat.le_of_dvd (by omega) h3
      refine ⟨m, List.mem_append.mpr ?_, rfl⟩
      by_cases c : m = n
      · exact .inr (by rw [c]; exact List.mem_singleton.mpr rfl)
      · refine .inl (List.mem_filter.mpr ⟨?_, decide_eq_true (Nat.mod_eq_zero_of_dvd h3)⟩)
        rw [List.mem_range'_1]
        omega
theorem rep_flat {n : Nat} {v : V} : (List.replicate n [v]).flatten = List.replicate n v := by
  induction n with
  | zero => rfl
  | succ n ih =>
    rw [List.replicate_succ, List.flatten_cons, ih]
    rfl
theorem cut_last {xs : List V} {v : V} : cutV (xs ++ [v]) none (some (-1)) = xs := by
  unfold cutV
  have e : HT.sIx (xs ++ [v]).length (xs ++ [v]).length (some (-1)) = xs.length := by
    simp [HT.sIx]
    try omega
  have e0 : HT.sIx (xs ++ [v]).length 0 none = 0 := by simp [HT.sIx]
  rw [e, e0, List.drop_zero, Nat.sub_zero, List.take_left]
abbrev s_wheel : Stmt := top 6
abbrev N_wheel : List Str := ["order", "told", "divisor"]
abbrev P_wheel : List Str := ["order"]
theorem sc_wheel : FnScope N_wheel P_wheel (defScope s_wheel) := ⟨rfl, rfl, rfl, by decide +kernel, rfl, by decide +kernel, by decide +kernel⟩
def spWheel (j : Nat) : Sp := fun vs H Q _ => ∃ (n : Nat), vs = [.int (n : Int)] ∧ 1 ≤ n ∧ n < 31 ∧ n < 2 ^ j ∧ ∀ l H', H l = none → Same H H' → H' l = some (.lst ((whl n).map V.int)) → Q (.ref l) H'
section
variable {P : Program} {w : World} {K : PySem.W.Frag} {mg : Str → Option Value} {base : Heap}
theorem wheel_step {f f1 f2 : Addr} {fd d1 d2 : FuncData} {j : Nat} (D_wheel : Df K mg "wheel" s_wheel P_wheel f fd) (T : Blt mg) (D_divisors : Df K mg "divisors" s_divisors P_divisors f1 d1) (D_divided : Df K mg "divided" s_divided P_divided f2 d2)
    (G_wheel : FnOk P w K mg base CX0 (j + 1) f fd P_wheel (spWheel j)) : FnOk P w K mg base CX0 (j + 2) f fd P_wheel (spWheel (j + 1)) := by
  have F := D_wheel.F
  have G_divisors : FnOk P w K mg base CX0 1 f1 d1 P_divisors spDiv := ok_divisors D_divisors.F T
  have G_divided : FnOk P w K mg base CX0 1 f2 d2 P_divided (spDvd K) := ok_divided D_divided.F T
  have nd := sc_wheel.nd
  refine F.ok sc_wheel (fun vs H Q E h => ?_) (fun cdv A outer s H vs Q E hr h => ?_)
  · obtain ⟨n, rfl, _⟩ := h
    rfl
  · obtain ⟨n, rfl, n1, n31, nj, q⟩ := h
    refine ⟨_, (pss_cons (ps_set (i := 1) nd rfl (Or.inl rfl) (pe_op op_cat (pe_op op_cat (pe_lst (pa_cons (pe_un un_neg (pe_int)) pa_nil)) (pe_op op_rep (pe_lst (pa_cons (pe_int) pa_nil)) (pe_op op_sub (pv 0) (pe_int)))) (pe_lst (pa_cons (pe_int) pa_nil))))
      (pss_cons (ps_for PassesOwn.never rfl (pi_list (pe_slice (r := rSlL K) sl_list (pe_call G_divisors (hr.mono (by omega)) (by rfl) D_divisors.g D_divisors.F.kp D_divisors.b .nil pass0 (pa_cons (pv 0) pa_nil)) po_none (po_some (pe_un un_neg (pe_int))))) (pg_name (i := 2) nd rfl (Or.inl rfl))
      (pss_one (ps_set (i := 1) nd rfl (Or.inl rfl) (pe_ix (r := rIxT K) ix_tup (pe_call G_divided (hr.mono (by omega)) (by rfl) D_divided.g D_divided.F.kp D_divided.b .nil pass0 (pa_cons (pv 1) (pa_cons (pe_call G_wheel (hr.mono (by omega)) (by rfl) D_wheel.g D_wheel.F.kp D_wheel.b .nil pass0 (pa_cons (pv 2) pa_nil)) pa_nil))) (pe_int) (fun _ _ => rfl)))))
      (pss_one (ps_ret (pv 1))))), ?_⟩
    walk_at "ev"
    intro l1 hl1
    generalize hG : upd _ l1 _ = H1
    obtain ⟨sm1, hq1⟩ := newO hG hl1
    clear hG
    walk_at "ev"
    intro l2 hl2
    generalize hG : upd _ l2 _ = H2
    obtain ⟨sm2, hq2⟩ := newO hG hl2
    clear hG
    have z1 : ([V.int 0] : List V).length * ((n : Int) - 1).toNat ≤ sizeLine := szl (by show 1 * _ ≤ 60000; omega)
    walk_at "ev"
    intro l3 hl3
    generalize hG : upd _ l3 _ = H3
    obtain ⟨sm3, hq3⟩ := newO hG hl3
    clear hG
    have h13 := (sm2.trans sm3) _ _ hq1
    have z2 : ([(fun i => V.int (-i)) 1] : List V).length + (List.replicate ((n : Int) - 1).toNat [V.int 0]).flatten.length ≤ sizeLine := szl (by rw [rep_len]; show 1 + _ ≤ 60000; omega)
    walk_at "ev"
    intro l4 hl4
    generalize hG : upd _ l4 _ = H4
    obtain ⟨sm4, hq4⟩ := newO hG hl4
    clear hG
    walk_at "ev"
    intro l5 hl5
    generalize hG : upd _ l5 _ = H5
    obtain ⟨sm5, hq5⟩ := newO hG hl5
    clear hG
    have h45 := sm5 _ _ hq4
    have z3 : ([(fun i => V.int (-i)) 1] ++ (List.replicate ((n : Int) - 1).toNat [V.int 0]).flatten).length + ([V.int 1] : List V).length ≤ sizeLine := szl (by rw [List.length_append, rep_len]; show 1 + _ + 1 ≤ 60000; omega)
    walk_at "ev"
    intro l6 hl6
    generalize hG : upd _ l6 _ = H6
    obtain ⟨sm6, hq6⟩ := newO hG hl6
    clear hG
    have ew : [(fun i => V.int (-i)) 1] ++ (List.replicate ((n : Int) - 1).toNat [V.int 0]).flatten ++ [V.int 1] = (whS n).map V.int := by
      unfold whS
      rw [List.map_append, List.map_append, show ((n : Int) - 1).toNat = n - 1 by omega, List.map_replicate, rep_flat]
      rfl
    rw [ew] at hq6
    have s06 := sm1.trans (sm2.trans (sm3.trans (sm4.trans (sm5.trans sm6))))
    have f6 : H l6 = none := (sm1.trans (sm2.trans (sm3.trans (sm4.trans sm5)))).free hl6
    walk_at "ev"
    intro ds l7 H7 hdv hl7 sm7 hq7
    have eds := hdv.uniq (pdv_dv n1)
    subst eds
    have hL7 := SqL.of (K := K) hq7
    walk_at "ev"
    intro l8 hl8
    generalize hG : upd _ l8 _ = H8
    obtain ⟨sm8, hq8⟩ := newO hG hl8
    clear hG
    have ec : cutV (((pdv n ++ [n]).map Int.ofNat).map V.int) none (some (-1)) = (pdv n).map fun (d : Nat) => V.int (d : Int) := by
      rw [List.map_map, List.map_append]
      exact cut_last
    have hq8' : H8 l8 = some (.lst ((pdv n).map fun (d : Nat) => V.int (d : Int))) := by
      rw [hq8, ← ec]
    clear hq8
    have s08 := s06.trans (sm7.trans sm8)
    have f8 : H l8 = none := (s06.trans sm7).free hl8
    refine ⟨l8, rfl, ⟨_, SqL.of hq8'⟩, ?_⟩
    refine for_list (K := K) (a := l8) (xs := (pdv n).map fun (d : Nat) => V.int (d : Int)) (fun i σ H' => Hold (∃ (lt : Addr) (s2 : Option V), σ = [some (.int (n : Int)), some (.ref lt), s2] ∧ H lt = none ∧ Same H H' ∧ H' l8 = some (.lst ((pdv n).map fun (d : Nat) => V.int (d : Int))) ∧ (((pdv n).take i).foldl (fun t d => dvQ (whl d) t) (whS n)).length ≤ 1000 ∧ H' lt = some (.lst ((((pdv n).take i).foldl (fun t d => dvQ (whl d) t) (whS n)).map V.int)))) (.mk ⟨l6, _, rfl, f6, s08, hq8', ?_, (sm7.trans sm8) _ _ hq6⟩) ?_ ?_ ?_
    · show (whS n).length ≤ 1000
      unfold whS
      rw [List.length_append, List.length_append, List.length_replicate]
      show 1 + (n - 1) + 1 ≤ 1000
      omega
    · intro i σ Hx hi hP
      obtain ⟨lt, s2, rfl, ft, smx, hx8, hlen, hxt⟩ := hP.un
      exact SqL.of hx8
    · intro i v σ Hx hv hP
      obtain ⟨lt, s2, rfl, ft, smx, hx8, hlen, hxt⟩ := hP.un
      rw [List.getElem?_map] at hv
      obtain ⟨d, hd, ev⟩ := Option.map_eq_some_iff.mp hv
      subst ev
      obtain ⟨hd1, hd2⟩ := List.mem_filter.mp (List.mem_of_getElem? hd)
      rw [List.mem_range'_1] at hd1
      have hd3 := of_decide_eq_true hd2
      have hdn : 2 * d ≤ n := by
        obtain ⟨c, hc⟩ := Nat.dvd_of_mod_eq_zero hd3
        have c2 : 2 ≤ c := by
          apply Nat.le_of_not_lt
          intro z
          have : c = 0 ∨ c = 1 := by omega
          rcases this with z | z <;> subst z <;> omega
        have := Nat.mul_le_mul_left d c2
        omega
      have hdj : d < 2 ^ j := by
        rw [Nat.pow_succ] at nj
        omega
      have hd31 : d < 31 := by omega
      have hd0 : 1 ≤ d := hd1.1
      have hLt := SqL.of (K := K) hxt
      obtain ⟨wl1, wl2⟩ := whl_len d hd31 hd0
      have wl3 : (whl d).length ≤ 1000 := by omega
      have wb := whl_bnd d hd31
      walk_at "ev"
      intro lw H9 hlw sm9 hq9
      have hLw := SqL.of (K := K) hq9
      have hLt9 := sm9.seq hLt
      have et : ((pdv n).take (i + 1)).foldl (fun t d => dvQ (whl d) t) (whS n) = dvQ (whl d) (((pdv n).take i).foldl (fun t d => dvQ (whl d) t) (whS n)) := by
        rw [List.take_succ, hd, List.foldl_append]
        rfl
      have el := dvQ_len (bs := whl d) (row := ((pdv n).take i).foldl (fun t d => dvQ (whl d) t) (whS n))
      walk_at "ev"
      intro t10 q10 z10 H10 hq sm10 hT hq10
      have at0 : atI [V.ref q10, V.ref z10] 0 = some (.ref q10) := rfl
      walk_at "ev"
      refine .mk ⟨q10, _, rfl, (smx.trans sm9).free hq, smx.trans (sm9.trans sm10), (sm9.trans sm10) _ _ hx8, ?_, ?_⟩
      · rw [et]
        omega
      · rw [et]
        exact hq10
    · intro σ Hx hP
      obtain ⟨lt, s2, rfl, ft, smx, hx8, hlen, hxt⟩ := hP.un
      rw [List.length_map, List.take_length, whl_ok n n31 n1] at hxt
      walk_at "ev"
      exact q lt Hx ft smx hxt
theorem ok_wheel {f f1 f2 : Addr} {fd d1 d2 : FuncData} (D_wheel : Df K mg "wheel" s_wheel P_wheel f fd) (T : Blt mg) (D_divisors : Df K mg "divisors" s_divisors P_divisors f1 d1) (D_divided : Df K mg "divided" s_divided P_divided f2 d2) : ∀ j : Nat, FnOk P w K mg base CX0 (j + 1) f fd P_wheel (spWheel j)
  | 0 => ⟨fun _ _ _ _ ⟨n, _, h1, _, h2, _⟩ => absurd h2 (by rw [Nat.pow_zero]; omega), fun _ _ _ _ _ _ _ _ _ _ _ _ _ ⟨n, _, h1, _, h2, _⟩ => absurd h2 (by rw [Nat.pow_zero]; omega)⟩
  | j + 1 => wheel_step D_wheel T D_divisors D_divided (ok_wheel D_wheel T D_divisors D_divided j)
end
/-! ### a loop over enumerate -/
theorem for_enumL {K : PySem.W.Frag} {a : Addr} {xs : List V} {g : TG} {tb : TS} {D : Ends} {σ : L2.St} {H : Hp} (Pv : Nat → L2.St → Hp → Prop) (h0 : Pv 0 σ H) (hq : ∀ i σ H, Pv i σ H → SqL K H a xs)
    (hs : ∀ (i : Nat) (x : V) (T : Addr) (σ : L2.St) (H : Hp), xs[i]? = some x → Pv i σ H → H T = none → g (.ref T) σ (upd H T (.tup [.int (i : Nat), x])) fun σ2 H2 => tb { D with nx := Pv (i + 1), ct := Pv (i + 1), bk := D.nx } σ2 H2) (hd : ∀ σ H, Pv xs.length σ H → D.nx σ H) :
    ∃ W : Nat → Nat → L2.St → Hp → Prop, (∃ m, W 0 m σ H) ∧ ∀ i m σ H, W i m σ H →
      ((Ite K a).stop i H ∧ D.nx σ H) ∨ ((Ite K a).go i H ∧ ∃ N : L2.St → Hp → Prop, (∀ σ' H', N σ' H' → ∃ m', m' < m ∧ W (i + 1) m' σ' H') ∧ ∀ v H', (Ite K a).yld i H v H' → g v σ H' fun σ2 H2 => tb { D with nx := N, ct := N, bk := D.nx } σ2 H2) := by
  refine ⟨fun i m σ H => m = xs.length - i ∧ i ≤ xs.length ∧ Pv i σ H, ⟨xs.length, rfl, Nat.zero_le _, h0⟩, ?_⟩
  rintro i m σ H ⟨rfl, hi, p⟩
  have q := hq i σ H p
  by_cases hlt : i < xs.length
  · refine .inr ⟨⟨xs, xs[i], q, List.getElem?_eq_getElem hlt⟩, Pv (i + 1), fun σ' H' p' => ⟨xs.length - (i + 1), by omega, rfl, hlt, p'⟩, fun v H' y => ?_⟩
    obtain ⟨T, x', rfl, hT, rfl, f1⟩ := y
    exact hs i x' T σ H (f1 xs q) p hT
  · have e : i = xs.length := by omega
    subst e
    exact .inl ⟨⟨xs, q, Nat.le_refl _⟩, hd σ H p⟩
/-! ### the law's own dividing -/
def ldN (bs row : List Int) : Nat → List Int × List Int
  | 0 => (row, [])
  | n + 1 => (subAt (row.length - bs.length - n) ((ldN bs row n).1.getD (row.length - bs.length - n + bs.length - 1) 0) bs (ldN bs row n).1 bs.length, (ldN bs row n).2 ++ [(ldN bs row n).1.getD (row.length - bs.length - n + bs.length - 1) 0])
theorem ldN_len {bs row : List Int} {n : Nat} : (ldN bs row n).1.length = row.length ∧ (ldN bs row n).2.length = n := by
  induction n with
  | zero => exact ⟨rfl, rfl⟩
  | succ n ih =>
    rw [ldN]
    refine ⟨?_, ?_⟩
    · show (subAt _ _ _ _ _).length = _
      rw [subAt_len, ih.1]
    · show List.length (_ ++ _) = _
      rw [List.length_append, ih.2]
      rfl
def ldQ (bs row : List Int) : List Int := (ldN bs row (row.length + 1 - bs.length)).2.reverse
theorem ldQ_len {bs row : List Int} (h : 1 ≤ bs.length) : (ldQ bs row).length ≤ row.length := by
  unfold ldQ
  rw [List.length_reverse, ldN_len.2]
  omega
theorem at_map {ns : List Int} {i : Int} {j : Nat} (h : j < ns.length) (e : i = (j : Int)) : atI (ns.map V.int) i = some (.int (ns.getD j 0)) := by
  refine at_nat ?_ e
  rw [List.getElem?_map, List.getD_eq_getElem?_getD, List.getElem?_eq_getElem h]
  rfl
abbrev s__law_divided : Stmt := top 11
abbrev N__law_divided : List Str := ["_law_top", "_law_low", "_law_rest", "_law_found", "_law_place", "_law_many", "_law_spot", "_law_number"]
abbrev P__law_divided : List Str := ["_law_top", "_law_low"]
theorem sc__law_divided : FnScope N__law_divided P__law_divided (defScope s__law_divided) := ⟨rfl, rfl, rfl, by decide +kernel, rfl, by decide +kernel, by decide +kernel⟩
def spLdv (K : PySem.W.Frag) : Sp := fun vs H Q _ => ∃ (a b : Addr) (row bs : List Int), vs = [.ref a, .ref b] ∧ SqL K H a (row.map V.int) ∧ SqL K H b (bs.map V.int) ∧ 1 ≤ bs.length ∧ bs.length ≤ 1000 ∧ row.length ≤ 1000 ∧ (∀ x ∈ bs, -1000000 ≤ x ∧ x ≤ 1000000) ∧
  ∀ q H', H q = none → Same H H' → H' q = some (.lst ((ldQ bs row).map V.int)) → Q (.ref q) H'
section
variable {P : Program} {w : World} {K : PySem.W.Frag} {mg : Str → Option Value} {base : Heap}
theorem ok_ldv {f : Addr} {fd : FuncData} {k : Nat} (F : Fun K "_law_divided" "_law_divided" s__law_divided f fd) (T : Blt mg) : FnOk P w K mg base CX0 (k + 1) f fd P__law_divided (spLdv K) := by
  have nd := sc__law_divided.nd
  refine F.ok sc__law_divided (fun vs H Q E h => ?_) (fun cdv A outer s H vs Q E hr h => ?_)
  · obtain ⟨a, b, row, bs, rfl, _⟩ := h
    rfl
  · obtain ⟨a, b, row, bs, rfl, ha, hb, b1, b2, r1, hbb, q⟩ := h
    refine ⟨_, (pss_cons (ps_par (i := 2) (j := 3) (by rfl) nd rfl rfl (by decide) rfl rfl (pa_cons (pe_callTy call_list_of (by rfl) T.b_list (by decide +kernel) (pa_cons (pv 0) pa_nil)) (pa_cons (pe_lst pa_nil) pa_nil)) (by rfl))
      (pss_cons (ps_for PassesOwn.never rfl (pi_range3 (by rfl) T.b_range (pa_cons (pe_op op_sub (pe_callB (r := rLenQ K) call_len_seq (by rfl) T.b_len (by decide +kernel) (pa_cons (pv 0) pa_nil)) (pe_callB (r := rLenQ K) call_len_seq (by rfl) T.b_len (by decide +kernel) (pa_cons (pv 1) pa_nil))) (pa_cons (pe_un un_neg (pe_int)) (pa_cons (pe_un un_neg (pe_int)) pa_nil)))) (pg_name (i := 4) nd rfl (Or.inl rfl))
      (pss_cons (ps_set (i := 5) nd rfl (Or.inl rfl) (pe_ix (r := rIxL K) ix_list (pv 2) (pe_op op_sub (pe_op op_add (pv 4) (pe_callB (r := rLenQ K) call_len_seq (by rfl) T.b_len (by decide +kernel) (pa_cons (pv 1) pa_nil))) (pe_int)) (fun _ _ => rfl)))
      (pss_cons (ps_expr (pe_bm PySem.F.plainAttrs_list PySem.F.slot_list_append PySem.F.type_list_append mt_append (pv 3) (pa_cons (pv 5) pa_nil)))
      (pss_one (ps_for PassesOwn.never rfl (pi_enum (by rfl) T.b_enumerate (pa_cons (pv 1) pa_nil)) (pg_tup (by rfl) (pgs_cons (pg_name (i := 6) nd rfl (Or.inl rfl)) (pgs_cons (pg_name (i := 7) nd rfl (Or.inl rfl)) pgs_nil)))
      (pss_one (ps_asg (pe_op op_sub (pe_ix (r := rIxL K) ix_list (pv 2) (pe_op op_add (pv 4) (pv 6)) (fun _ _ => rfl)) (pe_op op_mul (pv 5) (pv 7))) (pg_sub (pv 2) (pe_op op_add (pv 4) (pv 6)) set_list))))))))
      (pss_one (ps_ret (pe_revL (pv 3)))))), ?_⟩
    walk_at "ev"
    intro l1 hl1
    generalize hG : upd _ l1 _ = H1
    obtain ⟨sm1, hq1⟩ := newO hG hl1
    clear hG
    walk_at "ev"
    intro l2 hl2
    generalize hG : upd _ l2 _ = H2
    obtain ⟨sm2, hq2⟩ := newO hG hl2
    clear hG
    have n12 : l1 ≠ l2 := ne_of_none hq1 hl2
    have f2 : H l2 = none := sm1.free hl2
    have sm02 := sm1.trans sm2
    have ha2 := sm02.seq ha
    have hb2 := sm02.seq hb
    have rg : RgC (((row.map V.int).length : Int) - ((bs.map V.int).length : Int)) (-1) (-1) ((((row.map V.int).length : Int) - ((bs.map V.int).length : Int)) - (-1)).toNat := RgC.neg (by rw [List.length_map, List.length_map]; omega) (by rw [List.length_map, List.length_map]; omega) (by decide) (by decide)
    walk_at "ev"
    have en : ((((row.map V.int).length : Int) - ((bs.map V.int).length : Int)) - (-1)).toNat = row.length + 1 - bs.length := by
      rw [List.length_map, List.length_map]
      omega
    refine for_rangeC (lo := _) (c := _) (n := _) (fun n σ H' => Hold (∃ (s4 s5 s6 s7 : Option V), σ = [some (.ref a), some (.ref b), some (.ref l1), some (.ref l2), s4, s5, s6, s7] ∧ Same H H' ∧ H' l1 = some (.lst ((ldN bs row n).1.map V.int)) ∧ H' l2 = some (.lst ((ldN bs row n).2.map V.int)))) (.mk ⟨none, none, none, none, rfl, sm02, sm2 _ _ hq1, hq2⟩) ?_ ?_
    · intro n σ H3 hn hP
      obtain ⟨s4, s5, s6, s7, rfl, sm3, h1, h2⟩ := hP.un
      rw [en] at hn
      obtain ⟨e1, e2⟩ := ldN_len (bs := bs) (row := row) (n := n)
      have hL1 := SqL.of (K := K) h1
      have hb3 := sm3.seq hb
      have epl : (((row.map V.int).length : Int) - ((bs.map V.int).length : Int)) + (n : Nat) * (-1) = ((row.length - bs.length - n : Nat) : Int) := by
        rw [List.length_map, List.length_map]
        omega
      rw [epl]
      have at1 : atI ((ldN bs row n).1.map V.int) (((row.length - bs.length - n : Nat) : Int) + ((bs.map V.int).length : Int) - 1) = some (.int ((ldN bs row n).1.getD (row.length - bs.length - n + bs.length - 1) 0)) := at_map (by omega) (by rw [List.length_map]; omega)
      obtain ⟨top, htop⟩ : ∃ top, (ldN bs row n).1.getD (row.length - bs.length - n + bs.length - 1) 0 = top := ⟨_, rfl⟩
      rw [htop] at at1
      walk_at "ev"
      generalize hG : upd _ l2 _ = H4
      obtain ⟨k4, hq4⟩ := mutO hG
      have sm4 : Same H H4 := by rw [← hG]; exact same_mut sm3 f2
      clear hG
      have h14 := k4 _ _ n12 h1
      have hb4 := sm4.seq hb
      refine ⟨hb4, for_enumL (K := K) (a := b) (xs := bs.map V.int) (fun i σ H' => Hold (∃ (s6 s7 : Option V), σ = [some (.ref a), some (.ref b), some (.ref l1), some (.ref l2), some (.int ((row.length - bs.length - n : Nat) : Int)), some (.int top), s6, s7] ∧ Same H H' ∧ H' l1 = some (.lst ((subAt (row.length - bs.length - n) top bs (ldN bs row n).1 i).map V.int)) ∧ H' l2 = some (.lst ((ldN bs row n).2.map V.int ++ [.int top])))) (.mk ⟨_, _, rfl, sm4, h14, hq4⟩) ?_ ?_ ?_⟩
      · intro i σ H5 hP
        obtain ⟨s6, s7, rfl, sm5, h15, h25⟩ := hP.un
        exact sm5.seq hb
      · intro i v T' σ H5 hv hP hT
        obtain ⟨s6, s7, rfl, sm5, h15, h25⟩ := hP.un
        rw [List.getElem?_map] at hv
        obtain ⟨x, hx, ev⟩ := Option.map_eq_some_iff.mp hv
        subst ev
        have hil : i < bs.length := (List.getElem?_eq_some_iff.mp hx).1
        have exi : bs.getD i 0 = x := by rw [List.getD_eq_getElem?_getD, hx]; rfl
        have hxb := hbb x (List.mem_of_getElem? hx)
        generalize hG : upd _ T' _ = H6
        obtain ⟨sm6, hq6⟩ := newO hG hT
        clear hG
        have hT6 : SqT K H6 T' [.int (i : Nat), .int x] := SqT.of hq6
        have h16 := sm6 _ _ h15
        have hL6 := SqL.of (K := K) h16
        have hsl := subAt_len (start := row.length - bs.length - n) (top := top) (bs := bs) (r := (ldN bs row n).1) (i := i)
        have at2 : atI ((subAt (row.length - bs.length - n) top bs (ldN bs row n).1 i).map V.int) (((row.length - bs.length - n : Nat) : Int) + (i : Nat)) = some (.int ((subAt (row.length - bs.length - n) top bs (ldN bs row n).1 i).getD (row.length - bs.length - n + i) 0)) := at_map (by omega) (by omega)
        have hix : ixN ((subAt (row.length - bs.length - n) top bs (ldN bs row n).1 i).map V.int).length (((row.length - bs.length - n : Nat) : Int) + (i : Nat)) = some (row.length - bs.length - n + i) := ixn_of (by rw [List.length_map]; omega) (by omega)
        have cm : CMul top x := .inr ⟨by omega, by omega⟩
        walk_at "ev"
        refine .mk ⟨_, _, rfl, same_mut (sm5.trans sm6) hl1, ?_, ?_⟩
        · rw [upd_same, subAt, List.map_set, exi]
        · rw [upd_ne n12.symm]
          exact sm6 _ _ h25
      · intro σ H5 hP
        obtain ⟨s6, s7, rfl, sm5, h15, h25⟩ := hP.un
        rw [List.length_map] at h15
        refine .mk ⟨_, _, _, _, rfl, sm5, ?_, ?_⟩
        · rw [h15, ldN, htop]
        · rw [h25, ldN, htop, List.map_append]
          rfl
    · intro σ H3 hP
      obtain ⟨s4, s5, s6, s7, rfl, sm3, h1, h2⟩ := hP.un
      rw [en] at h2
      have hL2 := SqL.of (K := K) h2
      walk_at "ev"
      intro q1 hq
      generalize hG : upd _ q1 _ = H4
      obtain ⟨sm4, hq4⟩ := newO hG hq
      clear hG
      refine q q1 H4 (sm3.free hq) (sm3.trans sm4) ?_
      rw [hq4, ldQ, List.map_reverse]
end
theorem owl_ok : ∀ n < 31, 1 ≤ n → (pdv n).foldl (fun t d => ldQ (whl d) t) (whS n) = whl n := by decide +kernel
theorem pdv_step {n i : Nat} (h : i < n - 1) : (List.range' 1 (i + 1)).filter (fun d => decide (n % d = 0)) = (List.range' 1 i).filter (fun d => decide (n % d = 0)) ++ (if n % (1 + i) = 0 then [1 + i] else []) := by
  rw [List.range'_concat, List.filter_append, Nat.one_mul]
  congr 1
  by_cases c : n % (1 + i) = 0
  · rw [if_pos c]
    simp [c]
  · rw [if_neg c]
    simp [c]
abbrev s__law_own_wheel : Stmt := top 12
abbrev N__law_own_wheel : List Str := ["_law_number", "_law_found", "_law_part"]
abbrev P__law_own_wheel : List Str := ["_law_number"]
theorem sc__law_own_wheel : FnScope N__law_own_wheel P__law_own_wheel (defScope s__law_own_wheel) := ⟨rfl, rfl, rfl, by decide +kernel, rfl, by decide +kernel, by decide +kernel⟩
section
variable {P : Program} {w : World} {K : PySem.W.Frag} {mg : Str → Option Value} {base : Heap}
theorem own_step {f f2 : Addr} {fd d2 : FuncData} {j : Nat} (D__law_own_wheel : Df K mg "_law_own_wheel" s__law_own_wheel P__law_own_wheel f fd) (T : Blt mg) (D__law_divided : Df K mg "_law_divided" s__law_divided P__law_divided f2 d2)
    (G__law_own_wheel : FnOk P w K mg base CX0 (j + 1) f fd P__law_own_wheel (spWheel j)) : FnOk P w K mg base CX0 (j + 2) f fd P__law_own_wheel (spWheel (j + 1)) := by
  have F := D__law_own_wheel.F
  have G__law_divided : FnOk P w K mg base CX0 1 f2 d2 P__law_divided (spLdv K) := ok_ldv D__law_divided.F T
  have nd := sc__law_own_wheel.nd
  refine F.ok sc__law_own_wheel (fun vs H Q E h => ?_) (fun cdv A outer s H vs Q E hr h => ?_)
  · obtain ⟨n, rfl, _⟩ := h
    rfl
  · obtain ⟨n, rfl, n1, n31, nj, q⟩ := h
    refine ⟨_, (pss_cons (ps_set (i := 1) nd rfl (Or.inl rfl) (pe_op op_cat (pe_op op_cat (pe_lst (pa_cons (pe_un un_neg (pe_int)) pa_nil)) (pe_op op_rep (pe_lst (pa_cons (pe_int) pa_nil)) (pe_op op_sub (pv 0) (pe_int)))) (pe_lst (pa_cons (pe_int) pa_nil))))
      (pss_cons (ps_for PassesOwn.never rfl (pi_range2 (by rfl) T.b_range (pa_cons (pe_int) (pa_cons (pv 0) pa_nil))) (pg_name (i := 2) nd rfl (Or.inl rfl))
      (pss_one (ps_if (pt_cmpR op_eq (pe_op op_mod (pv 0) (pv 2)) (pe_int) (nomark _)) (pss_one (ps_set (i := 1) nd rfl (Or.inl rfl) (pe_call G__law_divided (hr.mono (by omega)) (by rfl) D__law_divided.g D__law_divided.F.kp D__law_divided.b .nil pass0 (pa_cons (pv 1) (pa_cons (pe_call G__law_own_wheel (hr.mono (by omega)) (by rfl) D__law_own_wheel.g D__law_own_wheel.F.kp D__law_own_wheel.b .nil pass0 (pa_cons (pv 2) pa_nil)) pa_nil))))) pss_nil)))
      (pss_one (ps_ret (pv 1))))), ?_⟩
    walk_at "ev"
    intro l1 hl1
    generalize hG : upd _ l1 _ = H1
    obtain ⟨sm1, hq1⟩ := newO hG hl1
    clear hG
    walk_at "ev"
    intro l2 hl2
    generalize hG : upd _ l2 _ = H2
    obtain ⟨sm2, hq2⟩ := newO hG hl2
    clear hG
    have z1 : ([V.int 0] : List V).length * ((n : Int) - 1).toNat ≤ sizeLine := szl (by show 1 * _ ≤ 60000; omega)
    walk_at "ev"
    intro l3 hl3
    generalize hG : upd _ l3 _ = H3
    obtain ⟨sm3, hq3⟩ := newO hG hl3
    clear hG
    have h13 := (sm2.trans sm3) _ _ hq1
    have z2 : ([(fun i => V.int (-i)) 1] : List V).length + (List.replicate ((n : Int) - 1).toNat [V.int 0]).flatten.length ≤ sizeLine := szl (by rw [rep_len]; show 1 + _ ≤ 60000; omega)
    walk_at "ev"
    intro l4 hl4
    generalize hG : upd _ l4 _ = H4
    obtain ⟨sm4, hq4⟩ := newO hG hl4
    clear hG
    walk_at "ev"
    intro l5 hl5
    generalize hG : upd _ l5 _ = H5
    obtain ⟨sm5, hq5⟩ := newO hG hl5
    clear hG
    have h45 := sm5 _ _ hq4
    have z3 : ([(fun i => V.int (-i)) 1] ++ (List.replicate ((n : Int) - 1).toNat [V.int 0]).flatten).length + ([V.int 1] : List V).length ≤ sizeLine := szl (by rw [List.length_append, rep_len]; show 1 + _ + 1 ≤ 60000; omega)
    walk_at "ev"
    intro l6 hl6
    generalize hG : upd _ l6 _ = H6
    obtain ⟨sm6, hq6⟩ := newO hG hl6
    clear hG
    have ew : [(fun i => V.int (-i)) 1] ++ (List.replicate ((n : Int) - 1).toNat [V.int 0]).flatten ++ [V.int 1] = (whS n).map V.int := by
      unfold whS
      rw [List.map_append, List.map_append, show ((n : Int) - 1).toNat = n - 1 by omega, List.map_replicate, rep_flat]
      rfl
    rw [ew] at hq6
    have s06 := sm1.trans (sm2.trans (sm3.trans (sm4.trans (sm5.trans sm6))))
    have f6 : H l6 = none := (sm1.trans (sm2.trans (sm3.trans (sm4.trans sm5)))).free hl6
    walk_at "ev"
    refine for_range (lo := 1) (n := _) (fun i σ H' => Hold (∃ (lt : Addr) (s2 : Option V), σ = [some (.int (n : Int)), some (.ref lt), s2] ∧ H lt = none ∧ Same H H' ∧ ((((List.range' 1 i).filter fun d => decide (n % d = 0))).foldl (fun t d => ldQ (whl d) t) (whS n)).length ≤ 1000 ∧ H' lt = some (.lst (((((List.range' 1 i).filter fun d => decide (n % d = 0))).foldl (fun t d => ldQ (whl d) t) (whS n)).map V.int)))) (.mk ⟨l6, _, rfl, f6, s06, ?_, hq6⟩) ?_ ?_
    · show (whS n).length ≤ 1000
      unfold whS
      rw [List.length_append, List.length_append, List.length_replicate]
      show 1 + (n - 1) + 1 ≤ 1000
      omega
    · intro i σ Hx hi hP
      obtain ⟨lt, s2, rfl, ft, smx, hlen, hxt⟩ := hP.un
      have hi1 : i < n - 1 := by omega
      have hst := pdv_step hi1
      have ei : (1 : Int) + (i : Nat) = ((1 + i : Nat) : Int) := by omega
      rw [ei]
      walk_at "ev"
      refine ite2 (fun c => ?_) (fun c => ?_)
      · have c1 : n % (1 + i) = 0 := by
          have := V.int.inj (of_decide_eq_true c)
          omega
        rw [if_pos c1] at hst
        have hdn : 2 * (1 + i) ≤ n := by
          obtain ⟨m, hc⟩ := Nat.dvd_of_mod_eq_zero c1
          have c2 : 2 ≤ m := by
            apply Nat.le_of_not_lt
            intro z
            have : m = 0 ∨ m = 1 := by omega
            rcases this with z | z <;> subst z <;> omega
          have := Nat.mul_le_mul_left (1 + i) c2
          omega
        have hdj : 1 + i < 2 ^ j := by
          rw [Nat.pow_succ] at nj
          omega
        have hd31 : 1 + i < 31 := by omega
        have hd0 : 1 ≤ 1 + i := by omega
        have hLt := SqL.of (K := K) hxt
        obtain ⟨wl1, wl2⟩ := whl_len (1 + i) hd31 hd0
        have wl3 : (whl (1 + i)).length ≤ 1000 := by omega
        have wb := whl_bnd (1 + i) hd31
        walk_at "ev"
        intro lw H9 hlw sm9 hq9
        have hLw := SqL.of (K := K) hq9
        have hLt9 := sm9.seq hLt
        have el := ldQ_len (bs := whl (1 + i)) (row := ((List.range' 1 i).filter fun d => decide (n % d = 0)).foldl (fun t d => ldQ (whl d) t) (whS n)) wl1
        walk_at "ev"
        intro q10 H10 hq sm10 hq10
        refine .mk ⟨q10, _, rfl, (smx.trans sm9).free hq, smx.trans (sm9.trans sm10), ?_, ?_⟩
        · rw [hst, List.foldl_append]
          show (ldQ _ _).length ≤ 1000
          omega
        · rw [hst, List.foldl_append]
          exact hq10
      · have c1 : ¬ n % (1 + i) = 0 := fun z => c (decide_eq_true (congrArg V.int (by omega)))
        rw [if_neg c1, List.append_nil] at hst
        walk_at "ev"
        refine .mk ⟨lt, _, rfl, ft, smx, ?_, ?_⟩
        · rw [hst]
          exact hlen
        · rw [hst]
          exact hxt
    · intro σ Hx hP
      obtain ⟨lt, s2, rfl, ft, smx, hlen, hxt⟩ := hP.un
      have en : ((n : Int) - 1).toNat = n - 1 := by omega
      rw [en] at hxt
      have hk := owl_ok n n31 n1
      unfold pdv at hk
      rw [hk] at hxt
      walk_at "ev"
      exact q lt Hx ft smx hxt
theorem ok_own {f f2 : Addr} {fd d2 : FuncData} (D__law_own_wheel : Df K mg "_law_own_wheel" s__law_own_wheel P__law_own_wheel f fd) (T : Blt mg) (D__law_divided : Df K mg "_law_divided" s__law_divided P__law_divided f2 d2) : ∀ j : Nat, FnOk P w K mg base CX0 (j + 1) f fd P__law_own_wheel (spWheel j)
  | 0 => ⟨fun _ _ _ _ ⟨n, _, h1, _, h2, _⟩ => absurd h2 (by rw [Nat.pow_zero]; omega), fun _ _ _ _ _ _ _ _ _ _ _ _ _ ⟨n, _, h1, _, h2, _⟩ => absurd h2 (by rw [Nat.pow_zero]; omega)⟩
  | j + 1 => own_step D__law_own_wheel T D__law_divided (ok_own D__law_own_wheel T D__law_divided j)
end
/-! ### the law's own multiplying -/
def addAt (start : Nat) (top : Int) (bs : List Int) (r : List Int) : Nat → List Int
  | 0 => r
  | i + 1 => (addAt start top bs r i).set (start + i) ((addAt start top bs r i).getD (start + i) 0 + top * bs.getD i 0)
theorem addAt_len {start : Nat} {top : Int} {bs r : List Int} {i : Nat} : (addAt start top bs r i).length = r.length := by
  induction i with
  | zero => rfl
  | succ i ih => rw [addAt, List.length_set, ih]
def pmN (one two : List Int) : Nat → List Int
  | 0 => List.replicate (one.length + two.length - 1) 0
  | n + 1 => addAt n (one.getD n 0) two (pmN one two n) two.length
theorem pmN_len {one two : List Int} {n : Nat} : (pmN one two n).length = one.length + two.length - 1 := by
  induction n with
  | zero => rw [pmN, List.length_replicate]
  | succ n ih => rw [pmN, addAt_len, ih]
def pmul (one two : List Int) : List Int := pmN one two one.length
abbrev s__law_poly_times : Stmt := top 13
abbrev N__law_poly_times : List Str := ["_law_one", "_law_two", "_law_found", "_law_place", "_law_a", "_law_spot", "_law_b"]
abbrev P__law_poly_times : List Str := ["_law_one", "_law_two"]
theorem sc__law_poly_times : FnScope N__law_poly_times P__law_poly_times (defScope s__law_poly_times) := ⟨rfl, rfl, rfl, by decide +kernel, rfl, by decide +kernel, by decide +kernel⟩
def spPoly (K : PySem.W.Frag) : Sp := fun vs H Q _ => ∃ (a b : Addr) (one two : List Int), vs = [.ref a, .ref b] ∧ SqL K H a (one.map V.int) ∧ SqL K H b (two.map V.int) ∧ 1 ≤ two.length ∧ two.length ≤ 1000 ∧ one.length ≤ 1000 ∧ (∀ x ∈ two, -1000000 ≤ x ∧ x ≤ 1000000) ∧
  ∀ q H', H q = none → Same H H' → H' q = some (.lst ((pmul one two).map V.int)) → Q (.ref q) H'
section
variable {P : Program} {w : World} {K : PySem.W.Frag} {mg : Str → Option Value} {base : Heap}
theorem ok_poly {f : Addr} {fd : FuncData} {k : Nat} (F : Fun K "_law_poly_times" "_law_poly_times" s__law_poly_times f fd) (T : Blt mg) : FnOk P w K mg base CX0 (k + 1) f fd P__law_poly_times (spPoly K) := by
  have nd := sc__law_poly_times.nd
  refine F.ok sc__law_poly_times (fun vs H Q E h => ?_) (fun cdv A outer s H vs Q E hr h => ?_)
  · obtain ⟨a, b, one, two, rfl, _⟩ := h
    rfl
  · obtain ⟨a, b, one, two, rfl, ha, hb, b1, b2, r1, hbb, q⟩ := h
    refine ⟨_, (pss_cons (ps_set (i := 2) nd rfl (Or.inl rfl) (pe_op op_rep (pe_lst (pa_cons (pe_int) pa_nil)) (pe_op op_sub (pe_op op_add (pe_callB (r := rLenQ K) call_len_seq (by rfl) T.b_len (by decide +kernel) (pa_cons (pv 0) pa_nil)) (pe_callB (r := rLenQ K) call_len_seq (by rfl) T.b_len (by decide +kernel) (pa_cons (pv 1) pa_nil))) (pe_int))))
      (pss_cons (ps_for PassesOwn.never rfl (pi_enum (by rfl) T.b_enumerate (pa_cons (pv 0) pa_nil)) (pg_tup (by rfl) (pgs_cons (pg_name (i := 3) nd rfl (Or.inl rfl)) (pgs_cons (pg_name (i := 4) nd rfl (Or.inl rfl)) pgs_nil)))
      (pss_one (ps_for PassesOwn.never rfl (pi_enum (by rfl) T.b_enumerate (pa_cons (pv 1) pa_nil)) (pg_tup (by rfl) (pgs_cons (pg_name (i := 5) nd rfl (Or.inl rfl)) (pgs_cons (pg_name (i := 6) nd rfl (Or.inl rfl)) pgs_nil)))
      (pss_one (ps_asg (pe_op op_add (pe_ix (r := rIxL K) ix_list (pv 2) (pe_op op_add (pv 3) (pv 5)) (fun _ _ => rfl)) (pe_op op_mul (pv 4) (pv 6))) (pg_sub (pv 2) (pe_op op_add (pv 3) (pv 5)) set_list))))))
      (pss_one (ps_ret (pv 2))))), ?_⟩
    have z2 : -(2 ^ 63) ≤ ((one.map V.int).length : Int) + ((two.map V.int).length : Int) - 1 := by rw [List.length_map, List.length_map]; omega
    have z3 : ((one.map V.int).length : Int) + ((two.map V.int).length : Int) - 1 < 2 ^ 63 := by rw [List.length_map, List.length_map]; omega
    have z1 : ([V.int 0] : List V).length * (((one.map V.int).length : Int) + ((two.map V.int).length : Int) - 1).toNat ≤ sizeLine := szl (by rw [List.length_map, List.length_map]; show 1 * _ ≤ 60000; omega)
    walk_at "ev"
    intro l0 hl0
    generalize hG : upd _ l0 _ = H0
    obtain ⟨sm0, hq0⟩ := newO hG hl0
    clear hG
    have ha0 := sm0.seq ha
    have hb0 := sm0.seq hb
    walk_at "ev"
    intro l1 hl1
    generalize hG : upd _ l1 _ = H1
    obtain ⟨sm1, hq1⟩ := newO hG hl1
    clear hG
    have en : (((one.map V.int).length : Int) + ((two.map V.int).length : Int) - 1).toNat = one.length + two.length - 1 := by
      rw [List.length_map, List.length_map]
      omega
    have hq1' : H1 l1 = some (.lst ((pmN one two 0).map V.int)) := by
      rw [hq1, pmN, en, rep_flat, List.map_replicate]
    clear hq1
    have sm01 := sm0.trans sm1
    have ha1 := sm01.seq ha
    have f1 : H l1 = none := sm0.free hl1
    walk_at "ev"
    refine for_enumL (K := K) (a := a) (xs := one.map V.int) (fun n σ H' => Hold (∃ (s3 s4 s5 s6 : Option V), σ = [some (.ref a), some (.ref b), some (.ref l1), s3, s4, s5, s6] ∧ Same H H' ∧ H' l1 = some (.lst ((pmN one two n).map V.int)))) (.mk ⟨none, none, none, none, rfl, sm01, hq1'⟩) ?_ ?_ ?_
    · intro i σ H5 hP
      obtain ⟨s3, s4, s5, s6, rfl, sm5, h15⟩ := hP.un
      exact sm5.seq ha
    · intro n v T' σ H5 hv hP hT
      obtain ⟨s3, s4, s5, s6, rfl, sm5, h15⟩ := hP.un
      rw [List.getElem?_map] at hv
      obtain ⟨top, hx, ev⟩ := Option.map_eq_some_iff.mp hv
      subst ev
      have hnl : n < one.length := (List.getElem?_eq_some_iff.mp hx).1
      have exn : one.getD n 0 = top := by rw [List.getD_eq_getElem?_getD, hx]; rfl
      generalize hG : upd _ T' _ = H6
      obtain ⟨sm6, hq6⟩ := newO hG hT
      clear hG
      have hT6 : SqT K H6 T' [.int (n : Nat), .int top] := SqT.of hq6
      have h16 := sm6 _ _ h15
      have sm06 := sm5.trans sm6
      have hb6 := sm06.seq hb
      walk_at "ev"
      refine for_enumL (K := K) (a := b) (xs := two.map V.int) (fun i σ H' => Hold (∃ (s5 s6 : Option V), σ = [some (.ref a), some (.ref b), some (.ref l1), some (.int (n : Nat)), some (.int top), s5, s6] ∧ Same H H' ∧ H' l1 = some (.lst ((addAt n top two (pmN one two n) i).map V.int)))) (.mk ⟨_, _, rfl, sm06, h16⟩) ?_ ?_ ?_
      · intro i σ H7 hP
        obtain ⟨s5, s6, rfl, sm7, h17⟩ := hP.un
        exact sm7.seq hb
      · intro i v T2 σ H7 hv hP hT2
        obtain ⟨s5, s6, rfl, sm7, h17⟩ := hP.un
        rw [List.getElem?_map] at hv
        obtain ⟨x, hx2, ev⟩ := Option.map_eq_some_iff.mp hv
        subst ev
        have hil : i < two.length := (List.getElem?_eq_some_iff.mp hx2).1
        have exi : two.getD i 0 = x := by rw [List.getD_eq_getElem?_getD, hx2]; rfl
        have hxb := hbb x (List.mem_of_getElem? hx2)
        generalize hG : upd _ T2 _ = H8
        obtain ⟨sm8, hq8⟩ := newO hG hT2
        clear hG
        have hT8 : SqT K H8 T2 [.int (i : Nat), .int x] := SqT.of hq8
        have h18 := sm8 _ _ h17
        have hL8 := SqL.of (K := K) h18
        have hsl := addAt_len (start := n) (top := top) (bs := two) (r := pmN one two n) (i := i)
        rw [pmN_len] at hsl
        have at2 : atI ((addAt n top two (pmN one two n) i).map V.int) ((n : Nat) + (i : Nat)) = some (.int ((addAt n top two (pmN one two n) i).getD (n + i) 0)) := at_map (by omega) (by omega)
        have hix : ixN ((addAt n top two (pmN one two n) i).map V.int).length ((n : Nat) + (i : Nat)) = some (n + i) := ixn_of (by rw [List.length_map]; omega) (by omega)
        have cm : CMul top x := .inr ⟨by omega, by omega⟩
        walk_at "ev"
        refine .mk ⟨_, _, rfl, same_mut (sm7.trans sm8) f1, ?_⟩
        rw [upd_same, addAt, List.map_set, exi]
      · intro σ H7 hP
        obtain ⟨s5, s6, rfl, sm7, h17⟩ := hP.un
        rw [List.length_map] at h17
        refine .mk ⟨_, _, _, _, rfl, sm7, ?_⟩
        rw [h17, pmN, exn]
    · intro σ H5 hP
      obtain ⟨s3, s4, s5, s6, rfl, sm5, h15⟩ := hP.un
      rw [List.length_map] at h15
      walk_at "ev"
      exact q l1 H5 f1 sm5 h15
end
theorem prd_ok : ∀ n < 31, 1 ≤ n → ((List.range' 1 n).filter fun d => decide (n % d = 0)).foldl (fun t d => pmul t (whl d)) [1] = whS n := by decide +kernel
theorem pdv_next {n i : Nat} : (List.range' 1 (i + 1)).filter (fun d => decide (n % d = 0)) = (List.range' 1 i).filter (fun d => decide (n % d = 0)) ++ (if n % (1 + i) = 0 then [1 + i] else []) := by
  rw [List.range'_concat, List.filter_append, Nat.one_mul]
  congr 1
  by_cases c : n % (1 + i) = 0
  · rw [if_pos c]
    simp [c]
  · rw [if_neg c]
    simp [c]
abbrev s__law_product_right : Stmt := top 14
abbrev N__law_product_right : List Str := ["_law_order", "_law_found", "_law_part"]
abbrev P__law_product_right : List Str := ["_law_order"]
theorem sc__law_product_right : FnScope N__law_product_right P__law_product_right (defScope s__law_product_right) := ⟨rfl, rfl, rfl, by decide +kernel, rfl, by decide +kernel, by decide +kernel⟩
def spPrd : Sp := fun vs H Q _ => ∃ (n : Nat), vs = [.int (n : Int)] ∧ 1 ≤ n ∧ n < 31 ∧ ∀ H', Same H H' → Q (.bl true) H'
section
variable {P : Program} {w : World} {K : PySem.W.Frag} {mg : Str → Option Value} {base : Heap}
theorem ok_prd {f f1 f2 f3 f4 : Addr} {fd d1 d2 d3 d4 : FuncData} {k : Nat} (F : Fun K "_law_product_right" "_law_product_right" s__law_product_right f fd) (T : Blt mg) (D__law_poly_times : Df K mg "_law_poly_times" s__law_poly_times P__law_poly_times f1 d1) (D_wheel : Df K mg "wheel" s_wheel P_wheel f2 d2) (D_divisors : Df K mg "divisors" s_divisors P_divisors f3 d3) (D_divided : Df K mg "divided" s_divided P_divided f4 d4) : FnOk P w K mg base CX0 (k + 7) f fd P__law_product_right spPrd := by
  have G_wheel : FnOk P w K mg base CX0 6 f2 d2 P_wheel (spWheel 5) := ok_wheel D_wheel T D_divisors D_divided 5
  have G__law_poly_times : FnOk P w K mg base CX0 1 f1 d1 P__law_poly_times (spPoly K) := ok_poly D__law_poly_times.F T
  have nd := sc__law_product_right.nd
  refine F.ok sc__law_product_right (fun vs H Q E h => ?_) (fun cdv A outer s H vs Q E hr h => ?_)
  · obtain ⟨n, rfl, _⟩ := h
    rfl
  · obtain ⟨n, rfl, n1, n31, q⟩ := h
    refine ⟨_, (pss_cons (ps_set (i := 1) nd rfl (Or.inl rfl) (pe_lst (pa_cons (pe_int) pa_nil)))
      (pss_cons (ps_for PassesOwn.never rfl (pi_range2 (by rfl) T.b_range (pa_cons (pe_int) (pa_cons (pe_op op_add (pv 0) (pe_int)) pa_nil))) (pg_name (i := 2) nd rfl (Or.inl rfl))
      (pss_one (ps_if (pt_cmpR op_eq (pe_op op_mod (pv 0) (pv 2)) (pe_int) (nomark _)) (pss_one (ps_set (i := 1) nd rfl (Or.inl rfl) (pe_call G__law_poly_times (hr.mono (by omega)) (by rfl) D__law_poly_times.g D__law_poly_times.F.kp D__law_poly_times.b .nil pass0 (pa_cons (pv 1) (pa_cons (pe_call G_wheel (hr.mono (by omega)) (by rfl) D_wheel.g D_wheel.F.kp D_wheel.b .nil pass0 (pa_cons (pv 2) pa_nil)) pa_nil))))) pss_nil)))
      (pss_one (ps_ret (pe_cmpR (r := rEqD K) (op_eqD hr.units) (pv 1) (pe_op op_cat (pe_op op_cat (pe_lst (pa_cons (pe_un un_neg (pe_int)) pa_nil)) (pe_op op_rep (pe_lst (pa_cons (pe_int) pa_nil)) (pe_op op_sub (pv 0) (pe_int)))) (pe_lst (pa_cons (pe_int) pa_nil))) (nomark _)))))), ?_⟩
    walk_at "ev"
    intro l1 hl1
    generalize hG : upd _ l1 _ = H1
    obtain ⟨sm1, hq1⟩ := newO hG hl1
    clear hG
    walk_at "ev"
    refine for_range (lo := 1) (n := _) (fun i σ H' => Hold (∃ (lt : Addr) (s2 : Option V), σ = [some (.int (n : Int)), some (.ref lt), s2] ∧ Same H H' ∧ ((((List.range' 1 i).filter fun d => decide (n % d = 0))).foldl (fun t d => pmul t (whl d)) [1]).length ≤ 1 + 31 * i ∧ H' lt = some (.lst (((((List.range' 1 i).filter fun d => decide (n % d = 0))).foldl (fun t d => pmul t (whl d)) [1]).map V.int)))) (.mk ⟨l1, _, rfl, sm1, Nat.le_refl _, hq1⟩) ?_ ?_
    · intro i σ Hx hi hP
      obtain ⟨lt, s2, rfl, smx, hlen, hxt⟩ := hP.un
      have hi1 : i < n := by omega
      have hst := pdv_next (n := n) (i := i)
      have ei : (1 : Int) + (i : Nat) = ((1 + i : Nat) : Int) := by omega
      rw [ei]
      walk_at "ev"
      refine ite2 (fun c => ?_) (fun c => ?_)
      · have c1 : n % (1 + i) = 0 := by
          have := V.int.inj (of_decide_eq_true c)
          omega
        rw [if_pos c1] at hst
        have hd31 : 1 + i < 31 := by omega
        have hd0 : 1 ≤ 1 + i := by omega
        have hd5 : 1 + i < 2 ^ 5 := by omega
        have hLt := SqL.of (K := K) hxt
        obtain ⟨wl1, wl2⟩ := whl_len (1 + i) hd31 hd0
        have wl3 : (whl (1 + i)).length ≤ 1000 := by omega
        have wb := whl_bnd (1 + i) hd31
        walk_at "ev"
        intro lw H9 hlw sm9 hq9
        have hLw := SqL.of (K := K) hq9
        have hLt9 := sm9.seq hLt
        walk_at "ev"
        intro q10 H10 hq sm10 hq10
        refine .mk ⟨q10, _, rfl, smx.trans (sm9.trans sm10), ?_, ?_⟩
        · rw [hst, List.foldl_append]
          show (pmN _ _ _).length ≤ _
          rw [pmN_len]
          omega
        · rw [hst, List.foldl_append]
          exact hq10
      · have c1 : ¬ n % (1 + i) = 0 := fun z => c (decide_eq_true (congrArg V.int (by omega)))
        rw [if_neg c1, List.append_nil] at hst
        walk_at "ev"
        refine .mk ⟨lt, _, rfl, smx, ?_, ?_⟩
        · rw [hst]
          omega
        · rw [hst]
          exact hxt
    · intro σ Hx hP
      obtain ⟨lt, s2, rfl, smx, hlen, hxt⟩ := hP.un
      have en : ((n : Int) + 1 - 1).toNat = n := by omega
      rw [en, prd_ok n n31 n1] at hxt
      walk_at "ev"
      intro l2 hl2
      generalize hG : upd _ l2 _ = H2
      obtain ⟨sm2, hq2⟩ := newO hG hl2
      clear hG
      walk_at "ev"
      intro l3 hl3
      generalize hG : upd _ l3 _ = H3
      obtain ⟨sm3, hq3⟩ := newO hG hl3
      clear hG
      have z1 : ([V.int 0] : List V).length * ((n : Int) - 1).toNat ≤ sizeLine := szl (by show 1 * _ ≤ 60000; omega)
      walk_at "ev"
      intro l4 hl4
      generalize hG : upd _ l4 _ = H4
      obtain ⟨sm4, hq4⟩ := newO hG hl4
      clear hG
      have h24 := (sm3.trans sm4) _ _ hq2
      have z2 : ([(fun i => V.int (-i)) 1] : List V).length + (List.replicate ((n : Int) - 1).toNat [V.int 0]).flatten.length ≤ sizeLine := szl (by rw [rep_len]; show 1 + _ ≤ 60000; omega)
      walk_at "ev"
      intro l5 hl5
      generalize hG : upd _ l5 _ = H5
      obtain ⟨sm5, hq5⟩ := newO hG hl5
      clear hG
      walk_at "ev"
      intro l6 hl6
      generalize hG : upd _ l6 _ = H6
      obtain ⟨sm6, hq6⟩ := newO hG hl6
      clear hG
      have h56 := sm6 _ _ hq5
      have z3 : ([(fun i => V.int (-i)) 1] ++ (List.replicate ((n : Int) - 1).toNat [V.int 0]).flatten).length + ([V.int 1] : List V).length ≤ sizeLine := szl (by rw [List.length_append, rep_len]; show 1 + _ + 1 ≤ 60000; omega)
      walk_at "ev"
      intro l7 hl7
      generalize hG : upd _ l7 _ = H7
      obtain ⟨sm7, hq7⟩ := newO hG hl7
      clear hG
      have ew : [(fun i => V.int (-i)) 1] ++ (List.replicate ((n : Int) - 1).toNat [V.int 0]).flatten ++ [V.int 1] = (whS n).map V.int := by
        unfold whS
        rw [List.map_append, List.map_append, show ((n : Int) - 1).toNat = n - 1 by omega, List.map_replicate, rep_flat]
        rfl
      rw [ew] at hq7
      have s27 := sm2.trans (sm3.trans (sm4.trans (sm5.trans (sm6.trans sm7))))
      refine eqd_ints (ns := whS n) (ms := whS n) (SqL.of (s27 _ _ hxt)) (SqL.of hq7) ?_
      rw [decide_eq_true rfl]
      exact q _ (smx.trans s27)
end
abbrev s_totient : Stmt := top 3
abbrev N_totient : List Str := ["number", "told", "prime"]
abbrev P_totient : List Str := ["number"]
theorem sc_totient : FnScope N_totient P_totient (defScope s_totient) := ⟨rfl, rfl, rfl, by decide +kernel, rfl, by decide +kernel, by decide +kernel⟩
def totF (n : Int) (out : List Int) : Int := out.foldl (fun t p => t / p * (p - 1)) n
def spTot : Sp := fun vs H Q _ => ∃ (n : Int) (fs out : List Int), vs = [.int n] ∧ 1 ≤ n ∧ n ≤ 1000000 ∧ Fac n fs ∧ out.Pairwise (· < ·) ∧ (∀ k, k ∈ out ↔ k ∈ fs) ∧ ∀ H', Same H H' → Q (.int (totF n out)) H'
section
variable {P : Program} {w : World} {K : PySem.W.Frag} {mg : Str → Option Value} {base : Heap}
theorem tot_bound {n t p : Int} (h0 : 0 ≤ t) (h1 : t ≤ n) (hp : 2 ≤ p) : 0 ≤ t / p * (p - 1) ∧ t / p * (p - 1) ≤ n := by
  have a : 0 ≤ t / p := Int.ediv_nonneg h0 (by omega)
  have b : t / p * p ≤ t := Int.ediv_mul_le t (by omega)
  have c : t / p * (p - 1) ≤ t / p * p := Int.mul_le_mul_of_nonneg_left (by omega) a
  exact ⟨Int.mul_nonneg a (by omega), by omega⟩
theorem ok_totient {f f1 : Addr} {fd d1 : FuncData} {k : Nat} (F : Fun K "totient" "totient" s_totient f fd) (T : Blt mg) (D_factors : Df K mg "factors" s_factors P_factors f1 d1) : FnOk P w K mg base CX0 (k + 2) f fd P_totient spTot := by
  have G_factors : FnOk P w K mg base CX0 (k + 1) f1 d1 P_factors spFactors := ok_factors D_factors.F
  have nd := sc_totient.nd
  refine F.ok sc_totient (fun vs H Q E h => ?_) (fun cdv A outer s H vs Q E hr h => ?_)
  · obtain ⟨n, fs, out, rfl, _⟩ := h
    rfl
  · obtain ⟨n, fs, out, rfl, n1, n2, hfac, hso, hmo, q⟩ := h
    refine ⟨_, (pss_cons (ps_set (i := 1) nd rfl (Or.inl rfl) (pv 0))
      (pss_cons (ps_for PassesOwn.never rfl (pi_list (pe_sortSet (by rfl) T.b_sorted (by rfl) T.b_set (pe_call G_factors (hr.mono (by omega)) (by rfl) D_factors.g D_factors.F.kp D_factors.b .nil pass0 (pa_cons (pv 0) pa_nil)))) (pg_name (i := 2) nd rfl (Or.inl rfl))
      (pss_one (ps_set (i := 1) nd rfl (Or.inl rfl) (pe_op op_mul (pe_op op_fdiv (pv 1) (pv 2)) (pe_op op_sub (pv 2) (pe_int))))))
      (pss_one (ps_ret (pv 1))))), ?_⟩
    have n9 : n ≤ 1000000000 := by omega
    walk_at "ev"
    intro xs l H1 hf1 hl sm1 hq1
    have ex : xs = fs := hf1.uniq hfac
    subst ex
    have hxl := hfac.len (by omega)
    have hL1 : SqL K H1 l (xs.map V.int) := SqL.of hq1
    refine ⟨l, xs, rfl, hL1, by omega, ?_⟩
    intro out2 l2 hl2 hs2 hm2 ho2
    have eo : out2 = out := srt_ext hs2 hso fun k => (hm2 k).trans (hmo k).symm
    subst eo
    generalize hG2 : upd _ l2 _ = H2
    obtain ⟨sm2, hq2⟩ := newO hG2 hl2
    have hL2 : SqL K H2 l2 (out2.map V.int) := SqL.of hq2
    refine ⟨l2, rfl, ⟨_, hL2⟩, ?_⟩
    refine for_list (K := K) (a := l2) (xs := out2.map V.int) (fun i σ H' => Hold (∃ (t : Int) (s2 : Option V), σ = [some (.int n), some (.int t), s2] ∧ t = totF n (out2.take i) ∧ 0 ≤ t ∧ t ≤ n ∧ H' = H2)) (.mk ⟨n, none, rfl, rfl, by omega, by omega, rfl⟩) ?_ ?_ ?_
    · intro i σ H3 hi hP
      obtain ⟨t, s2, rfl, et, t0, t1, rfl⟩ := hP.un
      exact hL2
    · intro i v σ H3 hv hP
      obtain ⟨t, s2, rfl, et, t0, t1, rfl⟩ := hP.un
      rw [List.getElem?_map] at hv
      obtain ⟨x, hx, ev⟩ := Option.map_eq_some_iff.mp hv
      subst ev
      have hxm := (hmo x).mp (List.mem_of_getElem? hx)
      obtain ⟨x2, _⟩ := hfac.primes x hxm
      have hx6 := hfac.le x hxm
      obtain ⟨b0, b1⟩ := tot_bound t0 t1 x2
      have cm : CMul (t / x) (x - 1) := .inr ⟨by omega, by omega⟩
      walk_at "ev"
      refine .mk ⟨_, _, rfl, ?_, b0, b1, rfl⟩
      unfold totF
      rw [List.take_add_one, hx, List.foldl_append]
      show _ = (List.foldl _ n (List.take i out2)) / x * (x - 1)
      have et' : t = List.foldl (fun t p => t / p * (p - 1)) n (List.take i out2) := et
      rw [← et']
    · intro σ H3 hP
      obtain ⟨t, s2, rfl, et, t0, t1, rfl⟩ := hP.un
      rw [List.length_map, List.take_length] at et
      walk_at "ev"
      rw [et]
      exact q _ (sm1.trans sm2)
end
/-! ### totients to thirty, by a table -/
def FT : List (List Nat) := [[], [], [2], [3], [2, 2], [5], [2, 3], [7], [2, 2, 2], [3, 3], [2, 5], [11], [2, 2, 3], [13], [2, 7], [3, 5], [2, 2, 2, 2], [17], [2, 3, 3], [19], [2, 2, 5], [3, 7], [2, 11], [23], [2, 2, 2, 3], [5, 5], [2, 13], [3, 3, 3], [2, 2, 7], [29], [2, 3, 5]]
def facB : Nat → List Nat → Bool
  | n, [] => n == 1
  | n, p :: ps => decide (2 ≤ p) && decide (1 ≤ n / p) && (n == p * (n / p)) && (List.range p).all (fun e => decide (e < 2) || decide (n % e ≠ 0)) && facB (n / p) ps
theorem facB_ok : ∀ (ps : List Nat) (n : Nat), facB n ps = true → Fac (n : Int) (ps.map Int.ofNat)
  | [], n, h => by
    have e : n = 1 := by simpa [facB] using h
    subst e
    exact .one
  | p :: ps, n, h => by
    rw [facB, Bool.and_eq_true, Bool.and_eq_true, Bool.and_eq_true, Bool.and_eq_true] at h
    obtain ⟨⟨⟨⟨h1, h2⟩, h3⟩, h4⟩, h5⟩ := h
    have g1 := of_decide_eq_true h1
    have g2 := of_decide_eq_true h2
    have g3 : n = p * (n / p) := by simpa using h3
    refine .cons (q := ((n / p : Nat) : Int)) (by show (2 : Int) ≤ (p : Int); omega) ?_ (by omega) ?_ (facB_ok ps (n / p) h5)
    · show (n : Int) = (p : Int) * ((n / p : Nat) : Int)
      rw [← Int.natCast_mul, ← g3]
    · intro e e1 e2 e3
      obtain ⟨m, rfl⟩ := Int.eq_ofNat_of_zero_le (show 0 ≤ e by omega)
      have hm : m < p := Int.ofNat_lt.mp e2
      have := List.all_eq_true.mp h4 m (List.mem_range.mpr hm)
      rw [Bool.or_eq_true] at this
      rcases this with z | z
      · have := of_decide_eq_true z
        omega
      · have z2 := of_decide_eq_true z
        exact z2 (Nat.mod_eq_zero_of_dvd (Int.ofNat_dvd.mp e3))
def fOut (n : Nat) : List Int := ((FT.getD n []).map Int.ofNat).eraseDups
theorem ft_ok : ∀ n < 31, 1 ≤ n → facB n (FT.getD n []) = true := by decide +kernel
theorem fo_srt : ∀ n < 31, (fOut n).Pairwise (· < ·) := by decide +kernel
theorem fo_mem1 : ∀ n < 31, ∀ x ∈ fOut n, x ∈ (FT.getD n []).map Int.ofNat := by decide +kernel
theorem fo_mem2 : ∀ n < 31, ∀ x ∈ (FT.getD n []).map Int.ofNat, x ∈ fOut n := by decide +kernel
theorem fo_tot : ∀ n < 31, 1 ≤ n → ((whl n).length : Int) = 1 + totF n (fOut n) := by decide +kernel
theorem whl_last : ∀ n < 31, 1 ≤ n → (whl n).getD ((whl n).length - 1) 0 = 1 := by decide +kernel
theorem keep_fresh {b D : Addr} {H H' : Hp} {o : HO} (h : Keep b H H') (n : H D = none) : Keep b H (upd H' D o) := fun a u na e => by
  rw [upd_ne (ne_of_none e n)]
  exact h a u na e
theorem BoxAt.upd {H : Hp} {b D : Addr} {n : Int} {o : HO} (h : BoxAt H b n) (e : D ≠ b) : BoxAt (L2.upd H D o) b n := by
  obtain ⟨x, y, z, a1, a2⟩ := h
  exact ⟨x, y, z, by rw [upd_ne e.symm]; exact a1, a2⟩
theorem dpl {K : PySem.W.Frag} {H : Hp} {a : Addr} (ns : List Int) (h : SqL K H a (ns.map V.int)) : Dp K H (.ref a) (.list (ns.map PyData.int)) := .lst h (dp_ints ns)
theorem fitl (ns : List Int) (h : ns.length ≤ 4000) : Fit 1 (.list (ns.map PyData.int)) := by
  refine ⟨by rw [List.length_map]; exact h, fun e he => ?_⟩
  obtain ⟨c, _, rfl⟩ := List.mem_map.mp he
  exact True.intro
theorem fit_ni {x : Str} {a : Int} : Fit 1 (.tuple [.str x, .int a]) := by
  refine ⟨by simp, fun e he => ?_⟩
  simp only [List.mem_cons, List.not_mem_nil, or_false] at he
  rcases he with h | h <;> rw [h] <;> exact True.intro
abbrev s_law : Stmt := top 15
abbrev N_law : List Str := ["_law_script", "_law_k", "_law_box_here", "_law_left", "_law_turn", "_law_order", "_law_due", "_law_found", "_law_again", "_law_known"]
abbrev P_law : List Str := ["_law_script"]
theorem sc_law : FnScope N_law P_law (defScope s_law) := ⟨rfl, rfl, rfl, by decide +kernel, rfl, by decide +kernel, by decide +kernel⟩
def spLaw (K : PySem.W.Frag) : Sp := fun vs H Q _ => ∃ (a : Addr) (ns : List Int), vs = [.ref a] ∧ SqL K H a (ns.map V.int) ∧ ns.length ≤ 63 ∧ ∀ H', Q (.bl true) H'
structure Fns (P : Program) (w : World) (K : PySem.W.Frag) (mg : Str → Option Value) (base : Heap) : Prop where
  factors : ∃ f fd, Df K mg "factors" s_factors P_factors f fd
  divisors : ∃ f fd, Df K mg "divisors" s_divisors P_divisors f fd
  totient : ∃ f fd, Df K mg "totient" s_totient P_totient f fd
  divided : ∃ f fd, Df K mg "divided" s_divided P_divided f fd
  wheel : ∃ f fd, Df K mg "wheel" s_wheel P_wheel f fd
  box : ∃ f fd, Df K mg "_law_box" s__law_box P__law_box f fd
  take : ∃ f fd, Df K mg "_law_take" s__law_take P__law_take f fd
  same : ∃ f fd, Df K mg "_law_same" s__law_same P__law_same f fd
  ldv : ∃ f fd, Df K mg "_law_divided" s__law_divided P__law_divided f fd
  own : ∃ f fd, Df K mg "_law_own_wheel" s__law_own_wheel P__law_own_wheel f fd
  poly : ∃ f fd, Df K mg "_law_poly_times" s__law_poly_times P__law_poly_times f fd
  prd : ∃ f fd, Df K mg "_law_product_right" s__law_product_right P__law_product_right f fd
theorem dpi {K : PySem.W.Frag} {H : Hp} {a : Addr} {ns : List Int} (h : H a = some (.lst (ns.map V.int))) : Dp K H (.ref a) (.list (ns.map PyData.int)) := .lst (SqL.of h) (dp_ints ns)
theorem fiti {ns : List Int} (h : ns.length ≤ 4000) : Fit 1 (.list (ns.map PyData.int)) := by
  refine ⟨by rw [List.length_map]; exact h, fun e he => ?_⟩
  obtain ⟨c, _, rfl⟩ := List.mem_map.mp he
  exact True.intro
theorem fit2 {a b : List Int} (h : a.length ≤ 4000) (k : b.length ≤ 4000) : Fit 2 (.list [.list (a.map PyData.int), .list (b.map PyData.int)]) := by
  refine ⟨by show 2 ≤ 4000; decide, fun e he => ?_⟩
  simp only [List.mem_cons, List.not_mem_nil, or_false] at he
  rcases he with z | z <;> rw [z]
  · exact fiti h
  · exact fiti k
theorem at_neg {xs : List V} {v : V} (h : xs[xs.length - 1]? = some v) : atI xs (-1) = some v := by
  have hl : xs.length - 1 < xs.length := (List.getElem?_eq_some_iff.mp h).1
  have e : ixN xs.length (-1) = some (xs.length - 1) := by
    unfold ixN
    rw [if_neg (by decide), if_pos (by omega)]
    congr 1
    omega
  unfold atI
  rw [e]
  exact h
theorem er_map {f : Nat → V} : ∀ (l : List Nat) (k : Nat), (l.map f).eraseIdx k = (l.eraseIdx k).map f
  | [], _ => rfl
  | _ :: _, 0 => rfl
  | x :: l, k + 1 => by
    rw [List.map_cons, List.eraseIdx_cons_succ, List.eraseIdx_cons_succ, er_map l k, List.map_cons]
section
variable {P : Program} {w : World} {K : PySem.W.Frag} {mg : Str → Option Value} {base : Heap}
theorem ok_law {f : Addr} {fd : FuncData} (F : Fun K "law" "law" s_law f fd) (T : Blt mg) (U : Fns P w K mg base) : FnOk P w K mg base CX0 8 f fd P_law (spLaw K) := by
  obtain ⟨⟨f1, d1, D_factors⟩, ⟨f2, d2, D_divisors⟩, ⟨f3, d3, D_totient⟩, ⟨f4, d4, D_divided⟩, ⟨f5, d5, D_wheel⟩, ⟨f6, d6, D__law_box⟩, ⟨f7, d7, D__law_take⟩, ⟨f8, d8, D__law_same⟩, ⟨f9, d9, D__law_divided⟩, ⟨f10, d10, D__law_own_wheel⟩, ⟨f11, d11, D__law_poly_times⟩, ⟨f12, d12, D__law_product_right⟩⟩ := U
  have G__law_box : FnOk P w K mg base CX0 1 f6 d6 P__law_box (spBox K) := ok_box D__law_box.F T
  have G__law_take : FnOk P w K mg base CX0 1 f7 d7 P__law_take spTake := ok_take D__law_take.F
  have G__law_same : FnOk P w K mg base CX0 3 f8 d8 P__law_same (spSame K 2) := ok_same D__law_same T 2
  have G_wheel : FnOk P w K mg base CX0 6 f5 d5 P_wheel (spWheel 5) := ok_wheel D_wheel T D_divisors D_divided 5
  have G__law_own_wheel : FnOk P w K mg base CX0 6 f10 d10 P__law_own_wheel (spWheel 5) := ok_own D__law_own_wheel T D__law_divided 5
  have G_totient : FnOk P w K mg base CX0 2 f3 d3 P_totient spTot := ok_totient D_totient.F T D_factors
  have G__law_product_right : FnOk P w K mg base CX0 7 f12 d12 P__law_product_right spPrd := ok_prd (k := 0) D__law_product_right.F T D__law_poly_times D_wheel D_divisors D_divided
  have nd := sc_law.nd
  refine F.ok sc_law (fun vs H Q E h => ?_) (fun cdv A outer s H vs Q E hr h => ?_)
  · obtain ⟨a, ns, rfl, _⟩ := h
    rfl
  · obtain ⟨a, ns, rfl, hS, hlen, q⟩ := h
    refine ⟨_, (pss_cons (ps_for PassesOwn.never rfl (pi_range1 (by rfl) T.b_range (pa_cons (pe_callB (call_max2 rfl) (by rfl) T.b_max (by decide +kernel) (pa_cons (pe_int) (pa_cons (pe_callB (call_min2 rfl) (by rfl) T.b_min (by decide +kernel) (pa_cons (pe_int) (pa_cons (pe_callB (r := rLenQ K) call_len_seq (by rfl) T.b_len (by decide +kernel) (pa_cons (pv 0) pa_nil)) pa_nil))) pa_nil))) pa_nil)) (pg_name (i := 1) nd rfl (Or.inl rfl))
      (pss_cons (ps_par (i := 2) (j := 3) (by rfl) nd rfl rfl (by decide) rfl rfl (pa_cons (pe_call G__law_box (hr.mono (by omega)) (by rfl) D__law_box.g D__law_box.F.kp D__law_box.b .nil pass0 (pa_cons (pv 0) (pa_cons (pv 1) pa_nil))) (pa_cons (pe_listRg (by rfl) (by rfl) T.b_list (prg_2 (by rfl) T.b_range (pe_int) (pe_int))) pa_nil)) (by rfl))
      (pss_cons (ps_for PassesOwn.never rfl (pi_range1 (by rfl) T.b_range (pa_cons (pe_int) pa_nil)) (pg_name (i := 4) nd rfl (Or.inl rfl))
      (pss_cons (ps_set (i := 5) nd rfl (Or.inl rfl) (pe_bm PySem.F.plainAttrs_list PySem.F.slot_list_pop PySem.F.type_list_pop mt_popAt (pv 3) (pa_cons (pe_call G__law_take (hr.mono (by omega)) (by rfl) D__law_take.g D__law_take.F.kp D__law_take.b .nil pass0 (pa_cons (pv 2) (pa_cons (pe_callB (r := rLenQ K) call_len_seq (by rfl) T.b_len (by decide +kernel) (pa_cons (pv 3) pa_nil)) pa_nil))) pa_nil)))
      (pss_cons (ps_par3 (i := 6) (j := 7) (l := 8) (by rfl) nd rfl rfl rfl (by decide) (by decide) (by decide) rfl rfl rfl (pa_cons (pe_call G__law_own_wheel (hr.mono (by omega)) (by rfl) D__law_own_wheel.g D__law_own_wheel.F.kp D__law_own_wheel.b .nil pass0 (pa_cons (pv 5) pa_nil)) (pa_cons (pe_call G_wheel (hr.mono (by omega)) (by rfl) D_wheel.g D_wheel.F.kp D_wheel.b .nil pass0 (pa_cons (pv 5) pa_nil)) (pa_cons (pe_call G_wheel (hr.mono (by omega)) (by rfl) D_wheel.g D_wheel.F.kp D_wheel.b .nil pass0 (pa_cons (pv 5) pa_nil)) pa_nil))) (by rfl))
      (pss_cons (ps_if (PW.pt (pw_or (pt_not (pt_val (pe_call G__law_same (hr.mono (by omega)) (by rfl) D__law_same.g D__law_same.F.kp D__law_same.b .nil pass0 (pa_cons (pe_lst (pa_cons (pv 7) (pa_cons (pv 8) pa_nil))) (pa_cons (pe_lst (pa_cons (pv 6) (pa_cons (pv 6) pa_nil))) pa_nil))))) (pw_or1 (pt_cmpR op_ne (pe_ix (r := rIxL K) ix_list (pv 7) (pe_un un_neg (pe_int)) (fun _ _ => rfl)) (pe_int) (nomark _))))) (pss_one (ps_ret (pe_bl))) pss_nil)
      (pss_cons (ps_expr (pe_bm0 PySem.F.plainAttrs_list PySem.F.slot_list_reverse PySem.F.type_list_reverse mt_reverse (pv 7)))
      (pss_cons (ps_expr (pe_bm PySem.F.plainAttrs_list PySem.F.slot_list_append PySem.F.type_list_append mt_append (pv 7) (pa_cons (pe_int) pa_nil)))
      (pss_one (ps_if (PW.pt (pw_or (pt_not (pt_val (pe_call G__law_same (hr.mono (by omega)) (by rfl) D__law_same.g D__law_same.F.kp D__law_same.b .nil pass0 (pa_cons (pe_lst (pa_cons (pv 8) (pa_cons (pe_call G_wheel (hr.mono (by omega)) (by rfl) D_wheel.g D_wheel.F.kp D_wheel.b .nil pass0 (pa_cons (pv 5) pa_nil)) pa_nil))) (pa_cons (pe_lst (pa_cons (pv 6) (pa_cons (pv 6) pa_nil))) pa_nil))))) (pw_or1 (pt_cmpR op_ne (pe_callB (r := rLenQ K) call_len_seq (by rfl) T.b_len (by decide +kernel) (pa_cons (pv 6) pa_nil)) (pe_op op_add (pe_int) (pe_call G_totient (hr.mono (by omega)) (by rfl) D_totient.g D_totient.F.kp D_totient.b .nil pass0 (pa_cons (pv 5) pa_nil))) (nomark _))))) (pss_one (ps_ret (pe_bl))) pss_nil))))))))
      (pss_one (ps_if (PW.pt (pw_or (pt_not (pt_val (pe_call G__law_product_right (hr.mono (by omega)) (by rfl) D__law_product_right.g D__law_product_right.F.kp D__law_product_right.b .nil pass0 (pa_cons (pe_op op_add (pe_int) (pe_call G__law_take (hr.mono (by omega)) (by rfl) D__law_take.g D__law_take.F.kp D__law_take.b .nil pass0 (pa_cons (pv 2) (pa_cons (pe_int) pa_nil)))) pa_nil)))) (pw_or (pt_not (pt_val (pe_call G__law_product_right (hr.mono (by omega)) (by rfl) D__law_product_right.g D__law_product_right.F.kp D__law_product_right.b .nil pass0 (pa_cons (pe_int) pa_nil)))) (pw_or1 (pt_not (pt_val (pe_call G__law_product_right (hr.mono (by omega)) (by rfl) D__law_product_right.g D__law_product_right.F.kp D__law_product_right.b .nil pass0 (pa_cons (pe_int) pa_nil)))))))) (pss_one (ps_ret (pe_bl))) pss_nil)))))
      (pss_cons (ps_set (i := 9) nd rfl (Or.inl rfl) (pe_lst (pa_cons (pe_call G_wheel (hr.mono (by omega)) (by rfl) D_wheel.g D_wheel.F.kp D_wheel.b .nil pass0 (pa_cons (pe_int) pa_nil)) (pa_cons (pe_call G_wheel (hr.mono (by omega)) (by rfl) D_wheel.g D_wheel.F.kp D_wheel.b .nil pass0 (pa_cons (pe_int) pa_nil)) (pa_cons (pe_call G_wheel (hr.mono (by omega)) (by rfl) D_wheel.g D_wheel.F.kp D_wheel.b .nil pass0 (pa_cons (pe_int) pa_nil)) (pa_cons (pe_call G_wheel (hr.mono (by omega)) (by rfl) D_wheel.g D_wheel.F.kp D_wheel.b .nil pass0 (pa_cons (pe_int) pa_nil)) (pa_cons (pe_call G_wheel (hr.mono (by omega)) (by rfl) D_wheel.g D_wheel.F.kp D_wheel.b .nil pass0 (pa_cons (pe_int) pa_nil)) pa_nil)))))))
      (pss_one (ps_ret (pe_call G__law_same (hr.mono (by omega)) (by rfl) D__law_same.g D__law_same.F.kp D__law_same.b .nil pass0 (pa_cons (pv 9) (pa_cons (pe_lst (pa_cons (pe_lst (pa_cons (pe_un un_neg (pe_int)) (pa_cons (pe_int) pa_nil))) (pa_cons (pe_lst (pa_cons (pe_int) (pa_cons (pe_int) pa_nil))) (pa_cons (pe_lst (pa_cons (pe_int) (pa_cons (pe_int) (pa_cons (pe_int) pa_nil)))) (pa_cons (pe_lst (pa_cons (pe_int) (pa_cons (pe_un un_neg (pe_int)) (pa_cons (pe_int) pa_nil)))) (pa_cons (pe_lst (pa_cons (pe_int) (pa_cons (pe_int) (pa_cons (pe_un un_neg (pe_int)) (pa_cons (pe_int) (pa_cons (pe_int) pa_nil)))))) pa_nil)))))) pa_nil))))))), ?_⟩
    walk_at "ev"
    refine for_range (lo := 0) (n := _) (fun i σ H' => Hold (∃ s1 s2 s3 s4 s5 s6 s7 s8, σ = [some (.ref a), s1, s2, s3, s4, s5, s6, s7, s8, none] ∧ Same H H')) (.mk ⟨none, none, none, none, none, none, none, none, rfl, Same.refl _⟩) ?_ ?_
    · intro i σ H1 hi hP
      obtain ⟨s1, s2, s3, s4, s5, s6, s7, s8, rfl, sm1⟩ := hP.un
      have hS1 := sm1.seq hS
      have hi2 : i < 64 := by
        simp only [List.length_map] at hi
        split at hi <;> split at hi <;> omega
      walk_at "ev"
      intro b H2 hb0 sm2 hbx
      walk_at "ev"
      refine ⟨⟨by decide, by decide, by decide⟩, ?_⟩
      w_cond _3
      have f3 : H l3 = none := (sm1.trans sm2).free hl3
      have fb : H b = none := sm1.free hb0
      have nlb : l3 ≠ b := hbx.ne hl3
      have hb3 := hbx.same sm3
      have sm03 := sm1.trans (sm2.trans sm3)
      walk_at "ev"
      refine for_range (lo := 0) (n := _) (fun j σ H' => Hold (∃ (rem : List Nat) (s4 s5 s6 s7 s8 : Option V), σ = [some (.ref a), some (.int (0 + (i : Int))), some (.ref b), some (.ref l3), s4, s5, s6, s7, s8, none] ∧ Same H H' ∧ BoxAt H' b j ∧ rem.length = 30 - j ∧ (∀ x ∈ rem, 1 ≤ x ∧ x ≤ 30) ∧ H' l3 = some (.lst (rem.map fun x : Nat => V.int x)))) (.mk ⟨List.range' 1 30, _, _, _, _, _, rfl, sm03, hb3, rfl, fun x hx => ?_, ?_⟩) ?_ ?_
      · rw [List.mem_range'_1] at hx
        omega
      · rw [hq3]
        rfl
      · intro j σ H4 hj hP4
        obtain ⟨rem, s4, s5, s6, s7, s8, rfl, sm4, hb4, hrl, hrm, h34⟩ := hP4.un
        have hj30 : j < 30 := hj
        have hL4 := SqL.of (K := K) h34
        have hlen4 : ((rem.map fun x : Nat => V.int x).length : Int) = ((30 - j : Nat) : Int) := by rw [List.length_map, hrl]
        walk_at "ev"
        intro r H5 r0 r1 k5 hb5
        rw [hlen4] at r1
        have hrr : r.toNat < rem.length := by omega
        obtain ⟨m, hm⟩ : ∃ m, rem[r.toNat]? = some m := ⟨_, List.getElem?_eq_getElem hrr⟩
        have hmm := hrm m (List.mem_of_getElem? hm)
        have m31 : m < 31 := by omega
        have m5 : m < 2 ^ 5 := by omega
        have hm1 : 1 ≤ m := hmm.1
        have hix : seqIndex? r (rem.map fun x : Nat => V.int x).length = some r.toNat := by
          rw [List.length_map]
          exact seqIndex_of r0 (by omega)
        have hat : (rem.map fun x : Nat => V.int x)[r.toNat]? = some (.int m) := by
          rw [List.getElem?_map, hm]
          rfl
        have h35 := k5 _ _ nlb h34
        have sm5 : Same H H5 := keep_same sm4 fb k5
        walk_at "ev"
        generalize hG : upd H5 l3 _ = H6
        have sm6 : Same H H6 := by rw [← hG]; exact same_mut sm5 f3
        have h36 : H6 l3 = some (.lst ((rem.eraseIdx r.toNat).map fun x : Nat => V.int x)) := by
          rw [(mutO hG).2, er_map]
        have hb6 : BoxAt H6 b ((j : Int) + 1) := by
          rw [← hG]
          exact hb5.upd nlb
        clear hG
        walk_at "ev"
        intro ld H7 hld sm7 hq7
        walk_at "ev"
        intro lf H8 hlf sm8 hq8
        walk_at "ev"
        intro la H9 hla sm9 hq9
        obtain ⟨wl1, wl2⟩ := whl_len m m31 hm1
        walk_at "ev"
        w_cond _10
        walk_at "ev"
        w_cond _11
        have t9 := sm10.trans sm11
        have d11 := (sm8.trans (sm9.trans t9)) _ _ hq7
        have c11 := (sm9.trans t9) _ _ hq8
        have a11 := t9 _ _ hq9
        have hdx : Dp K H11 (.ref l10) _ := .lst (SqL.of (sm11 _ _ hq10)) (.cons (dpi c11) (.cons (dpi a11) .nil))
        have hdy : Dp K H11 (.ref l11) _ := .lst (SqL.of hq11) (.cons (dpi d11) (.cons (dpi d11) .nil))
        have hft := fit2 (a := whl m) (b := whl m) (by omega) (by omega)
        walk_at "ev"
        intro H12 sm12
        have c12 := sm12 _ _ c11
        have hLc := SqL.of (K := K) c12
        have at12 : atI ((whl m).map V.int) (-1) = some (.int 1) := by
          refine at_neg ?_
          have z := whl_last m m31 hm1
          rw [List.getD_eq_getElem?_getD, List.getElem?_eq_getElem (show (whl m).length - 1 < (whl m).length by omega)] at z
          rw [List.length_map, List.getElem?_map, List.getElem?_eq_getElem (show (whl m).length - 1 < (whl m).length by omega)]
          exact congrArg (fun c => some (V.int c)) z
        have ty12 : tyV K "list" (.ref lf) H12 := .inl ⟨rfl, _, hLc⟩
        walk_at "ev"
        generalize hG : upd H12 lf _ = H13
        have flf : H6 lf = none := sm7.free hlf
        have flf0 : H lf = none := sm6.free flf
        have sm6c : Same H6 H12 := sm7.trans (sm8.trans (sm9.trans (t9.trans sm12)))
        have sm13 : Same H H13 := by rw [← hG]; exact same_mut (sm6.trans sm6c) flf0
        have sm613 : Same H6 H13 := by rw [← hG]; exact same_mut sm6c flf
        have c13 := (mutO hG).2
        have k13 := (mutO hG).1
        clear hG
        have nfa : lf ≠ la := ne_of_none hq8 hla
        have nfd : lf ≠ ld := (ne_of_none hq7 hlf).symm
        have d13 := k13 _ _ nfd.symm (sm12 _ _ d11)
        have a13 := k13 _ _ nfa.symm (sm12 _ _ a11)
        have ty13 : tyV K "list" (.ref lf) H13 := .inl ⟨rfl, _, SqL.of c13⟩
        have z13 : ((whl m).map V.int).reverse.length < sizeLine := szm (by rw [List.length_reverse, List.length_map]; omega)
        walk_at "ev"
        generalize hG : upd H13 lf _ = H14
        have sm14 : Same H H14 := by rw [← hG]; exact same_mut sm13 flf0
        have sm614 : Same H6 H14 := by rw [← hG]; exact same_mut sm613 flf
        have k14 := (mutO hG).1
        clear hG
        have d14 := k14 _ _ nfd.symm d13
        have a14 := k14 _ _ nfa.symm a13
        intro lg H15 hlg sm15 hq15
        walk_at "ev"
        w_cond _16
        walk_at "ev"
        w_cond _17
        have t16 := sm16.trans sm17
        have d17 := (sm15.trans t16) _ _ d14
        have a17 := (sm15.trans t16) _ _ a14
        have g17 := t16 _ _ hq15
        have hdx2 : Dp K H17 (.ref l16) _ := .lst (SqL.of (sm17 _ _ hq16)) (.cons (dpi a17) (.cons (dpi g17) .nil))
        have hdy2 : Dp K H17 (.ref l17) _ := .lst (SqL.of hq17) (.cons (dpi d17) (.cons (dpi d17) .nil))
        walk_at "ev"
        intro H18 sm18
        have hLd := SqL.of (K := K) (sm18 _ _ d17)
        have hfac := facB_ok _ m (ft_ok m m31 hm1)
        have hso := fo_srt m m31
        have hme : ∀ k, k ∈ fOut m ↔ k ∈ (FT.getD m []).map Int.ofNat := fun k => ⟨fo_mem1 m m31 k, fo_mem2 m m31 k⟩
        have htt := fo_tot m m31 hm1
        have m6 : (m : Int) ≤ 1000000 := by omega
        have m1' : (1 : Int) ≤ m := by omega
        walk_at "ev"
        intro H19 sm19
        have hne : (!decide (V.int ((List.map V.int (whl m)).length : Int) = V.int (1 + totF m (fOut m)))) = false := by
          rw [List.length_map, htt, decide_eq_true rfl]
          rfl
        walk_at "ev"
        refine iteFe hne ?_
        walk_at "ev"
        have t14 := sm15.trans (t16.trans (sm18.trans sm19))
        refine .mk ⟨rem.eraseIdx r.toNat, _, _, _, _, _, rfl, sm14.trans t14, ?_, ?_, fun x hx => hrm x (List.mem_of_mem_eraseIdx hx), (sm614.trans t14) _ _ h36⟩
        · exact (hb6.same (sm614.trans t14)).mono (by omega)
        · rw [List.length_eraseIdx_of_lt hrr, hrl]
          omega
      · intro σ H4 hP4
        obtain ⟨rem, s4, s5, s6, s7, s8, rfl, sm4, hb4, hrl, hrm, h34⟩ := hP4.un
        walk_at "ev"
        intro r H5 r0 r1 k5 hb5
        have sm5 : Same H H5 := keep_same sm4 fb k5
        have er : (1 : Int) + r = ((1 + r.toNat : Nat) : Int) := by omega
        have r31 : 1 + r.toNat < 31 := by omega
        have r01 : 1 ≤ 1 + r.toNat := by omega
        walk_at "ev"
        refine ⟨(show [V.int (1 + r)] = [V.int ((1 + r.toNat : Nat) : Int)] by rw [er]), r01, r31, ?_⟩
        intro H6 sm6
        walk_at "ev"
        intro H7 sm7
        walk_at "ev"
        intro H8 sm8
        walk_at "ev"
        exact .mk ⟨_, _, _, _, _, _, _, _, rfl, sm5.trans (sm6.trans (sm7.trans sm8))⟩
    · intro σ H1 hP
      obtain ⟨s1, s2, s3, s4, s5, s6, s7, s8, rfl, sm1⟩ := hP.un
      walk_at "ev"
      intro a1 H2 ha1 sm2 hq1
      walk_at "ev"
      intro a2 H3 ha2 sm3 hq2
      walk_at "ev"
      intro a3 H4 ha3 sm4 hq3
      walk_at "ev"
      intro a4 H5 ha4 sm5 hq4
      walk_at "ev"
      intro a5 H6 ha5 sm6 hq5
      walk_at "ev"
      w_cond _7
      walk_at "ev"
      w_cond _8
      walk_at "ev"
      w_cond _9
      walk_at "ev"
      w_cond _10
      walk_at "ev"
      w_cond _11
      walk_at "ev"
      w_cond _12
      walk_at "ev"
      w_cond _13
      have t7 := sm8.trans (sm9.trans (sm10.trans (sm11.trans (sm12.trans sm13))))
      have t6 := sm7.trans t7
      have e1 := dpi (K := K) (ns := [-1, 1]) ((sm3.trans (sm4.trans (sm5.trans (sm6.trans t6)))) _ _ hq1)
      have e2 := dpi (K := K) (ns := [1, 1]) ((sm4.trans (sm5.trans (sm6.trans t6))) _ _ hq2)
      have e3 := dpi (K := K) (ns := [1, 0, 1]) ((sm5.trans (sm6.trans t6)) _ _ hq3)
      have e4 := dpi (K := K) (ns := [1, -1, 1]) ((sm6.trans t6) _ _ hq4)
      have e5 := dpi (K := K) (ns := [1, 0, -1, 0, 1]) (t6 _ _ hq5)
      have g1 := dpi (K := K) (ns := [-1, 1]) ((sm9.trans (sm10.trans (sm11.trans (sm12.trans sm13)))) _ _ hq8)
      have g2 := dpi (K := K) (ns := [1, 1]) ((sm10.trans (sm11.trans (sm12.trans sm13))) _ _ hq9)
      have g3 := dpi (K := K) (ns := [1, 0, 1]) ((sm11.trans (sm12.trans sm13)) _ _ hq10)
      have g4 := dpi (K := K) (ns := [1, -1, 1]) ((sm12.trans sm13) _ _ hq11)
      have g5 := dpi (K := K) (ns := [1, 0, -1, 0, 1]) (sm13 _ _ hq12)
      have hdx : Dp K H13 (.ref l7) _ := .lst (SqL.of (t7 _ _ hq7)) (.cons e1 (.cons e2 (.cons e3 (.cons e4 (.cons e5 .nil)))))
      have hdy : Dp K H13 (.ref l13) _ := .lst (SqL.of hq13) (.cons g1 (.cons g2 (.cons g3 (.cons g4 (.cons g5 .nil)))))
      have hft : Fit 2 (PyData.list [PyData.list (List.map PyData.int [-1, 1]), PyData.list (List.map PyData.int [1, 1]), PyData.list (List.map PyData.int [1, 0, 1]), PyData.list (List.map PyData.int [1, -1, 1]), PyData.list (List.map PyData.int [1, 0, -1, 0, 1])]) := by
        refine ⟨by decide, fun e he => ?_⟩
        simp only [List.mem_cons, List.not_mem_nil, or_false] at he
        rcases he with z | z | z | z | z <;> rw [z] <;> exact fiti (by decide)
      walk_at "ev"
      intro H14 _
      exact q _
end
theorem all_mk {l : PySem.W.OpenLaw} {w : World} {K : PySem.W.Frag} {h : Heap} {mg : Str → Option Value} {fa : Addr} (X : K.In h) (G : h.Ns mainGlobals mg) (hfa : mg "law" = some (.ref fa))
    {od0 an0 : Option Addr} {sl0 : Array (Option Value)} {oc0 kV0 dc0 pm0 cd0 ct0 : Value} {f0 : Addr}
    {od1 an1 : Option Addr} {sl1 : Array (Option Value)} {oc1 kV1 dc1 pm1 cd1 ct1 : Value} {f1 : Addr}
    {od2 an2 : Option Addr} {sl2 : Array (Option Value)} {oc2 kV2 dc2 pm2 cd2 ct2 : Value} {f2 : Addr}
    {od3 an3 : Option Addr} {sl3 : Array (Option Value)} {oc3 kV3 dc3 pm3 cd3 ct3 : Value} {f3 : Addr}
    {od4 an4 : Option Addr} {sl4 : Array (Option Value)} {oc4 kV4 dc4 pm4 cd4 ct4 : Value} {f4 : Addr}
    {od5 an5 : Option Addr} {sl5 : Array (Option Value)} {oc5 kV5 dc5 pm5 cd5 ct5 : Value} {f5 : Addr}
    {od6 an6 : Option Addr} {sl6 : Array (Option Value)} {oc6 kV6 dc6 pm6 cd6 ct6 : Value} {f6 : Addr}
    {od7 an7 : Option Addr} {sl7 : Array (Option Value)} {oc7 kV7 dc7 pm7 cd7 ct7 : Value} {f7 : Addr}
    {od8 an8 : Option Addr} {sl8 : Array (Option Value)} {oc8 kV8 dc8 pm8 cd8 ct8 : Value} {f8 : Addr}
    {od9 an9 : Option Addr} {sl9 : Array (Option Value)} {oc9 kV9 dc9 pm9 cd9 ct9 : Value} {f9 : Addr}
    {od10 an10 : Option Addr} {sl10 : Array (Option Value)} {oc10 kV10 dc10 pm10 cd10 ct10 : Value} {f10 : Addr}
    {od11 an11 : Option Addr} {sl11 : Array (Option Value)} {oc11 kV11 dc11 pm11 cd11 ct11 : Value} {f11 : Addr}
    {od12 an12 : Option Addr} {sl12 : Array (Option Value)} {oc12 kV12 dc12 pm12 cd12 ct12 : Value} {f12 : Addr}
    
    (a0 : PySem.W.nsIn K mainGlobals "factors" = some (some (.ref f0))) (l0 : K.lookup f0 = some ⟨oc0, od0, .func (PySem.W.fnOf "factors" "factors" (defArgs s_factors) (defBody s_factors) (defScope s_factors) .none kV0 dc0 pm0 an0 cd0 ct0), sl0⟩) (c0 : PySem.W.codeIn K cd0 "factors" = true) (k0 : PySem.W.keepIn K (.ref f0) = true)
    (a1 : PySem.W.nsIn K mainGlobals "divisors" = some (some (.ref f1))) (l1 : K.lookup f1 = some ⟨oc1, od1, .func (PySem.W.fnOf "divisors" "divisors" (defArgs s_divisors) (defBody s_divisors) (defScope s_divisors) .none kV1 dc1 pm1 an1 cd1 ct1), sl1⟩) (c1 : PySem.W.codeIn K cd1 "divisors" = true) (k1 : PySem.W.keepIn K (.ref f1) = true)
    (a2 : PySem.W.nsIn K mainGlobals "totient" = some (some (.ref f2))) (l2 : K.lookup f2 = some ⟨oc2, od2, .func (PySem.W.fnOf "totient" "totient" (defArgs s_totient) (defBody s_totient) (defScope s_totient) .none kV2 dc2 pm2 an2 cd2 ct2), sl2⟩) (c2 : PySem.W.codeIn K cd2 "totient" = true) (k2 : PySem.W.keepIn K (.ref f2) = true)
    (a3 : PySem.W.nsIn K mainGlobals "divided" = some (some (.ref f3))) (l3 : K.lookup f3 = some ⟨oc3, od3, .func (PySem.W.fnOf "divided" "divided" (defArgs s_divided) (defBody s_divided) (defScope s_divided) .none kV3 dc3 pm3 an3 cd3 ct3), sl3⟩) (c3 : PySem.W.codeIn K cd3 "divided" = true) (k3 : PySem.W.keepIn K (.ref f3) = true)
    (a4 : PySem.W.nsIn K mainGlobals "wheel" = some (some (.ref f4))) (l4 : K.lookup f4 = some ⟨oc4, od4, .func (PySem.W.fnOf "wheel" "wheel" (defArgs s_wheel) (defBody s_wheel) (defScope s_wheel) .none kV4 dc4 pm4 an4 cd4 ct4), sl4⟩) (c4 : PySem.W.codeIn K cd4 "wheel" = true) (k4 : PySem.W.keepIn K (.ref f4) = true)
    (a5 : PySem.W.nsIn K mainGlobals "_law_box" = some (some (.ref f5))) (l5 : K.lookup f5 = some ⟨oc5, od5, .func (PySem.W.fnOf "_law_box" "_law_box" (defArgs s__law_box) (defBody s__law_box) (defScope s__law_box) .none kV5 dc5 pm5 an5 cd5 ct5), sl5⟩) (c5 : PySem.W.codeIn K cd5 "_law_box" = true) (k5 : PySem.W.keepIn K (.ref f5) = true)
    (a6 : PySem.W.nsIn K mainGlobals "_law_take" = some (some (.ref f6))) (l6 : K.lookup f6 = some ⟨oc6, od6, .func (PySem.W.fnOf "_law_take" "_law_take" (defArgs s__law_take) (defBody s__law_take) (defScope s__law_take) .none kV6 dc6 pm6 an6 cd6 ct6), sl6⟩) (c6 : PySem.W.codeIn K cd6 "_law_take" = true) (k6 : PySem.W.keepIn K (.ref f6) = true)
    (a7 : PySem.W.nsIn K mainGlobals "_law_same" = some (some (.ref f7))) (l7 : K.lookup f7 = some ⟨oc7, od7, .func (PySem.W.fnOf "_law_same" "_law_same" (defArgs s__law_same) (defBody s__law_same) (defScope s__law_same) .none kV7 dc7 pm7 an7 cd7 ct7), sl7⟩) (c7 : PySem.W.codeIn K cd7 "_law_same" = true) (k7 : PySem.W.keepIn K (.ref f7) = true)
    (a8 : PySem.W.nsIn K mainGlobals "_law_divided" = some (some (.ref f8))) (l8 : K.lookup f8 = some ⟨oc8, od8, .func (PySem.W.fnOf "_law_divided" "_law_divided" (defArgs s__law_divided) (defBody s__law_divided) (defScope s__law_divided) .none kV8 dc8 pm8 an8 cd8 ct8), sl8⟩) (c8 : PySem.W.codeIn K cd8 "_law_divided" = true) (k8 : PySem.W.keepIn K (.ref f8) = true)
    (a9 : PySem.W.nsIn K mainGlobals "_law_own_wheel" = some (some (.ref f9))) (l9 : K.lookup f9 = some ⟨oc9, od9, .func (PySem.W.fnOf "_law_own_wheel" "_law_own_wheel" (defArgs s__law_own_wheel) (defBody s__law_own_wheel) (defScope s__law_own_wheel) .none kV9 dc9 pm9 an9 cd9 ct9), sl9⟩) (c9 : PySem.W.codeIn K cd9 "_law_own_wheel" = true) (k9 : PySem.W.keepIn K (.ref f9) = true)
    (a10 : PySem.W.nsIn K mainGlobals "_law_poly_times" = some (some (.ref f10))) (l10 : K.lookup f10 = some ⟨oc10, od10, .func (PySem.W.fnOf "_law_poly_times" "_law_poly_times" (defArgs s__law_poly_times) (defBody s__law_poly_times) (defScope s__law_poly_times) .none kV10 dc10 pm10 an10 cd10 ct10), sl10⟩) (c10 : PySem.W.codeIn K cd10 "_law_poly_times" = true) (k10 : PySem.W.keepIn K (.ref f10) = true)
    (a11 : PySem.W.nsIn K mainGlobals "_law_product_right" = some (some (.ref f11))) (l11 : K.lookup f11 = some ⟨oc11, od11, .func (PySem.W.fnOf "_law_product_right" "_law_product_right" (defArgs s__law_product_right) (defBody s__law_product_right) (defScope s__law_product_right) .none kV11 dc11 pm11 an11 cd11 ct11), sl11⟩) (c11 : PySem.W.codeIn K cd11 "_law_product_right" = true) (k11 : PySem.W.keepIn K (.ref f11) = true)
    (a12 : PySem.W.nsIn K mainGlobals "law" = some (some (.ref f12))) (l12 : K.lookup f12 = some ⟨oc12, od12, .func (PySem.W.fnOf "law" "law" (defArgs s_law) (defBody s_law) (defScope s_law) .none kV12 dc12 pm12 an12 cd12 ct12), sl12⟩) (c12 : PySem.W.codeIn K cd12 "law" = true) (k12 : PySem.W.keepIn K (.ref f12) = true)
    (z0 : PySem.W.nsIn K mainGlobals "abs" = some none) (z1 : PySem.W.nsIn K mainGlobals "all" = some none) (z2 : PySem.W.nsIn K mainGlobals "bool" = some none) (z3 : PySem.W.nsIn K mainGlobals "enumerate" = some none) (z4 : PySem.W.nsIn K mainGlobals "int" = some none) (z5 : PySem.W.nsIn K mainGlobals "isinstance" = some none) (z6 : PySem.W.nsIn K mainGlobals "len" = some none) (z7 : PySem.W.nsIn K mainGlobals "list" = some none) (z8 : PySem.W.nsIn K mainGlobals "max" = some none) (z9 : PySem.W.nsIn K mainGlobals "min" = some none) (z10 : PySem.W.nsIn K mainGlobals "range" = some none) (z11 : PySem.W.nsIn K mainGlobals "set" = some none) (z12 : PySem.W.nsIn K mainGlobals "sorted" = some none) (z13 : PySem.W.nsIn K mainGlobals "str" = some none) (z14 : PySem.W.nsIn K mainGlobals "tuple" = some none) (z15 : PySem.W.nsIn K mainGlobals "zip" = some none) :
    ∃ fd : FuncData, (∀ (s : Shared) (v : Value), BindsTo s fd ⟨[v], []⟩ [("_law_script", v)]) ∧ ∀ base : Heap, K.In base → base.Ns mainGlobals mg → FnOk l.prog w K mg base CX0 8 fa fd ["_law_script"] (spLaw K) := by
  have e := hfa.symm.trans (PySem.W.mg_of X G a12)
  cases e
  have T : Blt mg := ⟨PySem.W.mg_none_of X G z0, PySem.W.mg_none_of X G z1, PySem.W.mg_none_of X G z2, PySem.W.mg_none_of X G z3, PySem.W.mg_none_of X G z4, PySem.W.mg_none_of X G z5, PySem.W.mg_none_of X G z6, PySem.W.mg_none_of X G z7, PySem.W.mg_none_of X G z8, PySem.W.mg_none_of X G z9, PySem.W.mg_none_of X G z10, PySem.W.mg_none_of X G z11, PySem.W.mg_none_of X G z12, PySem.W.mg_none_of X G z13, PySem.W.mg_none_of X G z14, PySem.W.mg_none_of X G z15⟩
  have F0 := fun_mk (st := s_factors) l0 c0 k0
  have b0 := F0.binds (ps := P_factors) fun _ _ _ _ _ _ us hl => match us, hl with | [_], _ => rfl
  have F1 := fun_mk (st := s_divisors) l1 c1 k1
  have b1 := F1.binds (ps := P_divisors) fun _ _ _ _ _ _ us hl => match us, hl with | [_], _ => rfl
  have F2 := fun_mk (st := s_totient) l2 c2 k2
  have b2 := F2.binds (ps := P_totient) fun _ _ _ _ _ _ us hl => match us, hl with | [_], _ => rfl
  have F3 := fun_mk (st := s_divided) l3 c3 k3
  have b3 := F3.binds (ps := P_divided) fun _ _ _ _ _ _ us hl => match us, hl with | [_, _], _ => rfl
  have F4 := fun_mk (st := s_wheel) l4 c4 k4
  have b4 := F4.binds (ps := P_wheel) fun _ _ _ _ _ _ us hl => match us, hl with | [_], _ => rfl
  have F5 := fun_mk (st := s__law_box) l5 c5 k5
  have b5 := F5.binds (ps := P__law_box) fun _ _ _ _ _ _ us hl => match us, hl with | [_, _], _ => rfl
  have F6 := fun_mk (st := s__law_take) l6 c6 k6
  have b6 := F6.binds (ps := P__law_take) fun _ _ _ _ _ _ us hl => match us, hl with | [_, _], _ => rfl
  have F7 := fun_mk (st := s__law_same) l7 c7 k7
  have b7 := F7.binds (ps := P__law_same) fun _ _ _ _ _ _ us hl => match us, hl with | [_, _], _ => rfl
  have F8 := fun_mk (st := s__law_divided) l8 c8 k8
  have b8 := F8.binds (ps := P__law_divided) fun _ _ _ _ _ _ us hl => match us, hl with | [_, _], _ => rfl
  have F9 := fun_mk (st := s__law_own_wheel) l9 c9 k9
  have b9 := F9.binds (ps := P__law_own_wheel) fun _ _ _ _ _ _ us hl => match us, hl with | [_], _ => rfl
  have F10 := fun_mk (st := s__law_poly_times) l10 c10 k10
  have b10 := F10.binds (ps := P__law_poly_times) fun _ _ _ _ _ _ us hl => match us, hl with | [_, _], _ => rfl
  have F11 := fun_mk (st := s__law_product_right) l11 c11 k11
  have b11 := F11.binds (ps := P__law_product_right) fun _ _ _ _ _ _ us hl => match us, hl with | [_], _ => rfl
  have F12 := fun_mk (st := s_law) l12 c12 k12
  refine ⟨_, fun s v => .of_eq rfl, fun base _ _ => ok_law (P := l.prog) (w := w) (base := base) F12 T ⟨⟨_, _, F0, b0, PySem.W.mg_of X G a0⟩, ⟨_, _, F1, b1, PySem.W.mg_of X G a1⟩, ⟨_, _, F2, b2, PySem.W.mg_of X G a2⟩, ⟨_, _, F3, b3, PySem.W.mg_of X G a3⟩, ⟨_, _, F4, b4, PySem.W.mg_of X G a4⟩, ⟨_, _, F5, b5, PySem.W.mg_of X G a5⟩, ⟨_, _, F6, b6, PySem.W.mg_of X G a6⟩, ⟨_, _, F7, b7, PySem.W.mg_of X G a7⟩, ⟨_, _, F8, b8, PySem.W.mg_of X G a8⟩, ⟨_, _, F9, b9, PySem.W.mg_of X G a9⟩, ⟨_, _, F10, b10, PySem.W.mg_of X G a10⟩, ⟨_, _, F11, b11, PySem.W.mg_of X G a11⟩⟩⟩
end My
open PySem PySem.W PyProof.Rows
set_option maxRecDepth 100000 in
set_option maxHeartbeats 0 in
theorem PySem.Challenge.cw_turnsums_k11_wheels_holds : PySem.Challenge.rw_turnsums_k11_wheels.Holds := by
  w_on; o_law; k_head; (case hw => w_witness2)
  k_fill
  refine L2.walk_of (l := PySem.Challenge.rw_turnsums_k11_wheels) (n := 63) (k := 8) (x := "_law_script") (CX := fun _ => L2.CX0) (sp := fun w => My.spLaw _) rfl (by decide) rfl ⟨rfl, by decide, by decide⟩ (fun w h Y => PySem.W.kIn_of Y) ?F (fun _ _ a ns hl _ hS => ⟨a, ns, rfl, hS, hl, fun _ => rfl⟩) (fun _ _ _ _ _ h => h)
  case F =>
    intro w mg fa h KX G hmg
    refine' My.all_mk KX G hmg ?a0 ?l0 ?c0 ?k0 ?a1 ?l1 ?c1 ?k1 ?a2 ?l2 ?c2 ?k2 ?a3 ?l3 ?c3 ?k3 ?a4 ?l4 ?c4 ?k4 ?a5 ?l5 ?c5 ?k5 ?a6 ?l6 ?c6 ?k6 ?a7 ?l7 ?c7 ?k7 ?a8 ?l8 ?c8 ?k8 ?a9 ?l9 ?c9 ?k9 ?a10 ?l10 ?c10 ?k10 ?a11 ?l11 ?c11 ?k11 ?a12 ?l12 ?c12 ?k12 ?z0 ?z1 ?z2 ?z3 ?z4 ?z5 ?z6 ?z7 ?z8 ?z9 ?z10 ?z11 ?z12 ?z13 ?z14 ?z15
    (case a0 => k_is)
    (case l0 => k_is)
    (case c0 => k_is)
    (case k0 => k_is)
    (case a1 => k_is)
    (case l1 => k_is)
    (case c1 => k_is)
    (case k1 => k_is)
    (case a2 => k_is)
    (case l2 => k_is)
    (case c2 => k_is)
    (case k2 => k_is)
    (case a3 => k_is)
    (case l3 => k_is)
    (case c3 => k_is)
    (case k3 => k_is)
    (case a4 => k_is)
    (case l4 => k_is)
    (case c4 => k_is)
    (case k4 => k_is)
    (case a5 => k_is)
    (case l5 => k_is)
    (case c5 => k_is)
    (case k5 => k_is)
    (case a6 => k_is)
    (case l6 => k_is)
    (case c6 => k_is)
    (case k6 => k_is)
    (case a7 => k_is)
    (case l7 => k_is)
    (case c7 => k_is)
    (case k7 => k_is)
    (case a8 => k_is)
    (case l8 => k_is)
    (case c8 => k_is)
    (case k8 => k_is)
    (case a9 => k_is)
    (case l9 => k_is)
    (case c9 => k_is)
    (case k9 => k_is)
    (case a10 => k_is)
    (case l10 => k_is)
    (case c10 => k_is)
    (case k10 => k_is)
    (case a11 => k_is)
    (case l11 => k_is)
    (case c11 => k_is)
    (case k11 => k_is)
    (case a12 => k_is)
    (case l12 => k_is)
    (case c12 => k_is)
    (case k12 => k_is)
    (case z0 => k_is)
    (case z1 => k_is)
    (case z2 => k_is)
    (case z3 => k_is)
    (case z4 => k_is)
    (case z5 => k_is)
    (case z6 => k_is)
    (case z7 => k_is)
    (case z8 => k_is)
    (case z9 => k_is)
    (case z10 => k_is)
    (case z11 => k_is)
    (case z12 => k_is)
    (case z13 => k_is)
    (case z14 => k_is)
    (case z15 => k_is)

