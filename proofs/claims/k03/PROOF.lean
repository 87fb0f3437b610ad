import PyProof.Rows.All
import Wide.All
import OpenK.AllK
import Wide.FinOn
import PyProof.EqAt
import PyProof.EqKinds
import PyProof.TupleCall
import PyProof.TypeEq
import PyProof.Draws
import KE.GoesEnum
import HandS.ForMost
import HandS.ForExc
import HandS.More
import HandS.Strs
import HandS.IsInst
import HandS.Style
import HandS.Flow
import HandS.Sort
import HandS.SortOrd
import HandS.SortRule
import HandS.SortInts
import HandS.Walk
import HandS.Evl
import HandS.Conv
import PySem.Challenge.RW_slidefloor_k03_whole_sides_stay
set_option Elab.async false
set_option linter.all false
set_option maxRecDepth 100000
/-! rules that the layer lacks: ==, != of built-in types; t.index(n) of a tuple of ints; sorted of a tuple of ints; enumerate over a tuple -/
namespace Sf
open PySem PySem.Spec PyProof.Rows L2

theorem slot_type_ne : Slot "type" (cmpInfo .NotEq).2.1 "object.__ne__" :=
  .of (owner := "object") (n := "__ne__") (by rw [typeLookup_type, builtinLookup_eq_fast]; kernel_rfl) (by decide +kernel) (by decide +kernel) (by decide +kernel)
    (by first | exact .inl (by decide +kernel) | exact .inr (by decide +kernel)) (by rw [isSubtype_type]; kernel_rfl)
theorem slot_type_ne_refl : Slot "type" (cmpInfo .NotEq).2.2 "object.__ne__" :=
  .of (owner := "object") (n := "__ne__") (by rw [typeLookup_type, builtinLookup_eq_fast]; kernel_rfl) (by decide +kernel) (by decide +kernel) (by decide +kernel)
    (by first | exact .inl (by decide +kernel) | exact .inr (by decide +kernel)) (by rw [isSubtype_type]; kernel_rfl)
theorem slot_type_eq' : Slot "type" "__eq__" "object.__eq__" := PySem.TypeEq.slot_type_eq
section
variable {prog : Program} {w : World} {A : Around} {E : Value → Shared → Prop} {s : Shared}
/-- object.__ne__ of two types -/
theorem obj_ne_ty {X Y : String} (hX : ∀ s' : Shared, s'.TypeIs (.type X) "type") {Q : Fin → Shared → Prop}
    (h : Q (.done (.ret (if X = Y then .bool false else .notImplemented))) s) :
    wpAny (model prog w) A (Builtin.«object.__ne__» ⟨[.type X, .type Y], []⟩) Q E s := by
  unfold Builtin.«object.__ne__»
  refine wpAny_bind (m := slotArgs "__ne__" 1 _) (wpAny_pure ?_)
  refine wpAny_bind (wpAny_cRoomFor_or (.inl rfl) ?_)
  by_cases e : X = Y
  · subst e
    rw [if_pos rfl] at h
    refine wpAny_bind (m := callSpecialIfBound? (.type X) (Str.ofString "__eq__") [.type X])
      (wpAny_callSpecialIfBound?_slot (hX s) slot_type_eq' (call_gives slot_type_eq' (hX s) F.entry_object_eq (F.args_object_eq_2 _ _) (PySem.TypeEq.object_eq_same rfl (by simp)) ?_))
    show wpAny _ _ _ _ _ _
    refine wpAny_bind (m := truthy (.bool true)) (wpAny_truthy_bool ?_)
    exact wpAny_pure h
  · rw [if_neg e] at h
    have hne : (Value.type X == Value.type Y) = false := beq_eq_false_iff_ne.mpr fun z => e (Value.type.inj z)
    refine wpAny_bind (m := callSpecialIfBound? (.type X) (Str.ofString "__eq__") [.type Y])
      (wpAny_callSpecialIfBound?_slot (hX s) slot_type_eq' (call_gives slot_type_eq' (hX s) F.entry_object_eq (F.args_object_eq_2 _ _) (PySem.TypeEq.object_eq_other rfl hne) ?_))
    show wpAny _ _ _ _ _ _
    exact wpAny_pure h
end
end Sf
namespace Sf
open PySem PySem.Spec PyProof.Rows L2
theorem gives_ne_same {X : String} (hX : ∀ s' : Shared, s'.TypeIs (.type X) "type") : Gives (Builtin.«object.__ne__» ⟨[.type X, .type X], []⟩) (.val (.bool false)) := fun prog w A R s hq =>
  obj_ne_ty (X := X) (Y := X) hX (by rw [if_pos rfl]; exact hq)
theorem gives_ne_other {X Y : String} (hX : ∀ s' : Shared, s'.TypeIs (.type X) "type") (e : X ≠ Y) : Gives (Builtin.«object.__ne__» ⟨[.type X, .type Y], []⟩) (.val .notImplemented) := fun prog w A R s hq =>
  obj_ne_ty (X := X) (Y := Y) hX (by rw [if_neg e]; exact hq)
section
variable {M : Model} {A : Around} {E : Value → Shared → Prop} {s : Shared}
theorem richCompare_ne_same_decline {a b : Value} {T id : String} {k : Bool} {Q : Value → Shared → Prop} (ha : ∀ s' : Shared, s'.TypeIs a T) (hb : ∀ s' : Shared, s'.TypeIs b T)
    (h1 : Slot T (cmpInfo .NotEq).2.1 id) (h2 : Slot T (cmpInfo .NotEq).2.2 id) (hv : [a, b].any Value.onHeap = false) (hk : isSame a b = pure k)
    (hc : wpAny M A (call (.builtin id) [a, b]) (fun v s₁ => v = .notImplemented ∧ wpAny M A (call (.builtin id) [b, a]) (fun v s₂ => v = .notImplemented ∧ Q (.bool (!k)) s₂) E s₁) E s) :
    wpAny M A (richCompare .NotEq a b) Q E s := by
  rcases hi : cmpInfo CmpOp.NotEq with ⟨sym, f, r⟩
  rw [hi] at h1 h2
  simp only [richCompare, hi, (ha s).oneThing_none]
  try with_reducible refine wpAny_holding ?_
  refine wpAny_bind (wpAny_cRoomFor_or (.inl hv) ?_)
  refine wpAny_bind (wpAny_typeOf (ha s) (wpAny_bind (wpAny_typeOf (hb s) ?_)))
  simp only [bne_self_eq_false, Bool.false_eq_true, if_false, pure_bind, Bool.not_false, if_true]
  refine wpAny_bind (m := tryCompare a _ b) (wpAny_tryCompare_declines (ha s) h1 (wpAny_mono hc (fun v s₁ h₁ => ⟨h₁.1, ?_⟩) fun _ _ x => x))
  refine wpAny_bind (m := tryCompare b _ a) (wpAny_tryCompare_declines (hb s₁) h2 (wpAny_mono h₁.2 (fun v s₂ h₂ => ⟨h₂.1, ?_⟩) fun _ _ x => x))
  refine wpAny_bind (wpAny_rule (wpAny_bind (wpAny_of_eq hk (wpAny_pure h₂.2))))
end
section
variable {prog : Program} {w : World} {A : Around} {E : Value → Shared → Prop} {s : Shared} {Q : Value → Shared → Prop}
theorem ne_type_same {X : String} (hX : ∀ s' : Shared, s'.TypeIs (.type X) "type") (h : Q (.bool false) s) : wpAny (model prog w) A (compareOp .NotEq (.type X) (.type X)) Q E s := by
  show wpAny _ A (richCompare .NotEq _ _) Q E s
  exact wpAny_richCompare_same (T := "type") (hX s) (hX s) slot_type_ne
    (call_gives slot_type_ne (hX s) F.cmpEntry_ne (F.cmpArgs_ne _ _) (gives_ne_same hX) ⟨(by intro e; cases e), h⟩)
theorem ne_type_other {X Y : String} (hX : ∀ s' : Shared, s'.TypeIs (.type X) "type") (hY : ∀ s' : Shared, s'.TypeIs (.type Y) "type") (hne : X ≠ Y) (h : Q (.bool true) s) : wpAny (model prog w) A (compareOp .NotEq (.type X) (.type Y)) Q E s := by
  show wpAny _ A (richCompare .NotEq _ _) Q E s
  have hb : (Value.type X == Value.type Y) = false := beq_eq_false_iff_ne.mpr fun z => hne (Value.type.inj z)
  exact richCompare_ne_same_decline (T := "type") (k := false) hX hY slot_type_ne slot_type_ne_refl rfl (by rw [isSame_plain rfl, hb])
    (call_gives slot_type_ne (hX s) F.cmpEntry_ne (F.cmpArgs_ne _ _) (gives_ne_other hX hne)
      ⟨rfl, call_gives slot_type_ne_refl (hY s) F.cmpEntry_ne (F.cmpArgs_ne _ _) (gives_ne_other hY (Ne.symm hne)) ⟨rfl, h⟩⟩)
end
/-- the built-in types whose own type is type -/
def TyTy (X : String) : Prop := ∀ s' : Shared, s'.TypeIs (.type X) "type"
theorem ty_int : TyTy "int" := PySem.TypeEq.meta_int
theorem ty_str : TyTy "str" := PySem.TypeEq.meta_str
theorem ty_bool : TyTy "bool" := PySem.TypeEq.meta_bool
theorem ty_none : TyTy "NoneType" := PySem.TypeEq.meta_NoneType
theorem ty_list : TyTy "list" := PySem.TypeEq.meta_list
theorem ty_tuple : TyTy "tuple" := PySem.TypeEq.meta_tuple
theorem ty_dict : TyTy "dict" := PySem.TypeEq.meta_dict
theorem ty_bytes : TyTy "bytes" := PySem.TypeEq.meta_bytes
theorem TyB.tyty {K : PySem.W.Frag} {H : Hp} {x : V} {T : String} (t : TyB K H x T) : TyTy T := by
  cases t with
  | non => exact ty_none
  | bl => exact ty_bool
  | int => exact ty_int
  | str => exact ty_str
  | byt => exact ty_bytes
  | lst => exact ty_list
  | tup => exact ty_tuple
  | dK => exact ty_dict
def rEqTy : R2 := fun x y H Q => ∃ a b, x = .ty a ∧ y = .ty b ∧ TyTy a ∧ TyTy b ∧ Q (.bl (decide (a = b))) H
def rNeTy : R2 := fun x y H Q => ∃ a b, x = .ty a ∧ y = .ty b ∧ TyTy a ∧ TyTy b ∧ Q (.bl (!decide (a = b))) H
section
variable {X : Cx}
theorem op_eqTy : OpR X (compareOp .Eq) rEqTy := by
  intro pins s σ H x y v u Q I rx ry h
  obtain ⟨a, b, rfl, rfl, ha, hb, q⟩ := h
  cases (show v = Value.type a from rx)
  cases (show u = Value.type b from ry)
  by_cases e : a = b
  · subst e
    exact PySem.TypeEq.eq_type_same ha (fin_bl I q (by simp))
  · exact PySem.TypeEq.eq_type_other ha hb (beq_eq_false_iff_ne.mpr fun z => e (Value.type.inj z)) (fin_bl I q (by simp [e]))
theorem op_neTy : OpR X (compareOp .NotEq) rNeTy := by
  intro pins s σ H x y v u Q I rx ry h
  obtain ⟨a, b, rfl, rfl, ha, hb, q⟩ := h
  cases (show v = Value.type a from rx)
  cases (show u = Value.type b from ry)
  by_cases e : a = b
  · subst e
    exact ne_type_same ha (fin_bl I q (by simp))
  · exact ne_type_other ha hb e (fin_bl I q (by simp [e]))
end
end Sf
namespace Sf
open PySem PyProof.Rows Srt SrtO
section
variable {prog : Program} {w : World} {A : Around} {E : Value → Shared → Prop} {s : Shared}
theorem collect_tup {l : Addr} {vs : List Value} {Q : List Value → Shared → Prop} (hl : IsTup s.heap l vs.toArray)
    (h : Q vs { s with heap := (s.heap.push (seqObj "list" #[] 0)).update s.heap.objs.size (Obj.mapSeq (· ++ vs.toArray)) }) (hsz : vs.length ≤ sizeLine) :
    wpAny (model prog w) A (collect (.ref l)) Q E s := by
  obtain ⟨o, ho, hc, n, hd⟩ := id hl
  unfold collect
  refine wpAny_bind (wpAny_runValue (codeAny_builtin entry_proto_collect' ?_))
  show wpAny _ _ (do again (.builtin "list.__iadd__" ⟨[← newList [], .ref l], []⟩)) _ _ s
  refine wpAny_bind (wpAny_newList (wpAny_pure ⟨Code.quiet_builtin _ (by decide +kernel), codeAny_builtin entry_list_iadd' ?_⟩))
  show wpAny _ _ (Builtin.List.listExtendWith (.ref s.heap.objs.size) (.ref l) (.ref s.heap.objs.size)) _ _ { s with heap := s.heap.push (seqObj "list" #[] 0) }
  unfold Builtin.List.listExtendWith
  have ho' : (s.heap.push (seqObj "list" #[] 0)).get? l = some o := Heap.get?_push_of_some _ ho
  refine wpAny_bind (wpAny_typeOf (T := "tuple") ⟨o, ho', hc⟩ ?_)
  have ht : (Value.type "tuple" == Value.type "tuple") = true := by rfl
  rw [if_pos (by rw [ht]; simp)]
  refine wpAny_bind (listItems_at ho' hd ?_)
  refine wpAny_bind (listItems_at (xs := #[]) (n := 0) (Heap.get?_push_size _ rfl) rfl ?_)
  rw [if_neg (by simp)]
  refine wpAny_bind (listUpdate_at (xs := #[]) (n := 0) (Heap.get?_push_size _ rfl) rfl ?_ (Nat.zero_le _) (by show (#[] ++ vs.toArray).size ≤ sizeLine + 1; simp only [Array.size_append, List.size_toArray, List.length_nil]; omega))
  refine wpAny_pure ?_
  show wpAny (model prog w) A (do
      let o ← load s.heap.objs.size
      match o.data with
      | .seq xs _ => pure xs.toList
      | _ => unsupported "internal:collect") Q E { s with heap := (s.heap.push (seqObj "list" #[] 0)).update s.heap.objs.size (Obj.mapSeq (· ++ vs.toArray)) }
  refine wpAny_bind (wpAny_load (get?_update_seq (Heap.get?_push_size _ rfl) _) ?_)
  show wpAny _ _ (pure ((#[] : Array Value) ++ vs.toArray).toList) Q E _
  rw [show ((#[] : Array Value) ++ vs.toArray).toList = vs by simp]
  exact wpAny_pure h
theorem sorted_ordT {l : Addr} {vs : List Value} {ltv : Value → Value → Bool} {Q : Value → Shared → Prop} (O : Swo ltv) (hl : IsTup s.heap l vs.toArray) (hz : vs.length ≤ sizeLine)
    (hS : 2 ≤ vs.length → ∀ (h₁ : Heap) (a : Addr), h₁.get? a = some (seqObj "list" vs.toArray 0) → (∀ b o, s.heap.get? b = some o → b ≠ a ∧ h₁.get? b = some o) → SortableO prog w A.in1.in1 { s with heap := h₁ } a vs ltv)
    (h : ∀ out : List Value, Srtd ltv out → Stb ltv out vs → Q (.ref (s.heap.objs.size + 1)) { s with heap := sortedAll s.heap vs out.toArray }) :
    wpAny (model prog w) A (call (.builtin "sorted") [.ref l]) Q E s := by
  refine Calls.call_function_entry kind_sorted plain_sorted entry_sorted (args_sorted1 _) ?_
  unfold Builtin.«sorted»
  refine wpAny_bind (m := checkCount "sorted" 1 1 _) (wpAny_pure ?_)
  refine wpAny_bind (collect_tup hl ?_ hz)
  refine wpAny_bind (wpAny_newList ?_ hz)
  have hsz : ((s.heap.push (seqObj "list" #[] 0)).update s.heap.objs.size (Obj.mapSeq (· ++ vs.toArray))).objs.size = s.heap.objs.size + 1 := by
    rw [Heap.size_update, size_push']
  have hoL : (((s.heap.push (seqObj "list" #[] 0)).update s.heap.objs.size (Obj.mapSeq (· ++ vs.toArray))).push (seqObj "list" vs.toArray 0)).get? (s.heap.objs.size + 1) = some (seqObj "list" vs.toArray 0) := by
    rw [← hsz]; exact Heap.get?_push_size _ rfl
  have keep : ∀ b o, s.heap.get? b = some o → b ≠ s.heap.objs.size + 1 ∧ (((s.heap.push (seqObj "list" #[] 0)).update s.heap.objs.size (Obj.mapSeq (· ++ vs.toArray))).push (seqObj "list" vs.toArray 0)).get? b = some o := fun b o q => by
    have hlt : b < s.heap.objs.size := Heap.lt_size q
    refine ⟨Nat.ne_of_lt (Nat.lt_succ_of_lt hlt), Heap.get?_push_of_some _ ?_⟩
    rw [Heap.get?_update_ne _ _ _ _ (Nat.ne_of_lt hlt)]
    exact Heap.get?_push_of_some _ q
  show wpAny _ _ _ _ _ { s with heap := ((s.heap.push (seqObj "list" #[] 0)).update s.heap.objs.size (Obj.mapSeq (· ++ vs.toArray))).push (seqObj "list" vs.toArray 0) }
  rw [hsz]
  refine wpAny_bind (wpAny_holding (wpAny_call_entry slot_list_sort ⟨_, hoL, rfl⟩ entry_list_sort (list_sort_ord O hoL hz (fun h2 => hS h2 _ _ hoL keep) fun out hs hb => ⟨_, rfl, ?_⟩) (args_list_sort _)))
  exact wpAny_pure ⟨_, rfl, h out hs hb⟩
end
end Sf
namespace Sf
open PySem PySem.Spec PyProof.Rows L2
/-- sorted(t), t a tuple of ints -/
def rSortedTI (K : PySem.W.Frag) : List V → Hp → VK → Prop := fun vs H Q => ∃ (a : Addr) (ns : List Int), vs = [V.ref a] ∧ SqT K H a (ns.map V.int) ∧
  ∀ (ns' : List Int) (p : Addr), ns'.Perm ns → ns'.Pairwise (· ≤ ·) → H p = none → Q (.ref p) (upd H p (.lst (ns'.map V.int)))
section
variable {X : Cx}
theorem cr_sortedTI : CallR X (.builtin "sorted") (rSortedTI X.K) := by
  intro pins s σ H vs us Q I r h
  obtain ⟨a, ns, rfl, hs, q⟩ := h
  obtain ⟨its, rv, hl, hz⟩ := I.tuple hs
  rw [Vals.ref1 r]
  have hi := rv.ints
  refine sorted_ordT SrtO.swo_int hl (by rw [← rv.length]; exact hz) (fun h2 h₁ a' _ _ => SrtO.ints_sortable hi h2) fun out h1 h2 => ?_
  obtain ⟨k1, k2, k3⟩ := SrtO.ints_out hi h1 h2
  obtain ⟨ep, he'⟩ := PyProof.Rows.sortedAll_at s.heap its out.toArray
  have hlen : ((out.map SrtO.iv).map V.int).length ≤ sizeLine := by
    rw [List.length_map, k2.length_eq]
    rw [List.length_map] at hz
    exact hz
  exact ⟨.ref _, upd H (s.heap.objs.size + 1) (.lst ((out.map SrtO.iv).map V.int)), I.laid (t' := s.toks) (fun _ _ => PyProof.Rows.sortedAll_old) (Nat.le_succ _) ⟨hlen, out, ep, vals_of_ints k1, he'⟩, rfl, q _ _ k2 k3 (I.hok.fresh (Nat.le_succ _))⟩
end
/-- t.index(n), a tuple of ints, the first place -/
theorem flat_ints (ys : List Int) : (ys.map V.int).all flatV = true := by
  rw [List.all_map]
  exact List.all_eq_true.mpr fun _ _ => rfl
def rTupIx (K : PySem.W.Frag) : V → List V → Hp → VK → Prop := fun x xs H Q => ∃ (p : Addr) (ys : List Int) (z : Int) (j : Nat), x = .ref p ∧ xs = [.int z] ∧ SqT K H p (ys.map V.int) ∧ ys[j]? = some z ∧ (∀ m, m < j → ys[m]? ≠ some z) ∧ Q (.int (j : Nat)) H
section
variable {X : Cx}
theorem mt_tup_indexI : MtR X "tuple.index" (rTupIx X.K) := by
  intro pins s σ H x xs v us Q I rx rs h
  obtain ⟨p, ys, z, j, rfl, rfl, hq, hy, hno, q⟩ := h
  cases rx
  obtain ⟨u, rfl, t, rfl⟩ := vals1 rs
  obtain ⟨its, r, pl, hz⟩ := I.tuple hq
  obtain ⟨⟨cls, dd, dt, sl⟩, ho, hc, n, hd⟩ := pl
  simp only at hc hd
  subst hc
  subst hd
  have hl : its.toArray.size = ys.length := by rw [List.size_toArray, ← r.length, List.length_map]
  have hj : j < its.toArray.size := by rw [hl]; exact (List.getElem?_eq_some_iff.mp hy).1
  have at' : ∀ (m : Nat) (hm : m < its.toArray.size), ∃ y t', ys[m]? = some y ∧ its.toArray[m] = Value.int y t' := fun m hm => by
    have hm' : m < ys.length := by rw [← hl]; exact hm
    obtain ⟨w, hw, t', hw'⟩ := r.get (i := m) (x := .int ys[m]) (by simp [hm'])
    refine ⟨ys[m], t', List.getElem?_eq_getElem hm', ?_⟩
    have e := (List.getElem?_eq_some_iff.mp hw).2
    rw [← hw', ← e]
    simp
  refine call_meets PySem.F.slot_tuple_index ⟨_, ho, rfl⟩ PySem.F.entry_tuple_index (PySem.F.args_tuple_index_2 _ _) (TI.tuple_indexAt p its.toArray n dd sl (.int z t) (eqU (.int z)) j hj ?_ ?_)
    ⟨ho, fun w hw => mem_eqAt (x := .int z) ⟨t, rfl⟩ rfl r (flat_ints ys) w (by simpa using hw), ⟨.int (j : Nat), H, I.tok _, ⟨_, rfl⟩, q⟩⟩
  · obtain ⟨y, t', h1, h2⟩ := at' j hj
    rw [hy] at h1
    cases h1
    rw [h2]
    show (z == z) = true
    exact beq_self_eq_true z
  · intro m hm hmj
    obtain ⟨y, t', h1, h2⟩ := at' m hm
    have hne : y ≠ z := fun e => hno m hmj (by rw [h1, e])
    rw [h2]
    show (y == z) = false
    exact beq_eq_false_iff_ne.mpr hne
end
end Sf
set_option maxHeartbeats 1000000
namespace PySem
open Sem (wp)
theorem sf_meets_enumerate_newT (l : Addr) (items : Array Value) (n : Nat) (dct : Option Addr) (sl : Array (Option Value)) :
    Meets (Builtin.«enumerate.__new__» ⟨[.type "enumerate", .ref l], []⟩) (fun _ R s => s.heap.get? l = some { cls := .type "tuple", dict := dct, data := .seq items n, slots := sl } ∧
      R (.ok (.ret (.ref (s.heap.push { cls := .type "tuple_iterator", data := .fields #[.ref l, .int 0 0] }).objs.size)))
        { s with heap := (s.heap.push { cls := .type "tuple_iterator", data := .fields #[.ref l, .int 0 0] }).push { cls := .type "enumerate", data := .fields #[.none, .bool false, .ref s.heap.objs.size, rawInt 0, .none, .none] } }) :=
  .of_wp fun prog w A R s h => by
    obtain ⟨hp, g, d, tk, os⟩ := s; obtain ⟨hl, h⟩ := h
    have hsub := sub_enumerate
    have hL : Heap.IsTuple (Shared.heap ⟨hp, g, d, tk, os⟩) l items := ⟨_, hl, rfl, n, rfl⟩
    wp_walk using AutoSeq1.wpAny_loadPart' hl
    refine wpAny_stack_any fun st => wpAny_pure ?_
    split
    · rename_i c _ _ _ _ _
      cases (c == Value.type "enumerate")
      · wp_walk using AutoSeq1.wpAny_loadPart' hl, wpAny_pyIter_tuple hL
        exact ⟨_, rfl, h⟩
      · wp_walk using AutoSeq1.wpAny_loadPart' hl, wpAny_pyIter_tuple hL
        exact ⟨_, rfl, h⟩
    · wp_walk using AutoSeq1.wpAny_loadPart' hl, wpAny_pyIter_tuple hL
      exact ⟨_, rfl, h⟩
section
variable {prog : Program} {w : World} {A : Around} {E : Value → Shared → Prop} {s : Shared}
theorem sf_call_enumerate_tuple {l : Addr} {items : Array Value} {Q : Value → Shared → Prop} (hL : s.heap.IsTuple l items)
    (h : ∀ h', IsEnum h' (s.heap.objs.size + 1) s.heap.objs.size 0 .none → h'.IsTupleIter s.heap.objs.size l 0 → h'.objs.size = s.heap.objs.size + 2 →
      (∀ b o, s.heap.get? b = some o → h'.get? b = some o) → Q (.ref (s.heap.objs.size + 1)) { s with heap := h' }) :
    wpAny (model prog w) A (call (.type "enumerate") [.ref l]) Q E s := by
  obtain ⟨⟨c, dct, dt, sl⟩, hl, hc, n, hd⟩ := hL
  replace hc : c = .type "tuple" := hc
  replace hd : dt = .seq items n := hd
  subst hc hd
  refine callType_new F.called_enumerate (by decide) (F.typeCall_enumerate_1 _) (F.newCall_enumerate_1 _) (fun obj => F.args_object_init_2 obj _) F.entry_enumerate_new
    (sf_meets_enumerate_newT l items n dct sl) ⟨hl, ?_⟩
  have hz : (s.heap.push { cls := .type "tuple_iterator", data := .fields #[.ref l, .int 0 0] }).objs.size = s.heap.objs.size + 1 := Heap.size_push ..
  show _ ∧ _
  rw [hz]
  have he : IsEnum ((s.heap.push { cls := .type "tuple_iterator", data := .fields #[.ref l, .int 0 0] }).push
      { cls := .type "enumerate", data := .fields #[.none, .bool false, .ref s.heap.objs.size, rawInt 0, .none, .none] }) (s.heap.objs.size + 1) s.heap.objs.size 0 .none := by
    have := Heap.get?_push_size (s.heap.push { cls := .type "tuple_iterator", data := .fields #[.ref l, .int 0 0] })
      (o := { cls := .type "enumerate", data := .fields #[.none, .bool false, .ref s.heap.objs.size, rawInt 0, .none, .none] }) rfl
    rw [hz] at this; exact this
  refine ⟨⟨_, he, rfl⟩, h _ he ⟨_, Heap.get?_push_of_some _ (Heap.get?_push_size _ rfl), rfl, rfl⟩ (by rw [Heap.size_push, hz]) fun b o x => Heap.get?_push_of_some _ (Heap.get?_push_of_some _ x)⟩
end
end PySem
namespace Sf
open PySem PySem.Spec PyProof.Rows L2
/-- enumerate over a tuple -/
def IteT (K : PySem.W.Frag) (a : Addr) : It :=
  ⟨fun i H => ∃ (xs : List V) (x : V), SqT K H a xs ∧ xs[i]? = some x, fun i H v H' => ∃ T x, v = .ref T ∧ H T = none ∧ H' = upd H T (.tup [.int (i : Nat), x]) ∧ ∀ xs, SqT K H a xs → xs[i]? = some x, fun i H => ∃ xs : List V, SqT K H a xs ∧ xs.length = i⟩
theorem turn_enumT {P : Program} {w : World} {K : PySem.W.Frag} {elts : List Expr} {kk : Nat} {tpos : Pos} (a e it : Addr) (nei : e ≠ it) (nea : e ≠ a) (nai : a ≠ it) :
    Turn P w K (.Tuple elts kk tpos) (IteT K a) [e, it] e (fun i h => (∃ old, IsEnum h e it ((i : Nat) : Int) old) ∧ h.IsTupleIter it a i) where
  mem := by simp
  obj := fun i h st b hb => by
    obtain ⟨⟨old, he⟩, ⟨o, ho, hc, hd⟩⟩ := st
    have e' : b = e ∨ b = it := by simpa using hb
    rcases e' with z | z
    · rw [z]; exact ⟨_, he, fun v q => nomatch q⟩
    · rw [z]; exact ⟨o, ho, fun v q => by rw [hd] at q; cases q⟩
  keep := fun i h h' st k => let ⟨⟨old, he⟩, hi⟩ := st; ⟨⟨old, k e (by simp) _ he⟩, hi.at fun o q => k it (by simp) o q⟩
  item := by
    intro X hP hw hK hc i pins s σ H E I hf st hg
    subst hP hw hK
    obtain ⟨⟨old, he⟩, hit⟩ := st
    obtain ⟨xs, x, hq, hx⟩ := hg
    obtain ⟨its, rv, p, hz⟩ := I.tuple hq
    obtain ⟨u, hu, ru⟩ := rv.get hx
    have hel : e < s.heap.objs.size := Heap.lt_size he
    have hil : it < s.heap.objs.size := by obtain ⟨_, q, _⟩ := hit; exact Heap.lt_size q
    have hlt : i < its.toArray.size := by
      have := (List.getElem?_eq_some_iff.mp hu).1
      simpa using this
    have D := Draws.tuple (prog := X.prog) (w := X.w) (A := X.A.in1) (I.ok.hd hc) it a nai its.toArray
    refine wpAny_pyNext_enum_itemD (E := E) D he ⟨hit, (show s.heap.IsTuple a its.toArray from p)⟩ hlt nei (by simp; exact ⟨nei, nea⟩) fun u' h' tk hu' ho hst' hT hsz hk => ?_
    have eu : u' = u := by
      have hu2 : its.toArray[i]? = some u := by simpa using hu
      rw [hu2] at hu'
      exact (Option.some.inj hu').symm
    subst eu
    refine ⟨_, rfl, wpAny_letOwnedTupleGo_enum (s := { s with heap := h', toks := tk + 1 }) ho fun h'' he' sb => ?_⟩
    have hT2 : h''.get? s.heap.objs.size = some { cls := .type "tuple", data := .seq #[.int i tk, u'] } := (sb.2 _ (Nat.ne_of_gt hel)).trans hT
    have new : ObjOk X.prog X.w (upd H s.heap.objs.size (.tup [.int (i : Nat), x])) h'' s.heap.objs.size (.tup [.int (i : Nat), x]) :=
      ⟨by show 2 ≤ sizeLine; decide, [.int i tk, u'], .cons ⟨_, rfl⟩ (.cons ru .nil), ⟨_, hT2, rfl, _, rfl⟩⟩
    have I1 : Inv X pins σ (upd H s.heap.objs.size (.tup [.int (i : Nat), x])) { s with heap := h'', toks := tk + 1 } :=
      I.turnedNew (ch := [e, it]) (fun b ob hb q => (sb.2 b (fun z => hb (by simp [z]))).trans (hk b ob (fun z => hb (by simp [z])) (fun z => hb (by simp [z])) q)) hf (Nat.le_refl _) new
    refine ⟨.ref s.heap.objs.size, _, I1, rfl, ⟨_, x, rfl, I.hok.fresh (Nat.le_refl _), rfl, fun ys hy => by rw [I.tuple_inj hy hq]; exact hx⟩, ⟨⟨u', ?_⟩, hst'.1.at fun o q => (sb.2 it (Ne.symm nei)).trans q⟩, fun b hb => ?_⟩
    · have e1 : ((i + 1 : Nat) : Int) = (i : Int) + 1 := by omega
      rw [e1]; exact he'
    · have hb' : b < s.heap.objs.size := by
        have e' : b = e ∨ b = it := by simpa using hb
        rcases e' with z | z
        · rw [z]; exact hel
        · rw [z]; exact hil
      rw [upd_ne (Nat.ne_of_lt hb')]
      exact (hf b hb).1
  done := by
    intro X hP hw hK hc i pins s σ H E I hf st hg
    subst hP hw hK
    obtain ⟨⟨old, he⟩, hit⟩ := st
    obtain ⟨xs, hq, hx⟩ := hg
    obtain ⟨its, rv, p, hz⟩ := I.tuple hq
    obtain ⟨f0, f1, f2, f3, f4, f5⟩ := hf it (by simp)
    have hl := rv.length
    have D := Draws.tuple (prog := X.prog) (w := X.w) (A := X.A.in1) (I.ok.hd hc) it a nai its.toArray
    have hi : its.toArray.size = i := by simp; omega
    refine wpAny_pyNext_enum_endD (E := E) D he ⟨?_, (show s.heap.IsTuple a its.toArray from p)⟩ fun h' eb => ⟨rfl, I.turned (t' := s.toks) (fun b o hb q => eb b o hb q) f0 f1 f3 f4 f5⟩
    rw [hi]; exact hit
  self := fun A i s Q E st h => let ⟨⟨_, he⟩, _⟩ := st; wpAny_pyIter_enum he h
def iEnumT (K : PySem.W.Frag) (ta : TA) : TI := fun σ H R => ta σ H fun vs H1 => ∃ a xs, vs = [.ref a] ∧ SqT K H1 a xs ∧ R (IteT K a) H1
theorem pi_enumT {X : Cx} {e : Expr} {ta : TA} {p pos tpos : Pos} {elts : List Expr} {kk : Nat} (hg : Gl X "enumerate") (hm : X.mg "enumerate" = none) (ha : PA X [e] ta) (hs : starEach [e] X.env = [(false, eval e X.env)] := by rfl) :
    PI X (.Tuple elts kk tpos) (.Call (.Name "enumerate" p) [e] [] pos) (iEnumT X.K ta) := by
  refine ⟨fun pins s σ H R I h => ?_⟩
  refine Call_ (ld_blt I hg hm boot_enumerate (PyProof.Rows.callWith_type1 (thn (ha.run pos pins s σ H _ I h) fun us s1 ⟨vs, H1, I1, r1, q1⟩ => ?_) hs rfl))
  obtain ⟨a, xs, ex, hq, q⟩ := q1
  subst ex
  cases r1 with
  | cons r rr =>
    cases rr
    cases r
    obtain ⟨its, rv, p', hz⟩ := I1.tuple hq
    have hal : a < s1.heap.objs.size := p'.lt
    refine sf_call_enumerate_tuple (show s1.heap.IsTuple a its.toArray from p') fun h' he hit hsz hk => wpAny_pyIter_enum he ?_
    have I2 : Inv X pins σ H1 { s1 with heap := h' } := I1.kept (t' := s1.toks) hk
    refine ⟨s1.heap.objs.size + 1, [s1.heap.objs.size + 1, s1.heap.objs.size], _, _, H1, rfl, I2, turn_enumT a (s1.heap.objs.size + 1) s1.heap.objs.size (Nat.succ_ne_self _) (Nat.ne_of_gt (Nat.lt_succ_of_lt hal)) (Nat.ne_of_lt hal), ⟨⟨.none, he⟩, hit⟩, fun b hb => ?_, q⟩
    have e' : b = s1.heap.objs.size + 1 ∨ b = s1.heap.objs.size := by simpa using hb
    have hle : s1.heap.objs.size ≤ b := by
      rcases e' with z | z
      · rw [z]; exact Nat.le_add_right _ _
      · rw [z]; exact Nat.le_refl _
    exact I1.fpOk hle (I1.hok.fresh hle)
theorem walk_enumT {K : PySem.W.Frag} {a : Addr} {xs : List V} : Walk (IteT K a) xs.length (fun H => SqT K H a xs) (YPair (fun i => some (.int (i : Nat))) (fun i => xs[i]?)) := by
  refine ⟨fun i _ hi q => ⟨xs, xs[i], q, by simp [hi]⟩, fun _ q => ⟨xs, q, rfl⟩, fun i H v H' _ q y => ?_⟩
  obtain ⟨T, x, h1, h2, h3, h4⟩ := y
  exact ⟨T, .int (i : Nat), x, h1, h2, h3, rfl, h4 xs q⟩
end Sf
namespace Sf
open PySem PySem.Spec PyProof.Rows L2
/-- a tuple on which no dict hangs (so a method's name is looked up in its type alone) -/
def TD (H : Hp) (a : Addr) (xs : List V) : Prop := ∃ o : Obj, o.dict = none ∧ H a = some (.frz o (.tup xs))
theorem TD.sq {K : PySem.W.Frag} {H : Hp} {a : Addr} {xs : List V} (t : TD H a xs) : SqT K H a xs := let ⟨o, _, e⟩ := t; .inl (.inr ⟨o, e⟩)
theorem TD.same {H H' : Hp} {a : Addr} {xs : List V} (s : Same H H') (t : TD H a xs) : TD H' a xs := let ⟨o, d, e⟩ := t; ⟨o, d, s _ _ e⟩
/-- tuple(xs), xs a list: a new tuple of that kind -/
def rTupD (K : PySem.W.Frag) : List V → Hp → VK → Prop := fun xs H Q => ∃ (p : Addr) (ys : List V), xs = [.ref p] ∧ SqL K H p ys ∧ ∀ l H', H l = none → Same H H' → TD H' l ys → Q (.ref l) H'
def tMT (r : V → List V → Hp → VK → Prop) (to : TE) (t : TA) : TE := fun σ H Q => to σ H fun x H1 => (∃ a xs, x = .ref a ∧ TD H1 a xs) ∧ t σ H1 fun xs H2 => r x xs H2 Q
section
variable {X : Cx}
theorem cr_tupD : CallR X (.type "tuple") (rTupD X.K) := by
  intro pins s σ H xs us Q I r h
  obtain ⟨p, ys, rfl, hq, q⟩ := h
  obtain ⟨u, rfl, rx⟩ := vals1 r
  cases rx
  obtain ⟨its, r', pl, hz⟩ := I.list hq
  have hlen := r'.length
  refine call_tuple_list pl.isList (fun h' kp => ?_) (by simp only [List.size_toArray] <;> omega)
  have I1 : Inv X pins σ H { s with heap := h' } := I.kept (t' := s.toks) kp
  have hn : H h'.objs.size = none := I1.hok.fresh (Nat.le_refl _)
  have I2 : Inv X pins σ (upd H h'.objs.size (.frz { cls := .type "tuple", data := .seq its.toArray } (.tup ys))) { s with heap := h'.push { cls := .type "tuple", data := .seq its.toArray } } :=
    I1.laid (t' := s.toks) (fun b o e => Heap.get?_push_of_some _ e) (Nat.le_refl _)
      (show ObjOk X.prog X.w _ _ _ (.frz _ (.tup ys)) from ⟨Heap.get?_push_size _ rfl, hz, its, r', IsTup.new _ _⟩)
  exact ⟨.ref h'.objs.size, _, I2, rfl, q _ _ hn (fun b o e => by rw [upd_ne (ne_of_none e hn)]; exact e) ⟨_, rfl, upd_same⟩⟩
variable {o e : Expr} {es : List Expr} {to : TE} {t : TA} {name : Str} {apos cpos : Pos} {id : String} {r : V → List V → Hp → VK → Prop}
theorem pe_mT (slot : Slot "tuple" name id) (hty : typeOf (.builtin id) = pure (.type "method_descriptor")) (hm : MtR X id r) (ho : PE X o to) (ha : PA X (e :: es) t)
    (hbase : attributeBase o name X.env (eval o X.env) = eval o X.env := by rfl)
    (hfew : ((backTo cpos (starEach (e :: es) X.env)).all (fun x => !x.1) && (backToKw cpos (keywordEach [] X.env)).all (fun x => x.1.isSome)
      && decide ((e :: es).length + ([] : List Keyword).length + (if ([] : List Keyword).isEmpty then 0 else 1) < 30)) = true := by rfl)
    (hline : (apos.endLine == cpos.line) = true := by rfl) (hs : starEach (e :: es) X.env = (false, eval e X.env) :: starEach es X.env := by rfl) (hplain : (backTo cpos (starEach es X.env)).any (·.1) = false := by rfl) :
    PE X (.Call (.Attribute o name apos) (e :: es) [] cpos) (tMT r to t) := by
  refine ⟨fun pins s σ H Q I h => ?_⟩
  refine wpAny_Call_method_late hbase hfew hline rfl (thn (ho.run pins s σ H _ I h) fun v s1 ⟨x, H1, I1, r1, ty, q1⟩ => ?_)
  obtain ⟨a, xs, rfl, ob, hd, hH⟩ := ty
  cases r1
  obtain ⟨hg, _, its, _, o2, h2, h3, _⟩ := (show ObjOk X.prog X.w H1 s1.heap a (.frz ob (.tup xs)) from I1.hok a _ hH)
  refine ⟨"tuple", id, PySem.F.plainAttrs_tuple, slot, hty, ⟨o2, h2, h3⟩, fun b eb => ?_, ?_⟩
  · cases eb
    exact ⟨ob, hg, hd⟩
  · have hA := ha.run cpos pins s1 σ H1 _ I1 q1
    rw [hs] at hA ⊢
    refine Calls.callWith_builtin (by show (false || (backTo cpos (starEach es X.env)).any (·.1)) = false; rw [hplain] <;> rfl) (Calls.evalArgs_plain ?_)
    exact thn hA fun us s2 ⟨vs, H2, I2, r2, q2⟩ => hm pins s2 σ H2 (.ref a) vs (.ref a) us Q I2 rfl r2 q2
/-- t.index(n) -/
theorem pe_tix (ho : PE X o to) (ha : PA X [e] t)
    (hbase : attributeBase o "index" X.env (eval o X.env) = eval o X.env := by rfl)
    (hfew : ((backTo cpos (starEach (e :: []) X.env)).all (fun x => !x.1) && (backToKw cpos (keywordEach [] X.env)).all (fun x => x.1.isSome)
      && decide ((e :: ([] : List Expr)).length + ([] : List Keyword).length + (if ([] : List Keyword).isEmpty then 0 else 1) < 30)) = true := by rfl)
    (hline : (apos.endLine == cpos.line) = true := by rfl) (hs : starEach (e :: []) X.env = (false, eval e X.env) :: starEach [] X.env := by rfl) (hplain : (backTo cpos (starEach [] X.env)).any (·.1) = false := by rfl) :
    PE X (.Call (.Attribute o "index" apos) [e] [] cpos) (tMT (rTupIx X.K) to t) := pe_mT PySem.F.slot_tuple_index PySem.F.type_tuple_index mt_tup_indexI ho ha hbase hfew hline hs hplain
end
end Sf

namespace Sf
/-! ### pairs with the greater one ahead, and how an exchange changes their number -/
def cnt (a : Int) (l : List Int) : Nat := l.countP fun b => decide (b < a)
def inv : List Int → Nat
  | [] => 0
  | a :: l => cnt a l + inv l
theorem cnt_cons (a b : Int) (l : List Int) : cnt a (b :: l) = cnt a l + (if b < a then 1 else 0) := by
  unfold cnt
  rw [List.countP_cons]
  by_cases h : b < a <;> simp [h]
theorem cnt_append (a : Int) (l m : List Int) : cnt a (l ++ m) = cnt a l + cnt a m := by
  unfold cnt
  exact List.countP_append
theorem cnt_perm {a : Int} {l m : List Int} (h : l.Perm m) : cnt a l = cnt a m := h.countP_eq _
theorem inv_prefix {l l' : List Int} (h : l.Perm l') : ∀ p : List Int, inv (p ++ l) + inv l' = inv (p ++ l') + inv l
  | [] => by simp only [List.nil_append]; omega
  | c :: p => by
    have ih := inv_prefix h p
    have e : cnt c (p ++ l) = cnt c (p ++ l') := cnt_perm (List.Perm.append_left p h)
    simp only [List.cons_append, inv, e]
    omega
theorem inv_move (a : Int) : ∀ (m q : List Int), a ∉ m → (inv (a :: (m ++ q)) + m.length) % 2 = inv (m ++ a :: q) % 2
  | [], q, _ => by simp
  | b :: m, q, h => by
    have hb : a ≠ b := fun e => h (by simp [e])
    have hm : a ∉ m := fun e => h (by simp [e])
    have ih := inv_move a m q hm
    have e1 : cnt b (m ++ a :: q) = cnt b (m ++ q) + (if a < b then 1 else 0) := by
      rw [cnt_append, cnt_append, cnt_cons]; omega
    have e2 := cnt_cons a b (m ++ q)
    simp only [List.cons_append, inv, List.length_cons, e1, e2] at ih ⊢
    by_cases h1 : a < b
    · have h2 : ¬ b < a := by omega
      simp only [h1, h2, if_true, if_false]; omega
    · have h2 : b < a := by omega
      simp only [h1, h2, if_true, if_false]; omega
theorem perm_exch (p : List Int) (a b : Int) (m q : List Int) : (p ++ a :: (m ++ b :: q)).Perm (p ++ b :: (m ++ a :: q)) := by
  refine List.Perm.append_left p ?_
  have h1 : (a :: (m ++ b :: q)).Perm (a :: b :: (m ++ q)) := List.Perm.cons a List.perm_middle
  have h2 : (b :: (m ++ a :: q)).Perm (b :: a :: (m ++ q)) := List.Perm.cons b List.perm_middle
  exact h1.trans ((List.Perm.swap b a _).trans h2.symm)
theorem inv_exch {a b : Int} {p m q : List Int} (hab : a ≠ b) (ha : a ∉ m) (hb : b ∉ m) : inv (p ++ a :: (m ++ b :: q)) % 2 = (inv (p ++ b :: (m ++ a :: q)) + 1) % 2 := by
  have h0 := inv_prefix (perm_exch [] a b m q) p
  simp only [List.nil_append] at h0
  have h1 := inv_move a m (b :: q) ha
  have h2 := inv_move b m (a :: q) hb
  have h3 := inv_prefix (List.Perm.swap b a q) m
  have e1 := cnt_cons a b q
  have e2 := cnt_cons b a q
  have e3 : inv (a :: b :: q) = cnt a (b :: q) + (cnt b q + inv q) := rfl
  have e4 : inv (b :: a :: q) = cnt b (a :: q) + (cnt a q + inv q) := rfl
  by_cases h : a < b
  · have h' : ¬ b < a := by omega
    simp only [h, h', if_true, if_false] at e1 e2
    omega
  · have h' : b < a := by omega
    simp only [h, h', if_true, if_false] at e1 e2
    omega
/-! ### an exchange by places -/
def swapAt (l : List Int) (i j : Nat) : List Int := (l.set i (l.getD j 0)).set j (l.getD i 0)
theorem split_at {α : Type} : ∀ {l : List α} {i : Nat} {x : α}, l[i]? = some x → ∃ p q, l = p ++ x :: q ∧ p.length = i
  | [], i, x, h => by simp at h
  | a :: l, 0, x, h => ⟨[], l, by simp at h; simp [h], rfl⟩
  | a :: l, i + 1, x, h => by
    obtain ⟨p, q, e, n⟩ := split_at (l := l) (i := i) (x := x) (by simpa using h)
    exact ⟨a :: p, q, by rw [e]; rfl, by simp [n]⟩
theorem split_two {l : List Int} {i j : Nat} {x y : Int} (hij : i < j) (hx : l[i]? = some x) (hy : l[j]? = some y) : ∃ p m q, l = p ++ x :: (m ++ y :: q) ∧ p.length = i ∧ p.length + 1 + m.length = j := by
  obtain ⟨p, r, e, n⟩ := split_at hx
  have hr : r[j - i - 1]? = some y := by
    rw [e, List.getElem?_append_right (by omega)] at hy
    have : j - p.length = (j - i - 1) + 1 := by omega
    rw [this] at hy
    simpa using hy
  obtain ⟨m, q, e2, n2⟩ := split_at hr
  exact ⟨p, m, q, by rw [e, e2], n, by omega⟩
theorem set_mid {α : Type} (p : List α) (x y : α) (q : List α) : (p ++ x :: q).set p.length y = p ++ y :: q := by
  rw [List.set_append_right _ _ (Nat.le_refl _)]
  simp
theorem swap_split (p : List Int) (x : Int) (m : List Int) (y : Int) (q : List Int) : swapAt (p ++ x :: (m ++ y :: q)) p.length (p.length + 1 + m.length) = p ++ y :: (m ++ x :: q) := by
  have e1 : (p ++ x :: (m ++ y :: q)).getD p.length 0 = x := by
    rw [List.getD_eq_getElem?_getD, List.getElem?_append_right (Nat.le_refl _)]; simp
  have e2 : (p ++ x :: (m ++ y :: q)).getD (p.length + 1 + m.length) 0 = y := by
    rw [List.getD_eq_getElem?_getD, List.getElem?_append_right (by omega)]
    have : p.length + 1 + m.length - p.length = m.length + 1 := by omega
    rw [this, List.getElem?_cons_succ, List.getElem?_append_right (Nat.le_refl _)]; simp
  unfold swapAt
  rw [e1, e2, set_mid]
  have e3 : p ++ y :: (m ++ y :: q) = (p ++ y :: m) ++ y :: q := by simp
  have e4 : p.length + 1 + m.length = (p ++ y :: m).length := by simp; omega
  rw [e3, e4, set_mid]
  simp
theorem swap_comm (l : List Int) {i j : Nat} (h : i ≠ j) : swapAt l i j = swapAt l j i := by
  unfold swapAt
  rw [List.set_comm _ _ h]
theorem getD_some {l : List Int} {i : Nat} (h : i < l.length) : l[i]? = some (l.getD i 0) := by
  rw [List.getD_eq_getElem?_getD, List.getElem?_eq_getElem h]; rfl
/-- everything of an exchange, the lesser place first -/
theorem swap_lt {l : List Int} {i j : Nat} (hij : i < j) (hj : j < l.length) : ∃ p m q, l = p ++ l.getD i 0 :: (m ++ l.getD j 0 :: q) ∧ swapAt l i j = p ++ l.getD j 0 :: (m ++ l.getD i 0 :: q) ∧ p.length = i ∧ p.length + 1 + m.length = j := by
  obtain ⟨p, m, q, e, n1, n2⟩ := split_two hij (getD_some (l := l) (Nat.lt_trans hij hj)) (getD_some hj)
  refine ⟨p, m, q, e, ?_, n1, n2⟩
  have h := swap_split p (l.getD i 0) m (l.getD j 0) q
  rw [← e, n2, n1] at h
  exact h
theorem swap_perm {l : List Int} {i j : Nat} (hi : i < l.length) (hj : j < l.length) (h : i ≠ j) : (swapAt l i j).Perm l := by
  have main : ∀ {i j : Nat}, i < j → j < l.length → (swapAt l i j).Perm l := fun {i j} hij hj => by
    obtain ⟨p, m, q, e, s, _, _⟩ := swap_lt hij hj
    rw [s]
    have r := perm_exch p (l.getD j 0) (l.getD i 0) m q
    rw [← e] at r
    exact r
  by_cases hij : i < j
  · exact main hij hj
  · rw [swap_comm l h]
    exact main (by omega) hi
theorem swap_inv {l : List Int} {i j : Nat} (nd : l.Nodup) (hi : i < l.length) (hj : j < l.length) (h : i ≠ j) : inv (swapAt l i j) % 2 = (inv l + 1) % 2 := by
  have main : ∀ {i j : Nat}, i < j → j < l.length → inv (swapAt l i j) % 2 = (inv l + 1) % 2 := fun {i j} hij hj => by
    obtain ⟨p, m, q, e, s, _, _⟩ := swap_lt hij hj
    have nd' := nd
    rw [e] at nd'
    have hd := (List.nodup_append.mp nd').2.1
    have hx := List.nodup_cons.mp hd
    have hd2 := (List.nodup_append.mp hx.2)
    have n1 : l.getD i 0 ∉ m := fun z => hx.1 (List.mem_append_left _ z)
    have n2 : l.getD j 0 ∉ m := fun z => hd2.2.2 _ z _ List.mem_cons_self rfl
    have n3 : l.getD j 0 ≠ l.getD i 0 := fun z => hx.1 (List.mem_append_right _ (by rw [← z]; exact List.mem_cons_self))
    have r := inv_exch (p := p) (q := q) n3 n2 n1
    rw [← e, ← s] at r
    exact r
  by_cases hij : i < j
  · exact main hij hj
  · rw [swap_comm l h]
    exact main (by omega) hi
theorem swap_len (l : List Int) (i j : Nat) : (swapAt l i j).length = l.length := by
  unfold swapAt
  rw [List.length_set, List.length_set]
theorem swap_get {l : List Int} {i j : Nat} (hi : i < l.length) (hj : j < l.length) (h : i ≠ j) (k : Nat) : (swapAt l i j).getD k 0 = if k = i then l.getD j 0 else if k = j then l.getD i 0 else l.getD k 0 := by
  unfold swapAt
  rw [List.getD_eq_getElem?_getD, List.getElem?_set]
  by_cases h1 : j = k
  · subst h1
    have : ¬ j = i := fun e => h e.symm
    rw [if_pos rfl, if_pos (by simpa using hj), if_neg this, if_pos rfl]; rfl
  · rw [if_neg h1, List.getElem?_set]
    by_cases h2 : i = k
    · subst h2
      rw [if_pos rfl, if_pos hi, if_pos rfl]; rfl
    · have h1' : ¬ k = j := fun e => h1 e.symm
      have h2' : ¬ k = i := fun e => h2 e.symm
      rw [if_neg h2, if_neg h2', if_neg h1', List.getD_eq_getElem?_getD]
end Sf
namespace Sf
/-! ### floors and standings -/
structure Fl (w h : Nat) : Prop where
  w1 : 1 ≤ w
  w4 : w ≤ 4
  h1 : 1 ≤ h
  h4 : h ≤ 4
  two : 2 ≤ w * h
theorem Fl.le {w h : Nat} (F : Fl w h) : w * h ≤ 16 := Nat.le_trans (Nat.mul_le_mul F.w4 F.h4) (by decide)
def iota (n : Nat) : List Int := (List.range n).map fun i : Nat => (i : Int)
theorem iota_len (n : Nat) : (iota n).length = n := by simp [iota]
theorem iota_nodup (n : Nat) : (iota n).Nodup := by
  unfold iota
  refine List.Pairwise.map _ (fun a b h => ?_) List.nodup_range
  omega
theorem iota_mem {n : Nat} {z : Int} : z ∈ iota n ↔ 0 ≤ z ∧ z < n := by
  unfold iota
  rw [List.mem_map]
  constructor
  · rintro ⟨a, h, rfl⟩
    have := List.mem_range.mp h
    omega
  · rintro ⟨h1, h2⟩
    exact ⟨z.toNat, List.mem_range.mpr (by omega), by omega⟩
theorem iota_sorted (n : Nat) : (iota n).Pairwise (· ≤ ·) := by
  unfold iota
  refine List.Pairwise.map (R := fun a b : Nat => a < b) _ (fun a b h => by omega) List.pairwise_lt_range
/-- a standing: all numbers from 0, each once -/
def Std (n : Nat) (st : List Int) : Prop := st.Perm (iota n)
theorem Std.len {n : Nat} {st : List Int} (S : Std n st) : st.length = n := S.length_eq.trans (iota_len n)
theorem Std.nodup {n : Nat} {st : List Int} (S : Std n st) : st.Nodup := S.nodup_iff.mpr (iota_nodup n)
theorem Std.mem {n : Nat} {st : List Int} (S : Std n st) {z : Int} : z ∈ st ↔ 0 ≤ z ∧ z < n := S.mem_iff.trans iota_mem
theorem Std.zero {n : Nat} {st : List Int} (S : Std n st) (h : 0 < n) : (0 : Int) ∈ st := S.mem.mpr ⟨by omega, by omega⟩
theorem Std.swap {n : Nat} {st : List Int} (S : Std n st) {i j : Nat} (hi : i < n) (hj : j < n) (h : i ≠ j) : Std n (swapAt st i j) := (swap_perm (by rw [S.len]; exact hi) (by rw [S.len]; exact hj) h).trans S
theorem sorted_same : ∀ {l m : List Int}, l.Perm m → l.Pairwise (· ≤ ·) → m.Pairwise (· ≤ ·) → l = m
  | [], m, h, _, _ => (List.nil_perm.mp h).symm
  | a :: l, [], h, _, _ => by simp at h
  | a :: l, b :: m, h, h1, h2 => by
    have ha := List.pairwise_cons.mp h1
    have hb := List.pairwise_cons.mp h2
    have e : a = b := by
      have m1 : b ∈ a :: l := h.mem_iff.mpr List.mem_cons_self
      have m2 : a ∈ b :: m := h.mem_iff.mp List.mem_cons_self
      rcases List.mem_cons.mp m1 with q | q
      · exact q.symm
      · rcases List.mem_cons.mp m2 with r | r
        · exact r
        · have := ha.1 b q
          have := hb.1 a r
          omega
    subst e
    rw [sorted_same ((List.perm_cons a).mp h) ha.2 hb.2]
theorem Std.sorted {n : Nat} {st out : List Int} (S : Std n st) (p : out.Perm st) (h : out.Pairwise (· ≤ ·)) : out = iota n := sorted_same (p.trans S) h (iota_sorted n)
/-- where the empty place is -/
def zat (st : List Int) : Nat := st.idxOf 0
theorem idx_first {st : List Int} {z : Int} (h : z ∈ st) : st.idxOf z < st.length ∧ st[st.idxOf z]? = some z ∧ ∀ m, m < st.idxOf z → st[m]? ≠ some z := by
  have hl := List.idxOf_lt_length_of_mem h
  refine ⟨hl, ?_, fun m hm e => ?_⟩
  · rw [List.getElem?_eq_getElem hl, List.getElem_idxOf hl]
  · have := List.not_of_lt_findIdx (p := (· == z)) (xs := st) (i := m) hm
    obtain ⟨h1, h2⟩ := List.getElem?_eq_some_iff.mp e
    rw [h2] at this
    simp at this
theorem nodup_get {st : List Int} (nd : st.Nodup) {i j : Nat} {x : Int} (a : st[i]? = some x) (b : st[j]? = some x) : i = j := by
  obtain ⟨h1, e1⟩ := List.getElem?_eq_some_iff.mp a
  obtain ⟨h2, e2⟩ := List.getElem?_eq_some_iff.mp b
  exact (List.getElem_inj nd).mp (e1.trans e2.symm)
theorem zat_of {st : List Int} (nd : st.Nodup) {i : Nat} (h : st[i]? = some 0) : zat st = i :=
  nodup_get nd (idx_first (List.mem_of_getElem? h)).2.1 h
section
variable {n : Nat} {st : List Int}
theorem Std.zat_lt (S : Std n st) (h : 0 < n) : zat st < n := by
  have := (idx_first (S.zero h)).1
  rw [S.len] at this
  exact this
theorem Std.zat_get (S : Std n st) (h : 0 < n) : st[zat st]? = some 0 := (idx_first (S.zero h)).2.1
theorem Std.zat_getD (S : Std n st) (h : 0 < n) : st.getD (zat st) 0 = 0 := by
  rw [List.getD_eq_getElem?_getD, S.zat_get h]; rfl
theorem Std.zat_swap (S : Std n st) (h : 0 < n) {t : Nat} (ht : t < n) (ne : zat st ≠ t) : zat (swapAt st (zat st) t) = t := by
  have hl := S.len
  have hz := S.zat_lt h
  refine zat_of (S.swap hz ht ne).nodup ?_
  have e := swap_get (l := st) (by omega : zat st < st.length) (by omega : t < st.length) ne t
  rw [if_neg (Ne.symm ne), if_pos rfl, S.zat_getD h] at e
  rw [getD_some (by rw [swap_len]; omega), e]
theorem Std.zat_exch (S : Std n st) (h : 0 < n) {i j : Nat} (hi : i < n) (hj : j < n) (ne : i ≠ j) (zi : zat st ≠ i) (zj : zat st ≠ j) : zat (swapAt st i j) = zat st := by
  have hl := S.len
  have hz := S.zat_lt h
  refine zat_of (S.swap hi hj ne).nodup ?_
  have e := swap_get (l := st) (by omega : i < st.length) (by omega : j < st.length) ne (zat st)
  rw [if_neg zi, if_neg zj, S.zat_getD h] at e
  rw [getD_some (by rw [swap_len]; omega), e]
end
/-! ### moves -/
inductive Dir where | up | down | left | right
  deriving DecidableEq
/-- the place of the tile that goes to the empty one at e -/
def tgt (w h e : Nat) : Dir → Option Nat
  | .up => if e / w + 1 < h then some (e % w + (e / w + 1) * w) else none
  | .down => if 1 ≤ e / w then some (e % w + (e / w - 1) * w) else none
  | .left => if e % w + 1 < w then some (e % w + 1 + e / w * w) else none
  | .right => if 1 ≤ e % w then some (e % w - 1 + e / w * w) else none
def step (w h : Nat) (st : List Int) (d : Dir) : Option (List Int) := (tgt w h (zat st) d).map fun t => swapAt st (zat st) t
theorem place_lt {w h x y : Nat} (hx : x < w) (hy : y < h) : x + y * w < w * h := by
  have h1 : (y + 1) * w ≤ h * w := Nat.mul_le_mul_right w hy
  have h2 : (y + 1) * w = y * w + w := Nat.succ_mul y w
  have h3 : h * w = w * h := Nat.mul_comm h w
  omega
theorem place_mod {w x y : Nat} (hx : x < w) : (x + y * w) % w = x := by
  rw [Nat.add_mul_mod_self_right, Nat.mod_eq_of_lt hx]
theorem place_div {w x y : Nat} (hx : x < w) : (x + y * w) / w = y := by
  rw [Nat.add_mul_div_right _ _ (by omega), Nat.div_eq_of_lt hx, Nat.zero_add]
theorem at_eq {w e : Nat} : e % w + e / w * w = e := Nat.mod_add_div' e w
/-- what a move's place is: on the floor, another one, and its x or its y off by one -/
theorem tgt_facts {w h e t : Nat} {d : Dir} (hw : 0 < w) (he : e < w * h) (ht : tgt w h e d = some t) : t < w * h ∧ e ≠ t ∧ (t % w + t / w) % 2 = (e % w + e / w + 1) % 2 ∧ (w = 1 ∨ h = 1 → t = e + 1 ∨ e = t + 1) := by
  have hx : e % w < w := Nat.mod_lt e hw
  have hy : e / w < h := Nat.div_lt_of_lt_mul he
  have hh : h = 1 → e / w = 0 := fun z => by subst z; rw [Nat.mul_one] at he; exact Nat.div_eq_of_lt he
  have hww : w = 1 → e % w = 0 := fun z => by subst z; exact Nat.mod_one e
  have ee := at_eq (w := w) (e := e)
  have main : ∀ {x y : Nat}, x < w → y < h → (x + y) % 2 = (e % w + e / w + 1) % 2 → t = x + y * w → (w = 1 ∨ h = 1 → t = e + 1 ∨ e = t + 1) → t < w * h ∧ e ≠ t ∧ (t % w + t / w) % 2 = (e % w + e / w + 1) % 2 ∧ (w = 1 ∨ h = 1 → t = e + 1 ∨ e = t + 1) := by
    intro x y h1 h2 h3 h4 h5
    have m := place_mod (y := y) h1
    have dd := place_div (y := y) h1
    rw [← h4] at m dd
    refine ⟨by rw [h4]; exact place_lt h1 h2, fun z => ?_, by rw [m, dd]; exact h3, h5⟩
    rw [← z] at m dd
    omega
  cases d with
  | up =>
    simp only [tgt] at ht
    by_cases hc : e / w + 1 < h
    · rw [if_pos hc] at ht
      have e1 := (Option.some.inj ht).symm
      refine main hx hc (by omega) e1 fun z => ?_
      rcases z with z | z
      · left
        have := hww z
        rw [z, Nat.mul_one] at e1 ee
        omega
      · omega
    · rw [if_neg hc] at ht
      cases ht
  | down =>
    simp only [tgt] at ht
    by_cases hc : 1 ≤ e / w
    · rw [if_pos hc] at ht
      have e1 := (Option.some.inj ht).symm
      refine main hx (by omega : e / w - 1 < h) (by omega) e1 fun z => ?_
      rcases z with z | z
      · right
        have := hww z
        rw [z, Nat.mul_one] at e1 ee
        rw [z] at hc
        omega
      · have := hh z
        omega
    · rw [if_neg hc] at ht
      cases ht
  | left =>
    simp only [tgt] at ht
    by_cases hc : e % w + 1 < w
    · rw [if_pos hc] at ht
      have e1 := (Option.some.inj ht).symm
      refine main hc hy (by omega) e1 fun z => ?_
      omega
    · rw [if_neg hc] at ht
      cases ht
  | right =>
    simp only [tgt] at ht
    by_cases hc : 1 ≤ e % w
    · rw [if_pos hc] at ht
      have e1 := (Option.some.inj ht).symm
      refine main (by omega : e % w - 1 < w) hy (by omega) e1 fun z => ?_
      omega
    · rw [if_neg hc] at ht
      cases ht
/-! ### the side -/
def sideM (w : Nat) (st : List Int) : Nat := (inv st + zat st % w + zat st / w) % 2
theorem Fl.pos {w h : Nat} (F : Fl w h) : 0 < w * h := by have := F.two; omega
theorem step_some {w h : Nat} {st st' : List Int} {d : Dir} (hs : step w h st d = some st') : ∃ t, tgt w h (zat st) d = some t ∧ st' = swapAt st (zat st) t := by
  unfold step at hs
  cases e : tgt w h (zat st) d with
  | none => rw [e] at hs; cases hs
  | some t => rw [e] at hs; exact ⟨t, rfl, (Option.some.inj hs).symm⟩
theorem step_std {w h : Nat} {st st' : List Int} {d : Dir} (F : Fl w h) (S : Std (w * h) st) (hs : step w h st d = some st') : Std (w * h) st' := by
  obtain ⟨t, ht, rfl⟩ := step_some hs
  have hz := S.zat_lt F.pos
  obtain ⟨a, b, _, _⟩ := tgt_facts F.w1 hz ht
  exact S.swap hz a b
theorem step_side {w h : Nat} {st st' : List Int} {d : Dir} (F : Fl w h) (S : Std (w * h) st) (hs : step w h st d = some st') : sideM w st' = sideM w st := by
  obtain ⟨t, ht, rfl⟩ := step_some hs
  have hz := S.zat_lt F.pos
  obtain ⟨a, b, c, _⟩ := tgt_facts F.w1 hz ht
  have hi := swap_inv S.nodup (by rw [S.len]; exact hz) (by rw [S.len]; exact a) b
  unfold sideM
  rw [S.zat_swap F.pos a b]
  omega
theorem exch_side {w h : Nat} {st : List Int} {i j : Nat} (F : Fl w h) (S : Std (w * h) st) (hi : i < w * h) (hj : j < w * h) (ne : i ≠ j) (zi : zat st ≠ i) (zj : zat st ≠ j) : sideM w (swapAt st i j) = 1 - sideM w st := by
  have hv := swap_inv S.nodup (by rw [S.len]; exact hi) (by rw [S.len]; exact hj) ne
  unfold sideM
  rw [S.zat_exch F.pos hi hj ne zi zj]
  omega
/-! ### the tiles in their order -/
def tiles (st : List Int) : List Int := st.filter fun z => decide (z ≠ 0)
theorem tiles_zero (p q : List Int) : tiles (p ++ 0 :: q) = tiles p ++ tiles q := by
  unfold tiles
  simp
theorem tiles_near (p q : List Int) (x : Int) : tiles (p ++ 0 :: x :: q) = tiles (p ++ x :: 0 :: q) := by
  unfold tiles
  simp [List.filter_append, List.filter_cons]
theorem step_tiles {w h : Nat} {st st' : List Int} {d : Dir} (F : Fl w h) (S : Std (w * h) st) (line : w = 1 ∨ h = 1) (hs : step w h st d = some st') : tiles st' = tiles st := by
  obtain ⟨t, ht, rfl⟩ := step_some hs
  have hz := S.zat_lt F.pos
  obtain ⟨a, b, _, c⟩ := tgt_facts F.w1 hz ht
  have z0 := S.zat_getD F.pos
  have hl := S.len
  rcases c line with c | c
  · obtain ⟨p, m, q, e, s, n1, n2⟩ := swap_lt (l := st) (i := zat st) (j := t) (by omega) (by omega)
    have : m = [] := List.length_eq_zero_iff.mp (by omega)
    subst this
    rw [s, z0]
    rw [z0] at e
    conv => rhs; rw [e]
    exact (tiles_near p q _).symm
  · obtain ⟨p, m, q, e, s, n1, n2⟩ := swap_lt (l := st) (i := t) (j := zat st) (by omega) (by omega)
    have : m = [] := List.length_eq_zero_iff.mp (by omega)
    subst this
    rw [swap_comm st b, s, z0]
    rw [z0] at e
    conv => rhs; rw [e]
    exact tiles_near p q _
theorem exch_tiles {st : List Int} {i j : Nat} (nd : st.Nodup) (hi : i < st.length) (hj : j < st.length) (ne : i ≠ j) (zi : st.getD i 0 ≠ 0) (zj : st.getD j 0 ≠ 0) : tiles (swapAt st i j) ≠ tiles st := by
  have main : ∀ {i j : Nat}, i < j → j < st.length → st.getD i 0 ≠ 0 → st.getD j 0 ≠ 0 → tiles (swapAt st i j) ≠ tiles st := fun {i j} hij hj zi zj h => by
    obtain ⟨p, m, q, e, s, n1, n2⟩ := swap_lt hij hj
    generalize st.getD i 0 = x at *
    generalize st.getD j 0 = y at *
    rw [s, e] at h
    unfold tiles at h
    rw [List.filter_append, List.filter_append] at h
    have h2 := List.append_cancel_left h
    rw [List.filter_cons_of_pos (by simpa using zj), List.filter_cons_of_pos (by simpa using zi)] at h2
    have exy : y = x := (List.cons.inj h2).1
    rw [e, exy] at nd
    exact (List.nodup_cons.mp (List.nodup_append.mp nd).2.1).1 (List.mem_append_right _ List.mem_cons_self)
  by_cases hij : i < j
  · exact main hij hj zi zj
  · rw [swap_comm st ne]
    exact main (by omega) hi zj zi
end Sf
namespace Sf
open PySem PySem.Spec PyProof.Rows L2
/-! ### lists of ints as values, as data -/
abbrev VI (ns : List Int) : List V := ns.map V.int
def dI (ns : List Int) : List PyData := ns.map PyData.int
theorem eqvAll_I : ∀ ns ms : List Int, PyData.eqvAll (dI ns) (dI ms) = decide (ns = ms)
  | [], [] => by simp [dI, PyData.eqvAll]
  | [], _ :: _ => by simp [dI, PyData.eqvAll]
  | _ :: _, [] => by simp [dI, PyData.eqvAll]
  | n :: ns, m :: ms => by
    have ih := eqvAll_I ns ms
    show PyData.eqvAll (.int n :: dI ns) (.int m :: dI ms) = _
    rw [PyData.eqvAll, ih]
    have e : PyData.eqv (.int n) (.int m) = decide (n = m) := by
      simp only [PyData.eqv]
      by_cases h : n = m <;> simp [h]
    rw [e]
    by_cases h : n = m <;> by_cases h' : ns = ms <;> simp [h, h']
theorem eqv_lst (ns ms : List Int) : PyData.eqv (.list (dI ns)) (.list (dI ms)) = decide (ns = ms) := by
  rw [PyData.eqv]; exact eqvAll_I ns ms
theorem eqv_tup (ns ms : List Int) : PyData.eqv (.tuple (dI ns)) (.tuple (dI ms)) = decide (ns = ms) := by
  rw [PyData.eqv]; exact eqvAll_I ns ms
theorem dI_lay : ∀ ns : List Int, PyData.canLayAll0 (dI ns) = true
  | [] => by simp [dI, PyData.canLayAll0]
  | n :: ns => by
    show PyData.canLayAll0 (.int n :: dI ns) = true
    rw [PyData.canLayAll0, dI_lay ns]; simp [PyData.canLay0]
theorem dI_depth : ∀ ns : List Int, PyData.depthAll (dI ns) ≤ 1
  | [] => by simp [dI, PyData.depthAll]
  | n :: ns => by
    show PyData.depthAll (.int n :: dI ns) ≤ 1
    have := dI_depth ns
    simp only [PyData.depthAll, PyData.depth]; omega
theorem shaped_lst (ns : List Int) : SeqAt.shaped (.list (dI ns)) = true := by
  have h := dI_depth ns
  show (PyData.canLay0 (.list (dI ns)) && decide (PyData.depth (.list (dI ns)) ≤ 64)) = true
  rw [Bool.and_eq_true]
  exact ⟨by simp only [PyData.canLay0]; exact dI_lay ns, decide_eq_true (by simp only [PyData.depth]; omega)⟩
theorem shaped_tup (ns : List Int) : SeqAt.shaped (.tuple (dI ns)) = true := by
  have h := dI_depth ns
  show (PyData.canLay0 (.tuple (dI ns)) && decide (PyData.depth (.tuple (dI ns)) ≤ 64)) = true
  rw [Bool.and_eq_true]
  exact ⟨by simp only [PyData.canLay0]; exact dI_lay ns, decide_eq_true (by simp only [PyData.depth]; omega)⟩
section
variable {K : PySem.W.Frag} {H H' : Hp} {a : Addr}
theorem dpAll_I : ∀ ns : List Int, DpAll K H (VI ns) (dI ns)
  | [] => .nil
  | n :: ns => .cons (.int n) (dpAll_I ns)
theorem dp_lst {ns : List Int} (h : SqL K H a (VI ns)) : Dp K H (.ref a) (.list (dI ns)) := .lst h (dpAll_I ns)
theorem dp_tup {ns : List Int} (h : SqT K H a (VI ns)) : Dp K H (.ref a) (.tuple (dI ns)) := .tup h (dpAll_I ns)
theorem sm_tup {xs : List V} (e : Same H H') (h : SqT K H a xs) : SqT K H' a xs := by
  rcases h with (h | ⟨o, h⟩) | h
  · exact .inl (.inl (e _ _ h))
  · exact .inl (.inr ⟨o, e _ _ h⟩)
  · exact .inr h
theorem same_upd {p : Addr} {o : HO} (n : H p = none) : Same H (upd H p o) := fun b u e => by rw [upd_ne (ne_of_none e n)]; exact e
theorem sm_upd {p : Addr} {o : HO} (s : Same H H') (n : H' p = none) : Same H (upd H' p o) := s.trans (same_upd n)
theorem sqt_upd {p : Addr} {xs : List V} : SqT K (upd H p (.tup xs)) p xs := SqT.of upd_same
theorem sql_upd {p : Addr} {xs : List V} : SqL K (upd H p (.lst xs)) p xs := SqL.of upd_same
end
theorem rgV_iota (n : Nat) : rgV 0 (n : Int) = VI (iota n) := by
  unfold rgV iota VI
  rw [List.map_map]
  have : ((n : Int) - 0).toNat = n := by omega
  rw [this]
  exact List.map_congr_left fun i _ => by simp
/-! ### what is handed in as a floor, as a standing -/
abbrev Kn (K : PySem.W.Frag) (H : Hp) (v : V) : Prop := ∃ T, TyB K H v T
theorem tyb_int {K : PySem.W.Frag} {H : Hp} {v : V} {T : String} (t : TyB K H v T) (e : T = "int") : ∃ i, v = .int i := by
  cases t with
  | int i => exact ⟨i, rfl⟩
  | _ => exact absurd e (by decide)
def okSide (v : V) : Prop := ∃ n : Nat, v = .int n ∧ 1 ≤ n ∧ n ≤ 4
inductive FlV (K : PySem.W.Frag) (H : Hp) : V → Option (Nat × Nat) → Prop
  | good {a : Addr} {w h : Nat} : SqT K H a [.int w, .int h] → Fl w h → FlV K H (.ref a) (some (w, h))
  | kind {v : V} {T : String} : TyB K H v T → T ≠ "tuple" → FlV K H v none
  | size {a : Addr} {xs : List V} : SqT K H a xs → xs.length ≠ 2 → FlV K H (.ref a) none
  | side {a : Addr} {x y : V} : SqT K H a [x, y] → Kn K H x → Kn K H y → (¬ ∃ w h : Nat, x = .int w ∧ y = .int h ∧ Fl w h) → FlV K H (.ref a) none
inductive StV (K : PySem.W.Frag) (H : Hp) (n : Nat) : V → Option (List Int) → Prop
  | good {a : Addr} {st : List Int} : TD H a (VI st) → Std n st → StV K H n (.ref a) (some st)
  | kind {v : V} {T : String} : TyB K H v T → T ≠ "tuple" → StV K H n v none
  | size {a : Addr} {xs : List V} : SqT K H a xs → xs.length ≠ n → StV K H n (.ref a) none
  | items {a : Addr} {xs : List V} : SqT K H a xs → xs.length = n → (∀ x ∈ xs, Kn K H x) → (¬ ∃ st : List Int, xs = VI st ∧ Std n st) → StV K H n (.ref a) none
def spNum (K : PySem.W.Frag) : Sp := fun vs H Q _ => ∃ v T, vs = [v] ∧ TyB K H v T ∧ Q (.bl (decide (T = "int"))) H
def spCount (K : PySem.W.Frag) : Sp := fun vs H Q _ => ∃ (a : Addr) (w h : Nat), vs = [.ref a] ∧ SqT K H a [.int w, .int h] ∧ w ≤ 4 ∧ h ≤ 4 ∧ Q (.int ((w * h : Nat) : Int)) H
def spNeedF (K : PySem.W.Frag) (CF : Addr) : Sp := fun vs H Q E => ∃ v o, vs = [v] ∧ FlV K H v o ∧ (o.isSome → Q .non H) ∧ (o = none → E (.ref CF) none H)
def spNeedS (K : PySem.W.Frag) (CF CS : Addr) : Sp := fun vs H Q E => ∃ f v o, vs = [f, v] ∧ FlV K H f o ∧ (o = none → E (.ref CF) none H) ∧
  ∀ w h, o = some (w, h) → ∃ o2, StV K H (w * h) v o2 ∧ (o2.isSome → ∀ H', Same H H' → Q .non H') ∧ (o2 = none → ∀ H', Same H H' → E (.ref CS) none H')
end Sf
namespace Sf
open PySem PySem.Spec PyProof.Rows L2
/-- a def as it stands behind the top -/
structure Df (K : PySem.W.Frag) (mg : Str → Option Value) (x : Str) (st : Stmt) (ps : List Str) where
  f : Addr
  fd : FuncData
  F : Fun K x x st f fd
  b : Binds K fd ps []
  g : mg x = some (.ref f)
abbrev Df.k {K : PySem.W.Frag} {mg : Str → Option Value} {x : Str} {st : Stmt} {ps : List Str} (D : Df K mg x st ps) : PySem.W.keepIn K (.ref D.f) = true := D.F.kp
abbrev FnD (P : Program) (w : World) {K : PySem.W.Frag} {mg : Str → Option Value} (base : Heap) (CX : CXT) (k : Nat) {x : Str} {st : Stmt} {ps : List Str} (D : Df K mg x st ps) (sp : Sp) : Prop := FnOk P w K mg base CX k D.f D.fd ps sp
/-- an exception class of the program's own, over ValueError, without methods -/
structure Ec (K : PySem.W.Frag) (mg : Str → Option Value) (x : Str) where
  C : Addr
  g : mg x = some (.ref C)
  xi : PySem.W.excIn K C [.type "ValueError", .type "Exception", .type "BaseException", .type "object"] "ValueError.__new__" = true
  k : PySem.W.keepIn K (.ref C) = true
  sb : PySem.W.subIn K (.ref C) (.type "BaseException") = some true
  ty : PySem.W.typeIn K (.ref C) = some (.type "type")
end Sf
namespace Sf
open PySem PySem.Spec PyProof.Rows L2
theorem iteDT {c A B : Prop} [Decidable c] (hc : c) (h : A) : if decide c = true then A else B := by
  rw [decide_eq_true hc]
  exact iteT h
theorem iteDF {c A B : Prop} [Decidable c] (hc : ¬ c) (h : B) : if decide c = true then A else B := by
  rw [decide_eq_false hc]
  exact iteF h
theorem iteNT {c A B : Prop} [Decidable c] (hc : ¬ c) (h : A) : if (!decide c) = true then A else B := by
  rw [decide_eq_false hc]
  exact iteT h
theorem iteNF {c A B : Prop} [Decidable c] (hc : c) (h : B) : if (!decide c) = true then A else B := iteNS hc h
theorem iteN2 {b : Bool} {A B : Prop} (h1 : b = false → A) (h2 : b = true → B) : if (!b) = true then A else B := by
  cases b
  · exact iteT (h1 rfl)
  · exact iteF (h2 rfl)
section
variable {X : Cx} {CX : CXT} {k : Nat} {x : Str} {st : Stmt} {ps : List Str} {sp : Sp} {E : XK} {p pos : Pos} {e : Expr} {es : List Expr} {t : TA}
/-- a def's call -/
theorem pe_d (D : Df X.K X.mg x st ps) (G : FnOk X.prog X.w X.K X.mg X.base CX k D.f D.fd ps sp) (hr : Room k X.A) (hx : Passes CX X E) (ha : PA X (e :: es) t) (hg : Gl X x := by rfl)
    (hdb : (x == ("__debug__" : Str)) = false := by decide) (he : starEach (e :: es) X.env = (false, eval e X.env) :: starEach es X.env := by rfl) (hpl : (backTo pos (starEach es X.env)).any (·.1) = false := by rfl) :
    PE X (.Call (.Name x p) (e :: es) [] pos) (tCall sp [] E t) := pe_call G hr hg D.g D.k D.b .nil hx ha hdb he hpl
end
/-- raise X('..') -/
theorem ps_rs {X : Cx} {x m : Str} {W : WX} {j : Nat} {p p2 pos pos2 : Pos} (D : Ec X.K X.mg x) (hc : X.calm = true) (tk : Takes X W) (hg : Gl X x := by rfl) (hdb : (x == ("__debug__" : Str)) = false := by decide) :
    PS X (.Raise (some (.Call (.Name x p) [.Constant (.str m) j p2] [] pos)) none pos2) (fun _ σ H => W (.ref D.C) none σ H) :=
  ps_raise hc tk (pmk_own PySem.F.excBase_ValueError D.xi D.g D.k (raises_own D.sb D.ty) hg hdb)
section
variable {X : Cx} {p pos : Pos} {e : Expr} {es : List Expr} {t : TA} {id T : String} {r : List V → Hp → VK → Prop} {x : Str}
/-- built-in functions and types by their names -/
theorem pe_b (hc : CallR X (.builtin id) r) (hm : X.mg x = none) (ha : PA X (e :: es) t) (hv : bootBuiltins x = some (.builtin id) := by decide +kernel) (hg : Gl X x := by rfl) (hn : x ≠ "__name__" := by decide) (hdb : (x == ("__debug__" : Str)) = false := by decide)
    (he : starEach (e :: es) X.env = (false, eval e X.env) :: starEach es X.env := by rfl) (hpl : (backTo pos (starEach es X.env)).any (·.1) = false := by rfl) : PE X (.Call (.Name x p) (e :: es) [] pos) (tCB r t) := pe_callB hc hg hm hv ha hn hdb he hpl
theorem pe_t (hc : CallR X (.type T) r) (hm : X.mg x = none) (ha : PA X (e :: es) t) (hv : bootBuiltins x = some (.type T) := by decide +kernel) (hg : Gl X x := by rfl) (hn : x ≠ "__name__" := by decide) (hdb : (x == ("__debug__" : Str)) = false := by decide)
    (he : starEach (e :: es) X.env = (false, eval e X.env) :: starEach es X.env := by rfl) (hpl : (backTo pos (starEach es X.env)).any (·.1) = false := by rfl) : PE X (.Call (.Name x p) (e :: es) [] pos) (tCB r t) := pe_callTy hc hg hm hv ha hn hdb he hpl
theorem pe_ty (hm : X.mg x = none) (hv : bootBuiltins x = some (.type T) := by decide +kernel) (hg : Gl X x := by rfl) (hn : x ≠ "__name__" := by decide) (hd : (x == ("__debug__" : Str)) = false := by decide) : PE X (.Name x pos) (tC (.ty T)) := pe_bltn hg hm hv rfl hn hd
theorem pa1 {a : Expr} {ta : TE} (ha : PE X a ta) (hs : starEach (a :: []) X.env = (false, eval a X.env) :: starEach [] X.env := by rfl) : PA X [a] (tCons ta tNil) := pa_cons ha pa_nil hs
/-- a module's int -/
theorem pe_k {n : Int} {tk : Tok} (hm : X.mg x = some (.int n tk)) (hg : Gl X x := by rfl) (hd : (x == ("__debug__" : Str)) = false := by decide) : PE X (.Name x pos) (tC (.int n)) := pe_glob hg hm ⟨tk, rfl⟩ hd
end
end Sf
namespace Sf
open PySem PySem.Spec PyProof.Rows L2
theorem ints_of : ∀ {xs : List V}, (∀ (j : Nat) (z : V), xs[j]? = some z → ∃ n : Int, z = .int n) → ∃ ns : List Int, xs = VI ns
  | [], _ => ⟨[], rfl⟩
  | x :: xs, h => by
    obtain ⟨n, rfl⟩ := h 0 x rfl
    obtain ⟨ns, e⟩ := ints_of (xs := xs) fun j z hz => h (j + 1) z (by simpa using hz)
    exact ⟨n :: ns, by rw [e]; rfl⟩
theorem VI_inj : ∀ {a b : List Int}, VI a = VI b → a = b
  | [], [], _ => rfl
  | [], _ :: _, h => by cases h
  | _ :: _, [], h => by cases h
  | x :: xs, y :: ys, h => by
    have h' : V.int x :: VI xs = V.int y :: VI ys := h
    injection h' with h1 h2
    injection h1 with h1
    rw [h1, VI_inj h2]
theorem VI_get {ns : List Int} {j : Nat} {z : V} (h : (VI ns)[j]? = some z) : ∃ n, ns[j]? = some n ∧ z = .int n := by
  rw [List.getElem?_map] at h
  cases e : ns[j]? with
  | none => rw [e] at h; cases h
  | some n => rw [e] at h; exact ⟨n, rfl, (Option.some.inj h).symm⟩
theorem cut_drop (xs : List V) (k : Nat) (hk : k ≤ xs.length) : cutV xs (some (k : Int)) none = xs.drop k := by
  unfold cutV
  rw [HT.sIx_nat, HT.sIx_none, Nat.min_eq_left hk, List.take_of_length_le (by rw [List.length_drop]; omega)]
theorem VI_drop (ns : List Int) (k : Nat) : (VI ns).drop k = VI (ns.drop k) := (List.map_drop).symm
theorem cnt_take {z : Int} {l : List Int} {k : Nat} {y : Int} (h : l[k]? = some y) : cnt z (l.take (k + 1)) = cnt z (l.take k) + if y < z then 1 else 0 := by
  rw [List.take_succ, h, cnt_append]
  show _ + cnt z [y] = _
  rw [cnt_cons]
  show _ + (0 + _) = _
  omega
theorem inv_drop {l : List Int} {i : Nat} {z : Int} (h : l[i]? = some z) : inv (l.drop i) = cnt z (l.drop (i + 1)) + inv (l.drop (i + 1)) := by
  obtain ⟨hi, e⟩ := List.getElem?_eq_some_iff.mp h
  rw [List.drop_eq_getElem_cons hi, e]
  rfl
theorem tiles_take {l : List Int} {i : Nat} {z : Int} (h : l[i]? = some z) : tiles (l.take (i + 1)) = if z = 0 then tiles (l.take i) else tiles (l.take i) ++ [z] := by
  unfold tiles
  rw [List.take_succ, h, List.filter_append]
  by_cases e : z = 0
  · rw [if_pos e]
    subst e
    show _ ++ [(0 : Int)].filter _ = _
    simp
  · rw [if_neg e]
    show _ ++ [z].filter _ = _
    rw [List.filter_cons_of_pos (by simpa using e)]
    rfl
theorem tiles_len (l : List Int) : (tiles l).length ≤ l.length := List.length_filter_le _ _
abbrev nV (n : Nat) : V := .int (n : Int)
def spCR (K : PySem.W.Frag) : Sp := fun vs H Q _ => ∃ (a : Addr) (p w h : Nat), vs = [.ref a, nV p] ∧ SqT K H a [nV w, nV h] ∧ Fl w h ∧ ∀ t, H t = none → Q (.ref t) (upd H t (.tup [nV (p % w), nV (p / w)]))
def spLine (K : PySem.W.Frag) : Sp := fun vs H Q _ => ∃ (a : Addr) (w h : Nat), vs = [.ref a] ∧ SqT K H a [nV w, nV h] ∧ Q (.bl (decide (w = 1 ∨ h = 1))) H
def spFalls (K : PySem.W.Frag) : Sp := fun vs H Q _ => ∃ (a : Addr) (st : List Int), vs = [.ref a] ∧ SqT K H a (VI st) ∧ ∀ H', Same H H' → Q (nV (inv st)) H'
def spTiles (K : PySem.W.Frag) : Sp := fun vs H Q _ => ∃ (a : Addr) (st : List Int), vs = [.ref a] ∧ SqT K H a (VI st) ∧ st.length ≤ 16 ∧ ∀ H' t, Same H H' → H' t = some (.lst (VI (tiles st))) → Q (.ref t) H'
/-- side, is_joined, how_many: of good ones, or the refusals in their order -/
def spSide (K : PySem.W.Frag) (CF CS : Addr) : Sp := fun vs H Q E => ∃ f v o, vs = [f, v] ∧ FlV K H f o ∧ (o = none → E (.ref CF) none H) ∧
  ∀ w h, o = some (w, h) → ∃ o2, StV K H (w * h) v o2 ∧ (∀ st, o2 = some st → ∀ H', Same H H' → Q (nV (sideM w st)) H') ∧ (o2 = none → ∀ H', Same H H' → E (.ref CS) none H')
/-- are two standings joined, by the program's own test -/
def joinM (w h : Nat) (st st' : List Int) : Bool := if w = 1 ∨ h = 1 then decide (tiles st = tiles st') else decide (sideM w st = sideM w st')
def spJoin (K : PySem.W.Frag) (CF CS : Addr) : Sp := fun vs H Q E => ∃ f v v' o, vs = [f, v, v'] ∧ FlV K H f o ∧ (o = none → E (.ref CF) none H) ∧
  ∀ w h, o = some (w, h) → ∃ o2, StV K H (w * h) v o2 ∧ (o2 = none → ∀ H', Same H H' → E (.ref CS) none H') ∧
    ∀ st, o2 = some st → ∃ o3, StV K H (w * h) v' o3 ∧ (o3 = none → ∀ H', Same H H' → E (.ref CS) none H') ∧ (∀ st', o3 = some st' → ∀ H', Same H H' → Q (.bl (joinM w h st st')) H')
section
variable {K : PySem.W.Frag} {H H' : Hp}
theorem sm_ty {v : V} {T : String} (s : Same H H') (t : TyB K H v T) : TyB K H' v T := by
  cases t with
  | non => exact .non
  | bl b => exact .bl b
  | int i => exact .int i
  | str x => exact .str x
  | byt b => exact .byt b
  | lst h => exact .lst (s.seq h)
  | tup h => exact .tup (sm_tup s h)
  | dK h => exact .dK (s _ _ h)
theorem sm_fl {v : V} {o : Option (Nat × Nat)} (s : Same H H') (t : FlV K H v o) : FlV K H' v o := by
  cases t with
  | good h F => exact .good (sm_tup s h) F
  | kind t n => exact .kind (sm_ty s t) n
  | size h n => exact .size (sm_tup s h) n
  | side h kx ky n =>
    obtain ⟨tx, kx⟩ := kx
    obtain ⟨ty, ky⟩ := ky
    exact .side (sm_tup s h) ⟨tx, sm_ty s kx⟩ ⟨ty, sm_ty s ky⟩ n
theorem sm_st {n : Nat} {v : V} {o : Option (List Int)} (s : Same H H') (t : StV K H n v o) : StV K H' n v o := by
  cases t with
  | good h S => exact .good (h.same s) S
  | kind t n => exact .kind (sm_ty s t) n
  | size h n => exact .size (sm_tup s h) n
  | items h e k n => exact .items (sm_tup s h) e (fun x hx => (k x hx).imp fun _ q => sm_ty s q) n
end
end Sf
namespace Sf
open PySem PySem.Spec PyProof.Rows L2
/-! ### the promises of a law's own helpers -/
def spDraw (K : PySem.W.Frag) : Sp := fun vs H Q _ => ∃ (a : Addr) (ns : List Int) (k : Int), vs = [.ref a, .int k] ∧ SqL K H a (VI ns) ∧ 0 ≤ k ∧ k ≤ 100000 ∧ ∀ (n : Nat) (H' : Hp), n < 2 ^ 30 → Same H H' → Q (nV n) H'
def spWhole : Sp := fun vs H Q _ => ∃ i : Int, vs = [.int i] ∧ Q (.bl true) H
def spFloor : Sp := fun vs H Q _ => ∃ n : Nat, vs = [nV n] ∧ ∀ (t : Addr) (w h : Nat) (H' : Hp), H t = none → Fl w h → Same H H' → H' t = some (.tup [nV w, nV h]) → Q (.ref t) H'
def spStanding (K : PySem.W.Frag) : Sp := fun vs H Q _ => ∃ (a f : Addr) (ns : List Int) (k : Int) (w h : Nat), vs = [.ref a, .int k, .ref f] ∧ SqL K H a (VI ns) ∧ 0 ≤ k ∧ k ≤ 10000 ∧ SqT K H f [nV w, nV h] ∧ Fl w h ∧
  ∀ (p : Addr) (st : List Int) (H' : Hp), H p = none → Std (w * h) st → Same H H' → TD H' p (VI st) → Q (.ref p) H'
def dS : Dir → Str
  | .up => "up"
  | .down => "down"
  | .left => "left"
  | .right => "right"
def spMoved (K : PySem.W.Frag) : Sp := fun vs H Q _ => ∃ (f s : Addr) (d : Dir) (w h : Nat) (st : List Int), vs = [.ref f, .ref s, .str (dS d)] ∧ SqT K H f [nV w, nV h] ∧ Fl w h ∧ TD H s (VI st) ∧ Std (w * h) st ∧
  (step w h st d = none → ∀ H', Same H H' → Q .non H') ∧ ∀ st', step w h st d = some st' → ∀ (p : Addr) (H' : Hp), H p = none → Same H H' → TD H' p (VI st') → Q (.ref p) H'
def dirs : List Dir := [.up, .down, .left, .right]
def wordsM (w h : Nat) (st : List Int) : List Dir := dirs.filter fun d => (step w h st d).isSome
def wV (ds : List Dir) : List V := ds.map fun d => .str (dS d)
def spWords (K : PySem.W.Frag) : Sp := fun vs H Q _ => ∃ (f s : Addr) (w h : Nat) (st : List Int), vs = [.ref f, .ref s] ∧ SqT K H f [nV w, nV h] ∧ Fl w h ∧ TD H s (VI st) ∧ Std (w * h) st ∧
  ∀ (p : Addr) (H' : Hp), H p = none → Same H H' → H' p = some (.lst (wV (wordsM w h st))) → Q (.ref p) H'
/-- draws -/
theorem draw_nat {c k : Int} (h0 : 0 ≤ k) (h1 : k ≤ 100000) : let n := c % 1000000007 + 7919 * k + 13
    (-(2 ^ 64) < n ∧ n < 2 ^ 64) ∧ (-(2 ^ 64) < n * n % 1000000007 ∧ n * n % 1000000007 < 2 ^ 64) ∧ ∃ m : Nat, n * n % 1000000007 * n % 998244353 / 11 = (m : Int) ∧ m < 2 ^ 30 := by
  intro n
  have hc1 : 0 ≤ c % 1000000007 := Int.emod_nonneg _ (by decide)
  have hc2 : c % 1000000007 < 1000000007 := Int.emod_lt_of_pos _ (by decide)
  have hn : n = c % 1000000007 + 7919 * k + 13 := rfl
  have hr1 : 0 ≤ n * n % 1000000007 := Int.emod_nonneg _ (by decide)
  have hr2 : n * n % 1000000007 < 1000000007 := Int.emod_lt_of_pos _ (by decide)
  generalize n * n % 1000000007 = r at hr1 hr2 ⊢
  have hs1 : 0 ≤ r * n % 998244353 := Int.emod_nonneg _ (by decide)
  have hs2 : r * n % 998244353 < 998244353 := Int.emod_lt_of_pos _ (by decide)
  generalize r * n % 998244353 = q at hs1 hs2 ⊢
  refine ⟨⟨by omega, by omega⟩, ⟨by omega, by omega⟩, (q / 11).toNat, by omega, by omega⟩
end Sf
namespace Sf
open PySem PySem.Spec PyProof.Rows L2
/-! ### rows of pairs -/
/-- the rows so far: at each place j a tuple of some int and j -/
def RowsAt (H : Hp) (ts : List Addr) : Prop := ∀ (j : Nat) (t : Addr), ts[j]? = some t → ∃ d : Int, H t = some (.tup [.int d, nV j])
theorem RowsAt.same {H H' : Hp} {ts : List Addr} (s : Same H H') (r : RowsAt H ts) : RowsAt H' ts := fun j t e => let ⟨d, h⟩ := r j t e; ⟨d, s _ _ h⟩
theorem RowsAt.more {H : Hp} {ts : List Addr} {t : Addr} {d : Int} (r : RowsAt H ts) (h : H t = some (.tup [.int d, nV ts.length])) : RowsAt H (ts ++ [t]) := fun j u e => by
  by_cases hj : j < ts.length
  · rw [List.getElem?_append_left hj] at e
    exact r j u e
  · rw [List.getElem?_append_right (by omega)] at e
    have : j = ts.length := by
      have := (List.getElem?_eq_some_iff.mp e).1
      simp at this
      omega
    subst this
    simp at e
    subst e
    exact ⟨d, h⟩
/-- the second of a row -/
def sndOf (H : Hp) (v : V) : Int := match v with
  | .ref t => (match H t with | some (.tup [_, .int z]) => z | _ => 0)
  | _ => 0
theorem sndOf_at {H : Hp} {t : Addr} {d z : Int} (h : H t = some (.tup [.int d, .int z])) : sndOf H (.ref t) = z := by
  show (match H t with | some (.tup [_, .int z]) => z | _ => 0) = z
  rw [h]
theorem rows_iota {H : Hp} {ts : List Addr} (r : RowsAt H ts) : (ts.map V.ref).map (sndOf H) = iota ts.length := by
  refine List.ext_getElem? fun j => ?_
  unfold iota
  rw [List.map_map, List.getElem?_map, List.getElem?_map]
  by_cases hj : j < ts.length
  · obtain ⟨d, h⟩ := r j _ (List.getElem?_eq_getElem hj)
    rw [List.getElem?_eq_getElem hj, List.getElem?_range hj]
    show some (sndOf H (.ref ts[j])) = some (j : Int)
    rw [sndOf_at h]
  · rw [List.getElem?_eq_none (by omega), List.getElem?_eq_none (by simp; omega)]
    rfl
theorem take_map_more {α β : Type} {f : α → β} {l : List α} {i : Nat} {x : α} (h : l[i]? = some x) : (l.take (i + 1)).map f = (l.take i).map f ++ [f x] := by
  rw [List.take_succ, h, List.map_append]
  rfl
end Sf
namespace Sf
open PySem PySem.Spec PyProof.Rows L2
theorem ixT {X : Cx} {K : PySem.W.Frag} (h : X.K = K) : IxR X (rIxT K) := h ▸ ix_tup
theorem ixL {X : Cx} {K : PySem.W.Frag} (h : X.K = K) : IxR X (rIxL K) := h ▸ ix_list
end Sf
namespace Sf
open PySem PySem.Spec PyProof.Rows L2
/-- column and row of the place that a move means -/
def crd (w e : Nat) : Dir → Int × Int
  | .up => ((e % w : Nat), (e / w : Nat) + 1)
  | .down => ((e % w : Nat), (e / w : Nat) - 1)
  | .left => ((e % w : Nat) + 1, (e / w : Nat))
  | .right => ((e % w : Nat) - 1, (e / w : Nat))
theorem tgt_out {w h e : Nat} {d : Dir} (hw : 0 < w) (he : e < w * h) (o : (crd w e d).1 < 0 ∨ (crd w e d).2 < 0 ∨ (w : Int) ≤ (crd w e d).1 ∨ (h : Int) ≤ (crd w e d).2) : tgt w h e d = none := by
  have hx : e % w < w := Nat.mod_lt e hw
  have hy : e / w < h := Nat.div_lt_of_lt_mul he
  cases d <;> simp only [crd] at o <;> simp only [tgt] <;> generalize e % w = X at * <;> generalize e / w = Y at * <;> exact if_neg (by omega)
theorem tgt_in {w h e : Nat} {d : Dir} (hw : 0 < w) (he : e < w * h) (o : ¬ ((crd w e d).1 < 0 ∨ (crd w e d).2 < 0 ∨ (w : Int) ≤ (crd w e d).1 ∨ (h : Int) ≤ (crd w e d).2)) : ∃ t : Nat, tgt w h e d = some t ∧ (crd w e d).1 + (crd w e d).2 * w = (t : Int) := by
  have hx : e % w < w := Nat.mod_lt e hw
  have hy : e / w < h := Nat.div_lt_of_lt_mul he
  have key : ∀ {x y : Nat} {a b : Int}, a = (x : Int) → b = (y : Int) → a + b * w = ((x + y * w : Nat) : Int) := fun {x y a b} h1 h2 => by
    rw [h1, h2, Int.natCast_add, Int.natCast_mul]
  cases d <;> simp only [crd] at o ⊢ <;> simp only [tgt] <;> generalize e % w = X at * <;> generalize e / w = Y at *
  · exact ⟨_, if_pos (by omega), key rfl (by omega)⟩
  · exact ⟨_, if_pos (by omega), key rfl (by omega)⟩
  · exact ⟨_, if_pos (by omega), key (by omega) rfl⟩
  · exact ⟨_, if_pos (by omega), key (by omega) rfl⟩
theorem crd_by {w e : Nat} {d : Dir} (he : e < 100) : -(2 ^ 64) < (crd w e d).2 ∧ (crd w e d).2 < 2 ^ 64 := by
  have : e / w ≤ e := Nat.div_le_self _ _
  cases d <;> simp only [crd] <;> generalize e / w = Y at * <;> omega
theorem ixN_at {n t : Nat} {k : Int} (e : k = (t : Int)) (h : t < n) : ixN n k = some t := by
  subst e
  unfold ixN
  rw [if_pos (by omega), if_pos (by omega)]
  rfl
theorem VI_set (l : List Int) (t : Nat) (v : Int) : (VI l).set t (.int v) = VI (l.set t v) := (List.map_set).symm
theorem map_zero {n : Nat} {st : List Int} (S : Std n st) (h : 0 < n) (v : Int) : (st.map fun z => if z = 0 then v else z) = st.set (zat st) v := by
  refine List.ext_getElem? fun j => ?_
  rw [List.getElem?_map, List.getElem?_set]
  have hz := S.zat_get h
  by_cases hj : zat st = j
  · subst hj
    rw [if_pos rfl, if_pos (List.getElem?_eq_some_iff.mp hz).1, hz]
    rfl
  · rw [if_neg hj]
    cases e : st[j]? with
    | none => rfl
    | some z =>
      have : z ≠ 0 := fun q => hj (nodup_get S.nodup hz (by rw [e, q]))
      show some (if z = 0 then v else z) = some z
      rw [if_neg this]
theorem swap_zero {n : Nat} {st : List Int} (S : Std n st) (h : 0 < n) (t : Nat) : ((st.map fun z => if z = 0 then st.getD t 0 else z).set t 0) = swapAt st (zat st) t := by
  rw [map_zero S h]
  unfold swapAt
  rw [S.zat_getD h]
theorem dS_eq (d d' : Dir) : decide (V.str (dS d) = V.str (dS d')) = decide (d = d') := by
  cases d <;> cases d' <;> decide +kernel
end Sf
namespace Sf
open PySem PySem.Spec PyProof.Rows L2
theorem inv_snoc (a : Int) : ∀ l : List Int, inv (l ++ [a]) = inv l + l.countP fun b => decide (a < b)
  | [] => by simp [inv, cnt]
  | c :: l => by
    have ih := inv_snoc a l
    have e : cnt c (l ++ [a]) = cnt c l + (if a < c then 1 else 0) := by
      rw [cnt_append, cnt_cons]
      show _ + (0 + _) = _
      omega
    show cnt c (l ++ [a]) + inv (l ++ [a]) = cnt c l + inv l + _
    rw [e, ih, List.countP_cons]
    by_cases h : a < c <;> simp [h] <;> omega
/-- so many ahead of the place p are greater -/
def ahead (l : List Int) (z : Int) : Nat := l.countP fun b => decide (z < b)
theorem ahead_take {z : Int} {l : List Int} {k : Nat} {y : Int} (h : l[k]? = some y) : ahead (l.take (k + 1)) z = ahead (l.take k) z + if z < y then 1 else 0 := by
  unfold ahead
  rw [List.take_succ, h, List.countP_append]
  show _ + List.countP _ [y] = _
  rw [List.countP_cons]
  by_cases e : z < y <;> simp [e]
theorem inv_take {l : List Int} {p : Nat} {z : Int} (h : l[p]? = some z) : inv (l.take (p + 1)) = inv (l.take p) + ahead (l.take p) z := by
  rw [List.take_succ, h]
  exact inv_snoc z _
/-- the places of tiles among the first i -/
def plN (st : List Int) (i : Nat) : List Nat := (List.range i).filter fun j => decide (0 < st.getD j 0)
def plV (st : List Int) (i : Nat) : List V := (plN st i).map nV
theorem plV_more (st : List Int) (i : Nat) : plV st (i + 1) = if 0 < st.getD i 0 then plV st i ++ [nV i] else plV st i := by
  unfold plV plN
  rw [List.range_succ, List.filter_append]
  by_cases h : 0 < st.getD i 0
  · rw [if_pos h, List.filter_cons_of_pos (by simpa using h), List.map_append]
    rfl
  · rw [if_neg h, List.filter_cons_of_neg (by simpa using h)]
    simp
theorem plN_nodup (st : List Int) (i : Nat) : (plN st i).Nodup := List.Pairwise.filter _ List.nodup_range
theorem plN_mem {st : List Int} {i j : Nat} (h : j ∈ plN st i) : j < i ∧ 0 < st.getD j 0 := by
  unfold plN at h
  obtain ⟨a, b⟩ := List.mem_filter.mp h
  exact ⟨List.mem_range.mp a, of_decide_eq_true b⟩
theorem plN_len (st : List Int) (i : Nat) : (plN st i).length ≤ i := by
  unfold plN
  exact Nat.le_trans (List.length_filter_le _ _) (by simp)
theorem other_ne {s r L : Nat} (hs : s < L) (hr : r < L - 1) : (s + 1 + r) % L ≠ s := by
  by_cases h : s + 1 + r < L
  · rw [Nat.mod_eq_of_lt h]
    omega
  · have e : (s + 1 + r) % L = s + 1 + r - L := by
      rw [Nat.mod_eq_sub_mod (by omega), Nat.mod_eq_of_lt (by omega)]
    omega
theorem plV_len (st : List Int) (m : Nat) : (plV st m).length = (plN st m).length := by unfold plV; rw [List.length_map]
theorem pick_two {st : List Int} {m N : Nat} (n : Nat) (hN : (plN st m).length = N) (h : 1 < N) : ∃ a c : Nat, a < m ∧ c < m ∧ a ≠ c ∧ 0 < st.getD a 0 ∧ 0 < st.getD c 0 ∧
    (plV st m)[n % N]? = some (nV a) ∧ (plV st m)[(n % N + 1 + n / 16 % (N - 1)) % N]? = some (nV c) := by
  subst hN
  have hmem : ∀ {q : Nat} (hq : q < (plN st m).length), (plV st m)[q]? = some (nV (plN st m)[q]) ∧ (plN st m)[q] < m ∧ 0 < st.getD (plN st m)[q] 0 := fun {q} hq => by
    refine ⟨?_, plN_mem (List.getElem_mem hq)⟩
    unfold plV
    rw [List.getElem?_map, List.getElem?_eq_getElem hq]
    rfl
  have hsp : n % (plN st m).length < (plN st m).length := Nat.mod_lt _ (by omega)
  have hr1 : n / 16 % ((plN st m).length - 1) < (plN st m).length - 1 := Nat.mod_lt _ (by omega)
  have hix : (n % (plN st m).length + 1 + n / 16 % ((plN st m).length - 1)) % (plN st m).length < (plN st m).length := Nat.mod_lt _ (by omega)
  have hne := other_ne hsp hr1
  obtain ⟨ga, la, pa⟩ := hmem hsp
  obtain ⟨gc, lc, pc⟩ := hmem hix
  exact ⟨_, _, la, lc, fun q => hne ((List.getElem_inj (plN_nodup st m)).mp q).symm, pa, pc, ga, gc⟩
theorem pick_idx (n N : Nat) (h : 1 < N) : (((n % N : Nat) : Int) + 1 + ((n : Int) / 16 % ((N : Int) - 1))) % (N : Int) = (((n % N + 1 + n / 16 % (N - 1)) % N : Nat) : Int) := by
  have e3 : (N : Int) - 1 = ((N - 1 : Nat) : Int) := by omega
  have e4 : (n : Int) / 16 % ((N - 1 : Nat) : Int) = ((n / 16 % (N - 1) : Nat) : Int) := rfl
  have e2 : ((n % N : Nat) : Int) + 1 + ((n : Int) / 16 % ((N : Int) - 1)) = ((n % N + 1 + n / 16 % (N - 1) : Nat) : Int) := by
    rw [e3, e4]
    omega
  rw [e2]
  rfl
def spLSide (K : PySem.W.Frag) : Sp := fun vs H Q _ => ∃ (f s : Addr) (w h : Nat) (st : List Int), vs = [.ref f, .ref s] ∧ SqT K H f [nV w, nV h] ∧ Fl w h ∧ TD H s (VI st) ∧ Std (w * h) st ∧ Q (nV (sideM w st)) H
def spExch (K : PySem.W.Frag) : Sp := fun vs H Q _ => ∃ (s : Addr) (n m : Nat) (st : List Int), vs = [.ref s, nV n] ∧ TD H s (VI st) ∧ Std m st ∧ 0 < m ∧ m ≤ 16 ∧
  ∀ (p : Addr) (st' : List Int) (H' : Hp), H p = none → Same H H' → TD H' p (VI st') → (st' = st ∨ ∃ i j, i < m ∧ j < m ∧ i ≠ j ∧ 0 < st.getD i 0 ∧ 0 < st.getD j 0 ∧ st' = swapAt st i j) → Q (.ref p) H'
def spRight (K : PySem.W.Frag) : Sp := fun vs H Q _ => ∃ (f a b : Addr) (w h due : Nat) (st st' : List Int), vs = [.ref f, .ref a, .ref b, nV due] ∧ SqT K H f [nV w, nV h] ∧ Fl w h ∧ TD H a (VI st) ∧ Std (w * h) st ∧ TD H b (VI st') ∧ Std (w * h) st' ∧
  sideM w st' = due ∧ joinM w h st st' = true ∧ joinM w h st' st = true ∧ ∀ H', Same H H' → Q (.bl true) H'
end Sf
namespace Sf
open PySem PySem.Spec PyProof.Rows L2
theorem words_some {w h : Nat} {st : List Int} (F : Fl w h) (S : Std (w * h) st) : 0 < (wordsM w h st).length := by
  have he := S.zat_lt F.pos
  have hx : zat st % w < w := Nat.mod_lt _ F.w1
  have hy : zat st / w < h := Nat.div_lt_of_lt_mul he
  have key : ∀ d : Dir, (tgt w h (zat st) d).isSome = true → 0 < (wordsM w h st).length := fun d hd => by
    refine List.length_pos_of_mem (a := d) ?_
    unfold wordsM
    refine List.mem_filter.mpr ⟨by cases d <;> simp [dirs], ?_⟩
    unfold step
    rw [Option.isSome_map]
    exact hd
  by_cases h1 : 1 < w
  · by_cases h2 : zat st % w + 1 < w
    · exact key .left (by simp only [tgt]; rw [if_pos h2]; rfl)
    · exact key .right (by simp only [tgt]; rw [if_pos (by omega)]; rfl)
  · have : w = 1 := by have := F.w1; omega
    have := F.two
    have h3 : 1 < h := by subst w; omega
    by_cases h2 : zat st / w + 1 < h
    · exact key .up (by simp only [tgt]; rw [if_pos h2]; rfl)
    · exact key .down (by simp only [tgt]; rw [if_pos (by omega)]; rfl)
theorem words_step {w h : Nat} {st : List Int} {j : Nat} {d : Dir} (e : (wordsM w h st)[j]? = some d) : ∃ st', step w h st d = some st' := by
  have hm := List.mem_of_getElem? e
  unfold wordsM at hm
  exact Option.isSome_iff_exists.mp (List.mem_filter.mp hm).2
theorem wV_get {ds : List Dir} {j : Nat} (h : j < ds.length) : ∃ d, ds[j]? = some d ∧ (wV ds)[j]? = some (.str (dS d)) := by
  refine ⟨ds[j], List.getElem?_eq_getElem h, ?_⟩
  unfold wV
  rw [List.getElem?_map, List.getElem?_eq_getElem h]
  rfl
theorem wV_len (ds : List Dir) : (wV ds).length = ds.length := by unfold wV; rw [List.length_map]
/-- what holds of a standing that came by moves -/
structure Came (w h : Nat) (st st' : List Int) : Prop where
  S : Std (w * h) st'
  side : sideM w st' = sideM w st
  line : w = 1 ∨ h = 1 → tiles st' = tiles st
theorem Came.step {w h : Nat} {st st' st'' : List Int} {d : Dir} (F : Fl w h) (c : Came w h st st') (e : step w h st' d = some st'') : Came w h st st'' :=
  ⟨step_std F c.S e, (step_side F c.S e).trans c.side, fun l => (step_tiles F c.S l e).trans (c.line l)⟩
theorem Came.join {w h : Nat} {st st' : List Int} (c : Came w h st st') : joinM w h st st' = true ∧ joinM w h st' st = true := by
  unfold joinM
  by_cases l : w = 1 ∨ h = 1
  · rw [if_pos l, if_pos l, c.line l]
    exact ⟨decide_eq_true rfl, decide_eq_true rfl⟩
  · rw [if_neg l, if_neg l, c.side]
    exact ⟨decide_eq_true rfl, decide_eq_true rfl⟩
theorem side_le (w : Nat) (st : List Int) : sideM w st ≤ 1 := by unfold sideM; omega
theorem Came.exch {w h : Nat} {st st' : List Int} {i j : Nat} (F : Fl w h) (c : Came w h st st') (hi : i < w * h) (hj : j < w * h) (ne : i ≠ j) (pi : 0 < st'.getD i 0) (pj : 0 < st'.getD j 0) :
    Std (w * h) (swapAt st' i j) ∧ sideM w (swapAt st' i j) = 1 - sideM w st ∧ joinM w h st (swapAt st' i j) = false ∧ joinM w h (swapAt st' i j) st = false := by
  have z0 := c.S.zat_getD F.pos
  have zi : zat st' ≠ i := fun q => by rw [← q, z0] at pi; omega
  have zj : zat st' ≠ j := fun q => by rw [← q, z0] at pj; omega
  have hs := exch_side F c.S hi hj ne zi zj
  rw [c.side] at hs
  have hl := side_le w st
  have hn : sideM w st ≠ sideM w (swapAt st' i j) := by omega
  refine ⟨c.S.swap hi hj ne, hs, ?_, ?_⟩
  all_goals
    unfold joinM
    by_cases l : w = 1 ∨ h = 1
    · have ht := exch_tiles c.S.nodup (by rw [c.S.len]; exact hi) (by rw [c.S.len]; exact hj) ne (by omega) (by omega)
      rw [c.line l] at ht
      rw [if_pos l]
      first
        | exact decide_eq_false ht
        | exact decide_eq_false (Ne.symm ht)
    · rw [if_neg l]
      first
        | exact decide_eq_false hn
        | exact decide_eq_false (Ne.symm hn)
theorem neg_cut (xs : List V) : (cutV xs none (some 63)).length ≤ xs.length := cutV_length _ _ _
end Sf
namespace Sf
open PySem PySem.Spec PyProof.Rows L2

/-! ### the text by places -/
def top (i : Nat) : Stmt := PySem.Challenge.pw_slidefloor_k03_whole_sides_stay.main.body.getD i (.Pass ⟨0, 0, 0, 0⟩)
abbrev s_need_floor : Stmt := top 7
abbrev s_need_standing : Stmt := top 8
abbrev s_is_number : Stmt := top 9
abbrev s_count_places : Stmt := top 10
abbrev s_column_and_row : Stmt := top 11
abbrev s_side : Stmt := top 13
abbrev s_is_joined : Stmt := top 14
abbrev s_is_line : Stmt := top 15
abbrev s_count_falls : Stmt := top 16
abbrev s_tiles_in_order : Stmt := top 17
abbrev s_law_draw : Stmt := top 19
abbrev s_law_whole : Stmt := top 20
abbrev s_law_floor : Stmt := top 21
abbrev s_law_standing : Stmt := top 22
abbrev s_law_moved : Stmt := top 23
abbrev s_law_words : Stmt := top 24
abbrev s_law_side : Stmt := top 25
abbrev s_law_exchanged : Stmt := top 26
abbrev s_law_right : Stmt := top 27
abbrev s_law : Stmt := top 28
/-- what the top has written -/
structure Tx (K : PySem.W.Frag) (mg : Str → Option Value) where
  d_need_floor : Df K mg "need_floor" s_need_floor ["floor"]
  d_need_standing : Df K mg "need_standing" s_need_standing ["floor", "standing"]
  d_is_number : Df K mg "is_number" s_is_number ["value"]
  d_count_places : Df K mg "count_places" s_count_places ["floor"]
  d_column_and_row : Df K mg "column_and_row" s_column_and_row ["floor", "place"]
  d_side : Df K mg "side" s_side ["floor", "standing"]
  d_is_joined : Df K mg "is_joined" s_is_joined ["floor", "one", "other"]
  d_is_line : Df K mg "is_line" s_is_line ["floor"]
  d_count_falls : Df K mg "count_falls" s_count_falls ["standing"]
  d_tiles_in_order : Df K mg "tiles_in_order" s_tiles_in_order ["standing"]
  d_law_draw : Df K mg "_law_draw" s_law_draw ["_law_script", "_law_k"]
  d_law_whole : Df K mg "_law_whole" s_law_whole ["_law_found"]
  d_law_floor : Df K mg "_law_floor" s_law_floor ["_law_number"]
  d_law_standing : Df K mg "_law_standing" s_law_standing ["_law_script", "_law_k", "_law_floor_here"]
  d_law_moved : Df K mg "_law_moved" s_law_moved ["_law_floor_here", "_law_standing_here", "_law_word"]
  d_law_words : Df K mg "_law_words" s_law_words ["_law_floor_here", "_law_standing_here"]
  d_law_side : Df K mg "_law_side" s_law_side ["_law_floor_here", "_law_standing_here"]
  d_law_exchanged : Df K mg "_law_exchanged" s_law_exchanged ["_law_standing_here", "_law_number"]
  d_law_right : Df K mg "_law_right" s_law_right ["_law_floor_here", "_law_first", "_law_now", "_law_due"]
  d_law : Df K mg "law" s_law ["_law_script"]
  c_SlideError : Ec K mg "SlideError"
  c_BadFloor : Ec K mg "BadFloor"
  c_BadStanding : Ec K mg "BadStanding"
  k_LONGEST_SIDE : ∃ t, mg "LONGEST_SIDE" = some (.int 4 t)
  k_FEWEST_PLACES : ∃ t, mg "FEWEST_PLACES" = some (.int 2 t)
  b_len : mg "len" = none
  b_sorted : mg "sorted" = none
  b_list : mg "list" = none
  b_range : mg "range" = none
  b_tuple : mg "tuple" = none
  b_type : mg "type" = none
  b_int : mg "int" = none
  b_isinstance : mg "isinstance" = none
  b_enumerate : mg "enumerate" = none
  b_sum : mg "sum" = none
  b_bool : mg "bool" = none
  b_ValueError : mg "ValueError" = none
end Sf
namespace Sf
open PySem PySem.Spec PyProof.Rows L2
/- need_floor: 0:floor 1:length -/
theorem sc_need_floor : FnScope ["floor", "length"] ["floor"] (defScope s_need_floor) := ⟨rfl, rfl, rfl, by decide +kernel, rfl, by decide +kernel, by decide +kernel⟩
/- need_standing: 0:floor 1:standing 2:places 3:number -/
theorem sc_need_standing : FnScope ["floor", "standing", "places", "number"] ["floor", "standing"] (defScope s_need_standing) := ⟨rfl, rfl, rfl, by decide +kernel, rfl, by decide +kernel, by decide +kernel⟩
/- is_number: 0:value -/
theorem sc_is_number : FnScope ["value"] ["value"] (defScope s_is_number) := ⟨rfl, rfl, rfl, by decide +kernel, rfl, by decide +kernel, by decide +kernel⟩
/- count_places: 0:floor 1:wide 2:high -/
theorem sc_count_places : FnScope ["floor", "wide", "high"] ["floor"] (defScope s_count_places) := ⟨rfl, rfl, rfl, by decide +kernel, rfl, by decide +kernel, by decide +kernel⟩
/- column_and_row: 0:floor 1:place 2:wide -/
theorem sc_column_and_row : FnScope ["floor", "place", "wide"] ["floor", "place"] (defScope s_column_and_row) := ⟨rfl, rfl, rfl, by decide +kernel, rfl, by decide +kernel, by decide +kernel⟩
/- side: 0:floor 1:standing 2:x 3:y -/
theorem sc_side : FnScope ["floor", "standing", "x", "y"] ["floor", "standing"] (defScope s_side) := ⟨rfl, rfl, rfl, by decide +kernel, rfl, by decide +kernel, by decide +kernel⟩
/- is_joined: 0:floor 1:one 2:other -/
theorem sc_is_joined : FnScope ["floor", "one", "other"] ["floor", "one", "other"] (defScope s_is_joined) := ⟨rfl, rfl, rfl, by decide +kernel, rfl, by decide +kernel, by decide +kernel⟩
/- is_line: 0:floor -/
theorem sc_is_line : FnScope ["floor"] ["floor"] (defScope s_is_line) := ⟨rfl, rfl, rfl, by decide +kernel, rfl, by decide +kernel, by decide +kernel⟩
/- count_falls: 0:standing 1:falls 2:place 3:number 4:later -/
theorem sc_count_falls : FnScope ["standing", "falls", "place", "number", "later"] ["standing"] (defScope s_count_falls) := ⟨rfl, rfl, rfl, by decide +kernel, rfl, by decide +kernel, by decide +kernel⟩
/- tiles_in_order: 0:standing 1:number -/
theorem sc_tiles_in_order : FnScope ["standing", "number"] ["standing"] (defScope s_tiles_in_order) := ⟨rfl, rfl, rfl, by decide +kernel, rfl, by decide +kernel, by decide +kernel⟩
/- law_draw: 0:_law_script 1:_law_k 2:_law_cell 3:_law_number -/
theorem sc_law_draw : FnScope ["_law_script", "_law_k", "_law_cell", "_law_number"] ["_law_script", "_law_k"] (defScope s_law_draw) := ⟨rfl, rfl, rfl, by decide +kernel, rfl, by decide +kernel, by decide +kernel⟩
/- law_whole: 0:_law_found -/
theorem sc_law_whole : FnScope ["_law_found"] ["_law_found"] (defScope s_law_whole) := ⟨rfl, rfl, rfl, by decide +kernel, rfl, by decide +kernel, by decide +kernel⟩
/- law_floor: 0:_law_number 1:_law_wide 2:_law_high -/
theorem sc_law_floor : FnScope ["_law_number", "_law_wide", "_law_high"] ["_law_number"] (defScope s_law_floor) := ⟨rfl, rfl, rfl, by decide +kernel, rfl, by decide +kernel, by decide +kernel⟩
/- law_standing: 0:_law_script 1:_law_k 2:_law_floor_here 3:_law_rows 4:_law_j 5:_law_row -/
theorem sc_law_standing : FnScope ["_law_script", "_law_k", "_law_floor_here", "_law_rows", "_law_j", "_law_row"] ["_law_script", "_law_k", "_law_floor_here"] (defScope s_law_standing) := ⟨rfl, rfl, rfl, by decide +kernel, rfl, by decide +kernel, by decide +kernel⟩
/- law_moved: 0:_law_floor_here 1:_law_standing_here 2:_law_word 3:_law_wide 4:_law_high 5:_law_empty 6:_law_x 7:_law_y 8:_law_tile 9:_law_found 10:_law_one -/
theorem sc_law_moved : FnScope ["_law_floor_here", "_law_standing_here", "_law_word", "_law_wide", "_law_high", "_law_empty", "_law_x", "_law_y", "_law_tile", "_law_found", "_law_one"] ["_law_floor_here", "_law_standing_here", "_law_word"] (defScope s_law_moved) := ⟨rfl, rfl, rfl, by decide +kernel, rfl, by decide +kernel, by decide +kernel⟩
/- law_words: 0:_law_floor_here 1:_law_standing_here 2:_law_word -/
theorem sc_law_words : FnScope ["_law_floor_here", "_law_standing_here", "_law_word"] ["_law_floor_here", "_law_standing_here"] (defScope s_law_words) := ⟨rfl, rfl, rfl, by decide +kernel, rfl, by decide +kernel, by decide +kernel⟩
/- law_side: 0:_law_floor_here 1:_law_standing_here 2:_law_empty 3:_law_total 4:_law_place 5:_law_other -/
theorem sc_law_side : FnScope ["_law_floor_here", "_law_standing_here", "_law_empty", "_law_total", "_law_place", "_law_other"] ["_law_floor_here", "_law_standing_here"] (defScope s_law_side) := ⟨rfl, rfl, rfl, by decide +kernel, rfl, by decide +kernel, by decide +kernel⟩
/- law_exchanged: 0:_law_standing_here 1:_law_number 2:_law_one 3:_law_places 4:_law_found 5:_law_spot 6:_law_other 7:_law_place -/
theorem sc_law_exchanged : FnScope ["_law_standing_here", "_law_number", "_law_one", "_law_places", "_law_found", "_law_spot", "_law_other", "_law_place"] ["_law_standing_here", "_law_number"] (defScope s_law_exchanged) := ⟨rfl, rfl, rfl, by decide +kernel, rfl, by decide +kernel, by decide +kernel⟩
/- law_right: 0:_law_floor_here 1:_law_first 2:_law_now 3:_law_due 4:_law_found -/
theorem sc_law_right : FnScope ["_law_floor_here", "_law_first", "_law_now", "_law_due", "_law_found"] ["_law_floor_here", "_law_first", "_law_now", "_law_due"] (defScope s_law_right) := ⟨rfl, rfl, rfl, by decide +kernel, rfl, by decide +kernel, by decide +kernel⟩
/- law: 0:_law_script 1:_law_number 2:_law_floor_here 3:_law_first 4:_law_due 5:_law_now 6:_law_k 7:_law_more 8:_law_other 9:_law_found 10:_law_some -/
theorem sc_law : FnScope ["_law_script", "_law_number", "_law_floor_here", "_law_first", "_law_due", "_law_now", "_law_k", "_law_more", "_law_other", "_law_found", "_law_some"] ["_law_script"] (defScope s_law) := ⟨rfl, rfl, rfl, by decide +kernel, rfl, by decide +kernel, by decide +kernel⟩
end Sf
namespace Sf
open PySem PySem.Spec PyProof.Rows L2
section
variable {P : Program} {w : World} {K : PySem.W.Frag} {mg : Str → Option Value} {base : Heap}
theorem ok_is_number (T : Tx K mg) : FnD P w base CX0 1 T.d_is_number (spNum K) := by
  refine T.d_is_number.F.ok sc_is_number (fun vs H Q E h => ?_) (fun cdv A outer s H vs Q E hr h => ?_)
  · obtain ⟨v, t, rfl, _⟩ := h
    rfl
  · obtain ⟨v, t, rfl, hv, k⟩ := h
    refine ⟨_, pss_one (ps_ret (pe_cmpR op_eqTy (pe_t call_type1 T.b_type (pa1 (pv 0))) (pe_ty (T := "int") T.b_int) (nomark _))), ?_⟩
    exact ⟨_, rfl, v, t, rfl, hv, _, _, rfl, rfl, TyB.tyty hv, ty_int, k⟩
theorem ok_count_places (T : Tx K mg) : FnD P w base CX0 1 T.d_count_places (spCount K) := by
  refine T.d_count_places.F.ok sc_count_places (fun vs H Q E h => ?_) (fun cdv A outer s H vs Q E hr h => ?_)
  · obtain ⟨a, x, y, rfl, _⟩ := h
    rfl
  · obtain ⟨a, x, y, rfl, hs, hx, hy, k⟩ := h
    refine ⟨_, pss_cons (ps_asg (pv 0) (pg_tup (by rfl) (pgs_cons (pg_name (i := 1) sc_count_places.nd rfl (.inl rfl)) (pgs_cons (pg_name (i := 2) sc_count_places.nd rfl (.inl rfl)) pgs_nil))))
      (pss_one (ps_ret (pe_op op_mul (pv 1) (pv 2)))), ?_⟩
    refine ⟨_, rfl, a, _, rfl, hs, rfl, _, _, rfl, _, _, rfl, rfl, _, rfl, _, rfl, _, _, rfl, rfl, .inl ⟨by omega, by omega⟩, ?_⟩
    have e : ((x * y : Nat) : Int) = (x : Int) * (y : Int) := Int.natCast_mul x y
    rw [e] at k
    exact k
theorem nat_of_side {i : Int} (h1 : ¬ i < 1) (h2 : ¬ (4 : Int) < i) : ∃ n : Nat, i = (n : Int) ∧ 1 ≤ n ∧ n ≤ 4 := ⟨i.toNat, by omega, by omega, by omega⟩
theorem ok_need_floor (T : Tx K mg) : FnD P w base (L2.CX P w) 2 T.d_need_floor (spNeedF K T.c_BadFloor.C) := by
  have G1 : FnD P w base CX0 1 T.d_is_number (spNum K) := ok_is_number T
  have G2 : FnD P w base CX0 1 T.d_count_places (spCount K) := ok_count_places T
  refine T.d_need_floor.F.okX sc_need_floor (fun vs H Q E h => ?_) (fun cdv A outer s H vs Q E hr h => ?_)
  · obtain ⟨v, o, rfl, _⟩ := h
    rfl
  · obtain ⟨v, o, rfl, hf, kg, kb⟩ := h
    obtain ⟨t1, k1⟩ := T.k_LONGEST_SIDE
    obtain ⟨t2, k2⟩ := T.k_FEWEST_PLACES
    refine ⟨_, pss_cons (ps_if (PW.pt (pw_or (pt_cmpR op_neTy (pe_t call_type1 T.b_type (pa1 (pv 0))) (pe_ty (T := "tuple") T.b_tuple) (nomark _))
          (pw_or1 (pt_cmpR op_ne (pe_b call_len_seq T.b_len (pa1 (pv 0))) pe_int (nomark _)))))
        (pss_one (ps_rs T.c_BadFloor rfl (takes_of rfl rfl rfl rfl))) pss_nil)
      (pss_cons (ps_for (passes_of rfl) rfl (pi_tup (pv 0)) (pg_name (i := 1) sc_need_floor.nd rfl (.inl rfl))
        (pss_one (ps_if (PW.pt (pw_or (pt_not (pt_val (pe_d T.d_is_number G1 hr pass0 (pa1 (pv 1)))))
            (pw_or (pt_cmpR op_lt (pv 1) pe_int (nomark _)) (pw_or1 (pt_cmpR op_gt (pv 1) (pe_k k1) (nomark _))))))
          (pss_one (ps_rs T.c_BadFloor rfl (takes_of rfl rfl rfl rfl))) pss_nil)))
      (pss_one (ps_if (pt_cmpR op_lt (pe_d T.d_count_places G2 hr pass0 (pa1 (pv 0))) (pe_k k2) (nomark _))
          (pss_one (ps_rs T.c_BadFloor rfl (takes_of rfl rfl rfl rfl))) pss_nil))), ?_⟩
    -- the kind
    have hk : ∃ t, TyB K H v t ∧ (t ≠ "tuple" → o = none) ∧ (t = "tuple" → ∃ a xs, v = .ref a ∧ SqT K H a xs ∧ (xs.length ≠ 2 → o = none) ∧ ∀ x y, xs = [x, y] → Kn K H x ∧ Kn K H y ∧
        (∀ w h : Nat, x = .int w → y = .int h → Fl w h → o ≠ none) ∧ ((¬ ∃ w h : Nat, x = .int w ∧ y = .int h ∧ Fl w h) → o = none)) := by
      cases hf with
      | good h F =>
        refine ⟨_, .tup h, fun z => absurd rfl z, fun _ => ⟨_, _, rfl, h, fun z => absurd rfl z, fun x y e => ?_⟩⟩
        cases e
        exact ⟨⟨_, .int _⟩, ⟨_, .int _⟩, fun _ _ _ _ _ z => (by cases z), fun z => absurd ⟨_, _, rfl, rfl, F⟩ z⟩
      | kind t n => exact ⟨_, t, fun _ => rfl, fun z => absurd z n⟩
      | size h n => exact ⟨_, .tup h, fun _ => rfl, fun _ => ⟨_, _, rfl, h, fun _ => rfl, fun x y e => absurd (by rw [e]; rfl) n⟩⟩
      | side h kx ky n =>
        refine ⟨_, .tup h, fun _ => rfl, fun _ => ⟨_, _, rfl, h, fun _ => rfl, fun x y e => ?_⟩⟩
        cases e
        exact ⟨kx, ky, fun a b e1 e2 F => absurd ⟨a, b, e1, e2, F⟩ n, fun _ => rfl⟩
    obtain ⟨t, hty, hnt, htup⟩ := hk
    refine ⟨_, rfl, v, t, rfl, hty, _, _, rfl, rfl, TyB.tyty hty, ty_tuple, _, rfl, ?_⟩
    by_cases et : t = "tuple"
    · refine iteNF et ?_
      obtain ⟨a, xs, rfl, hs, hl, hxy⟩ := htup et
      refine ⟨_, rfl, a, xs, rfl, .inr hs, rfl, _, rfl, ?_⟩
      by_cases el : xs.length = 2
      · refine iteNF (by rw [el]; rfl) ?_
        obtain ⟨x, y, rfl⟩ : ∃ x y, xs = [x, y] := by
          match xs, el with
          | [x, y], _ => exact ⟨x, y, rfl⟩
        obtain ⟨⟨tx, kx⟩, ⟨ty, ky⟩, hgood, hbad⟩ := hxy x y rfl
        -- the loop over both sides
        refine ⟨_, rfl, a, rfl, ⟨_, hs⟩, for_tup (K := K) (a := a) (xs := [x, y]) (fun i σ H2 => H2 = H ∧ (∃ u : Option V, σ = [some (.ref a), u]) ∧ ∀ j, j < i → ∀ z, [x, y][j]? = some z → okSide z) ⟨rfl, ⟨none, rfl⟩, fun j hj => absurd hj (Nat.not_lt_zero j)⟩
          (fun i σ H2 _ p => by rw [p.1]; exact hs) ?_ ?_⟩
        · rintro i z σ H2 hz ⟨rfl, ⟨u, rfl⟩, hp⟩
          have hzk : ∃ tz, TyB K H2 z tz := by
            match i, hz with
            | 0, hz => cases hz; exact ⟨tx, kx⟩
            | 1, hz => cases hz; exact ⟨ty, ky⟩
          obtain ⟨tz, hzt⟩ := hzk
          have bad : ¬ okSide z → E (.ref T.c_BadFloor.C) none H2 := fun nz => by
            refine kb (hbad ?_)
            rintro ⟨w', h', e1, e2, F⟩
            refine nz ?_
            match i, hz with
            | 0, hz => cases hz; exact ⟨w', e1, F.w1, F.w4⟩
            | 1, hz => cases hz; exact ⟨h', e2, F.h1, F.h4⟩
          refine ⟨_, rfl, z, tz, rfl, hzt, _, rfl, ?_⟩
          refine iteN2 (fun e => bad ?_) fun e => ?_
          · rintro ⟨n, rfl, _⟩
            cases hzt
            exact absurd (of_decide_eq_false e) (fun q => q rfl)
          · obtain ⟨i', rfl⟩ := tyb_int hzt (of_decide_eq_true e)
            refine ⟨_, rfl, _, _, rfl, rfl, _, rfl, ?_⟩
            refine ite2 (fun e1 => bad ?_) fun e1 => ⟨_, rfl, _, _, rfl, rfl, _, rfl, ?_⟩
            · rintro ⟨n, e2, n1, n4⟩
              have := V.int.inj e2
              have := of_decide_eq_true e1
              omega
            · refine ite2 (fun e2 => bad ?_) fun e2 => ?_
              · rintro ⟨n, e3, n1, n4⟩
                have := V.int.inj e3
                have := of_decide_eq_true e2
                omega
              · obtain ⟨n, rfl, n1, n4⟩ := nat_of_side (fun q => e1 (decide_eq_true q)) (fun q => e2 (decide_eq_true q))
                refine ⟨rfl, ⟨_, rfl⟩, fun j hj z' hz' => ?_⟩
                by_cases ej : j < i
                · exact hp j ej z' hz'
                · have : j = i := by omega
                  subst this
                  rw [hz] at hz'
                  cases hz'
                  exact ⟨n, rfl, n1, n4⟩
        · rintro σ H2 ⟨rfl, ⟨u, rfl⟩, hp⟩
          obtain ⟨wx, rfl, a1, a4⟩ := hp 0 (by show 0 < 2; omega) x rfl
          obtain ⟨wy, rfl, b1, b4⟩ := hp 1 (by show 1 < 2; omega) y rfl
          refine ⟨_, rfl, a, wx, wy, rfl, hs, a4, b4, _, _, rfl, rfl, _, rfl, ?_⟩
          refine ite2 (fun e => kb (hbad ?_)) fun e => kg ?_
          · rintro ⟨w', h', e1, e2, F⟩
            have q1 := V.int.inj e1
            have q2 := V.int.inj e2
            have q3 := of_decide_eq_true e
            have q4 : wx = w' := by omega
            have q5 : wy = h' := by omega
            subst q4 q5
            have := F.two
            omega
          · have q : ¬ ((wx * wy : Nat) : Int) < 2 := fun q => e (decide_eq_true q)
            have n := hgood wx wy rfl rfl ⟨a1, a4, b1, b4, by omega⟩
            cases o with
            | none => exact absurd rfl n
            | some p => rfl
      · refine iteNT (fun q => el (by have := V.int.inj q; omega)) (kb (hl el))
    · exact iteNT et (kb (hnt et))
end
end Sf
namespace Sf
open PySem PySem.Spec PyProof.Rows L2
section
variable {P : Program} {w : World} {K : PySem.W.Frag} {mg : Str → Option Value} {base : Heap}
theorem ok_need_standing (T : Tx K mg) : FnD P w base (L2.CX P w) 3 T.d_need_standing (spNeedS K T.c_BadFloor.C T.c_BadStanding.C) := by
  have G1 : FnD P w base CX0 1 T.d_is_number (spNum K) := ok_is_number T
  have G2 : FnD P w base CX0 1 T.d_count_places (spCount K) := ok_count_places T
  have G3 : FnD P w base (L2.CX P w) 2 T.d_need_floor (spNeedF K T.c_BadFloor.C) := ok_need_floor T
  refine T.d_need_standing.F.okX sc_need_standing (fun vs H Q E h => ?_) (fun cdv A outer s H vs Q E hr h => ?_)
  · obtain ⟨f, v, o, rfl, _⟩ := h
    rfl
  · obtain ⟨f, v, o, rfl, hf, kf, ks⟩ := h
    have hr1 : Room 1 _ := hr.mono (by decide)
    refine ⟨_, pss_cons (ps_expr (pe_d T.d_need_floor G3 hr (passes_call (takes_of rfl rfl rfl rfl) (fun _ _ _ _ z => z)) (pa1 (pv 0))))
      (pss_cons (ps_set (i := 2) sc_need_standing.nd rfl (.inl rfl) (pe_d T.d_count_places G2 hr1 pass0 (pa1 (pv 0))))
      (pss_cons (ps_if (PW.pt (pw_or (pt_cmpR op_neTy (pe_t call_type1 T.b_type (pa1 (pv 1))) (pe_ty (T := "tuple") T.b_tuple) (nomark _))
          (pw_or1 (pt_cmpR op_ne (pe_b call_len_seq T.b_len (pa1 (pv 1))) (pv 2) (nomark _)))))
        (pss_one (ps_rs T.c_BadStanding rfl (takes_of rfl rfl rfl rfl))) pss_nil)
      (pss_cons (ps_for (passes_of rfl) rfl (pi_tup (pv 1)) (pg_name (i := 3) sc_need_standing.nd rfl (.inl rfl))
        (pss_one (ps_if (pt_not (pt_val (pe_d T.d_is_number G1 hr1 pass0 (pa1 (pv 3)))))
          (pss_one (ps_rs T.c_BadStanding rfl (takes_of rfl rfl rfl rfl))) pss_nil)))
      (pss_one (ps_if (pt_cmpR (op_neD hr.units) (pe_b cr_sortedTI T.b_sorted (pa1 (pv 1))) (pe_listRg rfl (by rfl) T.b_list (prg_1 (by rfl) T.b_range (pv 2))) (nomark _))
          (pss_one (ps_rs T.c_BadStanding rfl (takes_of rfl rfl rfl rfl))) pss_nil))))), ?_⟩
    refine ⟨_, rfl, f, o, rfl, hf, fun ho => ?_, kf⟩
    cases hf with
    | kind => cases ho
    | size => cases ho
    | side => cases ho
    | @good a wd hg hfs F =>
      obtain ⟨o2, hv, kg, kb⟩ := ks wd hg rfl
      refine ⟨_, rfl, a, wd, hg, rfl, hfs, F.w4, F.h4, ?_⟩
      have hk : ∃ t, TyB K H v t ∧ (t ≠ "tuple" → o2 = none) ∧ (t = "tuple" → ∃ b xs, v = .ref b ∧ SqT K H b xs ∧ (xs.length ≠ wd * hg → o2 = none) ∧ (xs.length = wd * hg → (∀ x ∈ xs, Kn K H x) ∧
          (∀ st : List Int, xs = VI st → Std (wd * hg) st → o2 ≠ none) ∧ ((¬ ∃ st : List Int, xs = VI st ∧ Std (wd * hg) st) → o2 = none))) := by
        cases hv with
        | @good b st h S =>
          refine ⟨_, .tup h.sq, fun z => absurd rfl z, fun _ => ⟨_, _, rfl, h.sq, fun z => absurd (by rw [List.length_map]; exact S.len) z, fun _ => ⟨fun x hx => ?_, fun _ _ _ z => (by cases z), fun z => absurd ⟨_, rfl, S⟩ z⟩⟩⟩
          obtain ⟨n, _, rfl⟩ := List.mem_map.mp hx
          exact ⟨_, .int n⟩
        | kind t n => exact ⟨_, t, fun _ => rfl, fun z => absurd z n⟩
        | size h n => exact ⟨_, .tup h, fun _ => rfl, fun _ => ⟨_, _, rfl, h, fun _ => rfl, fun e => absurd e n⟩⟩
        | items h hl hk n => exact ⟨_, .tup h, fun _ => rfl, fun _ => ⟨_, _, rfl, h, fun _ => rfl, fun _ => ⟨hk, fun st e S => absurd ⟨st, e, S⟩ n, fun _ => rfl⟩⟩⟩
      obtain ⟨t, hty, hnt, htup⟩ := hk
      refine ⟨_, rfl, v, t, rfl, hty, _, _, rfl, rfl, TyB.tyty hty, ty_tuple, _, rfl, ?_⟩
      by_cases et : t = "tuple"
      · refine iteNF et ?_
        obtain ⟨b, xs, rfl, hs, hl, hxs⟩ := htup et
        refine ⟨_, rfl, b, xs, rfl, .inr hs, _, rfl, rfl, _, rfl, ?_⟩
        by_cases el : xs.length = wd * hg
        · refine iteNF (by rw [el]) ?_
          obtain ⟨hkn, hgood, hbad⟩ := hxs el
          refine ⟨_, rfl, b, rfl, ⟨_, hs⟩, for_tup (K := K) (a := b) (xs := xs) (fun i σ H2 => H2 = H ∧ (∃ u : Option V, σ = [some (.ref a), some (.ref b), some (.int ((wd * hg : Nat) : Int)), u]) ∧ ∀ j, j < i → ∀ z, xs[j]? = some z → ∃ n : Int, z = .int n) ⟨rfl, ⟨none, rfl⟩, fun j hj => absurd hj (Nat.not_lt_zero j)⟩
            (fun i σ H2 _ p => by rw [p.1]; exact hs) ?_ ?_⟩
          · rintro i z σ H2 hz ⟨rfl, ⟨u, rfl⟩, hp⟩
            obtain ⟨tz, hzt⟩ := hkn z (List.mem_of_getElem? hz)
            refine ⟨_, rfl, z, tz, rfl, hzt, _, rfl, ?_⟩
            refine iteN2 (fun e => kb (hbad ?_) _ (Same.refl _)) fun e => ⟨rfl, ⟨_, rfl⟩, fun j hj z' hz' => ?_⟩
            · rintro ⟨st, rfl, S⟩
              obtain ⟨n, _, rfl⟩ := VI_get hz
              cases hzt
              exact absurd (of_decide_eq_false e) (fun q => q rfl)
            · by_cases ej : j < i
              · exact hp j ej z' hz'
              · have : j = i := by omega
                subst this
                rw [hz] at hz'
                cases hz'
                exact tyb_int hzt (of_decide_eq_true e)
          · rintro σ H2 ⟨rfl, ⟨u, rfl⟩, hp⟩
            obtain ⟨ns, rfl⟩ := ints_of fun j z hz => hp j (List.getElem?_eq_some_iff.mp hz).1 z hz
            have F16 := F.le
            refine ⟨_, rfl, b, ns, rfl, hs, fun ns' p hperm hsort np => ⟨_, rfl, _, rfl, RgOk.of_le (by decide) (by omega) (by decide) (by omega), fun q nq => ?_⟩⟩
            refine ⟨_, _, dp_lst (ns := ns') ?_, dp_lst (ns := iota (wd * hg)) ?_, shaped_lst _, shaped_lst _, _, rfl, ?_⟩
            · exact Same.seq (same_upd nq) sql_upd
            · rw [rgV_iota]; exact sql_upd
            · rw [eqv_lst]
              have sm : Same H2 (upd (upd H2 p (.lst (VI ns'))) q (.lst (rgV 0 ((wd * hg : Nat) : Int)))) := sm_upd (same_upd np) nq
              by_cases e : ns' = iota (wd * hg)
              · refine iteNF e (kg ?_ _ sm)
                have := hgood ns rfl (by rw [e] at hperm; exact hperm.symm)
                cases o2 with
                | none => exact absurd rfl this
                | some _ => rfl
              · refine iteNT e (kb (hbad ?_) _ sm)
                rintro ⟨st, e2, S⟩
                have := VI_inj e2
                subst this
                exact e (S.sorted hperm hsort)
        · refine iteNT (fun q => el (by have q' : ((xs.length : Nat) : Int) = ((wd * hg : Nat) : Int) := V.int.inj q; omega)) (kb (hl el) _ (Same.refl _))
      · exact iteNT et (kb (hnt et) _ (Same.refl _))
end
end Sf
namespace Sf
open PySem PySem.Spec PyProof.Rows L2
section
variable {P : Program} {w : World} {K : PySem.W.Frag} {mg : Str → Option Value} {base : Heap}
theorem ok_column_and_row (T : Tx K mg) : FnD P w base CX0 1 T.d_column_and_row (spCR K) := by
  refine T.d_column_and_row.F.ok sc_column_and_row (fun vs H Q E h => ?_) (fun cdv A outer s H vs Q E hr h => ?_)
  · obtain ⟨a, p, x, y, rfl, _⟩ := h
    rfl
  · obtain ⟨a, p, x, y, rfl, hs, F, k⟩ := h
    refine ⟨_, pss_cons (ps_set (i := 2) sc_column_and_row.nd rfl (.inl rfl) (pe_ix ix_tup (pv 0) pe_int (fun _ _ => rfl)))
      (pss_one (ps_ret (pe_tup (pa_cons (pe_op op_mod (pv 1) (pv 2)) (pa_cons (pe_op op_fdiv (pv 1) (pv 2)) pa_nil))))), ?_⟩
    have w1 := F.w1
    have w4 := F.w4
    refine ⟨_, rfl, a, _, 0, nV x, rfl, rfl, hs, rfl, ?_⟩
    refine ⟨_, rfl, _, rfl, _, _, rfl, rfl, (by show (0 : Int) < (x : Int); omega), _, rfl, _, rfl, _, _, rfl, rfl, ⟨by omega, by omega⟩, (by show 2 ≤ sizeLine; decide), fun t ht => ?_⟩
    exact k t ht
theorem ok_is_line (T : Tx K mg) : FnD P w base CX0 1 T.d_is_line (spLine K) := by
  refine T.d_is_line.F.ok sc_is_line (fun vs H Q E h => ?_) (fun cdv A outer s H vs Q E hr h => ?_)
  · obtain ⟨a, x, y, rfl, _⟩ := h
    rfl
  · obtain ⟨a, x, y, rfl, hs, k⟩ := h
    refine ⟨_, pss_one (ps_ret (pe_cmpR op_in_seq pe_int (pv 0) (by rfl))), ?_⟩
    refine ⟨_, rfl, a, _, rfl, .inr hs, rfl, rfl, ?_⟩
    have e : inV (.int 1) [nV x, nV y] = decide (x = 1 ∨ y = 1) := by
      show (((x : Int) == 1) || (((y : Int) == 1) || false)) = _
      by_cases h1 : x = 1 <;> by_cases h2 : y = 1 <;> simp [h1, h2] <;> omega
    show Q (.bl (if false = true then _ else inV (.int 1) [nV x, nV y])) H
    rw [if_neg Bool.false_ne_true, e]
    exact k
theorem ok_count_falls (T : Tx K mg) : FnD P w base CX0 1 T.d_count_falls (spFalls K) := by
  refine T.d_count_falls.F.ok sc_count_falls (fun vs H Q E h => ?_) (fun cdv A outer s H vs Q E hr h => ?_)
  · obtain ⟨a, st, rfl, _⟩ := h
    rfl
  · obtain ⟨a, st, rfl, hs, k⟩ := h
    have nd := sc_count_falls.nd
    refine ⟨_, pss_cons (ps_set (i := 1) nd rfl (.inl rfl) pe_int)
      (pss_cons (ps_for PassesOwn.never rfl (pi_enumT (by rfl) T.b_enumerate (pa1 (pv 0)))
          (pg_tup rfl (pgs_cons (pg_name (i := 2) nd rfl (.inl rfl)) (pgs_cons (pg_name (i := 3) nd rfl (.inl rfl)) pgs_nil)))
        (pss_one (ps_for PassesOwn.never rfl (pi_tup (pe_slice sl_tup (pv 0) (po_some (pe_op op_add (pv 2) pe_int)) po_none)) (pg_name (i := 4) nd rfl (.inl rfl))
          (pss_one (ps_if (pt_cmpR op_gt (pv 3) (pv 4) (nomark _)) (pss_one (ps_aug (i := 1) nd rfl (.inl rfl) pe_int ip_add)) pss_nil)))))
      (pss_one (ps_ret (pv 1)))), ?_⟩
    refine ⟨_, rfl, a, VI st, rfl, hs, for_it (walk_enumT (K := K) (a := a) (xs := VI st)) (fun i σ H2 => Same H H2 ∧ ∃ (f : Nat) (u v t : Option V), σ = [some (.ref a), some (nV f), u, v, t] ∧ f + inv (st.drop i) = inv st)
      ⟨Same.refl _, 0, none, none, none, rfl, by rw [List.drop_zero]; omega⟩ (fun i σ H2 _ p => sm_tup p.1 hs) ?_ ?_⟩
    · rintro i x σ H2 H3 hi ⟨s2, f, u, v, t, rfl, hf⟩ ⟨U, x1, x2, rfl, nU, rfl, e1, e2⟩
      cases e1
      obtain ⟨z, hz, rfl⟩ := VI_get e2
      rw [List.length_map] at hi
      refine ⟨U, _, rfl, sqt_upd, rfl, _, _, rfl, _, _, rfl, rfl, ?_⟩
      have s3 : Same H (upd H2 U (.tup [.int (i : Nat), .int z])) := sm_upd s2 nU
      refine ⟨_, rfl, _, rfl, _, _, rfl, rfl, _, rfl, a, VI st, rfl, sm_tup s3 hs, ?_, fun p np => ?_⟩
      · rintro ⟨q, _⟩
        have e : (i : Int) + 1 = ((i + 1 : Nat) : Int) := by omega
        rw [e, HT.sIx_nat, List.length_map] at q
        omega
      · have ec : cutV (VI st) (some ((i : Int) + 1)) none = VI (st.drop (i + 1)) := by
          have e : (i : Int) + 1 = ((i + 1 : Nat) : Int) := by omega
          rw [e, cut_drop _ _ (by rw [List.length_map]; omega), VI_drop]
        rw [ec]
        have s4 := sm_upd s3 (o := .tup (VI (st.drop (i + 1)))) np
        refine ⟨p, rfl, ⟨_, sqt_upd⟩, for_tup (K := K) (a := p) (xs := VI (st.drop (i + 1))) (fun j σ H4 => Same (upd (upd H2 U (.tup [.int (i : Nat), .int z])) p (.tup (VI (st.drop (i + 1))))) H4 ∧
            ∃ t : Option V, σ = [some (.ref a), some (nV (f + cnt z ((st.drop (i + 1)).take j))), some (.int (i : Nat)), some (.int z), t])
          ⟨Same.refl _, t, by rw [List.take_zero]; rfl⟩ (fun j σ H4 _ q => sm_tup q.1 sqt_upd) ?_ ?_⟩
        · rintro j y σ H4 hy ⟨s5, t', rfl⟩
          obtain ⟨y1, hy1, rfl⟩ := VI_get hy
          have ct := cnt_take (z := z) hy1
          refine ⟨_, rfl, _, rfl, _, _, rfl, rfl, _, rfl, ?_⟩
          refine ite2 (fun e => ⟨_, rfl, _, _, rfl, rfl, s5, some (.int y1), ?_⟩) fun e => ⟨s5, some (.int y1), ?_⟩
          · rw [if_pos (of_decide_eq_true e)] at ct
            rw [ct]
            rfl
          · rw [if_neg (fun q => e (decide_eq_true q))] at ct
            rw [ct]
            rfl
        · rintro σ H4 ⟨s5, t', rfl⟩
          refine ⟨fun b o e => s5 b o (s4 b o e), _, _, _, _, rfl, ?_⟩
          rw [List.length_map, List.take_length]
          have := inv_drop hz
          omega
    · rintro σ H2 ⟨s2, f, u, v, t, rfl, hf⟩
      refine ⟨_, rfl, ?_⟩
      rw [List.length_map, List.drop_length] at hf
      have e : f = inv st := by
        have : inv ([] : List Int) = 0 := rfl
        omega
      subst e
      exact k H2 s2
theorem ok_tiles_in_order (T : Tx K mg) : FnD P w base CX0 1 T.d_tiles_in_order (spTiles K) := by
  refine T.d_tiles_in_order.F.ok sc_tiles_in_order (fun vs H Q E h => ?_) (fun cdv A outer s H vs Q E hr h => ?_)
  · obtain ⟨a, st, rfl, _⟩ := h
    rfl
  · obtain ⟨a, st, rfl, hs, h16, k⟩ := h
    have nd := sc_tiles_in_order.nd
    refine ⟨_, pss_one (ps_ret (pe_lc (own := [("number", 1)]) (g := gName 1) (by rfl) nd (pi_tup (pv 0)) (blkOk_by (N := ["standing", "number"]) (sc := defScope s_tiles_in_order) (by decide +kernel))
      (fun _ _ _ _ _ => pg_name (i := 1) nd rfl (Or.inl rfl)) (fun _ _ _ _ _ => pts_one (pt_cmpR op_ne (pv 1) pe_int (nomark _))) (fun _ _ _ _ _ => pv 1))), ?_⟩
    refine ⟨_, rfl, a, rfl, ⟨_, hs⟩, fun D nD => lc_tup (K := K) (a := a) (xs := VI st) (fun i H2 => Same H H2 ∧ H2 D = some (.lst (VI (tiles (st.take i)))))
      ⟨same_upd nD, upd_same⟩ (fun i H2 _ p => sm_tup p.1 hs) ?_ ?_⟩
    · rintro i x H2 hx ⟨s2, hD⟩
      obtain ⟨z, hz, rfl⟩ := VI_get hx
      have ct := tiles_take hz
      refine ⟨rfl, _, rfl, rfl, _, rfl, ?_⟩
      have hl : (VI (tiles (st.take i))).length < sizeLine := by
        rw [List.length_map]
        have h1 := tiles_len (st.take i)
        have h2 : (st.take i).length ≤ st.length := List.length_take_le' i st
        exact small1000 (by omega)
      refine iteN2 (fun e => ⟨_, rfl, _, hD, hl, ?_, ?_⟩) fun e => ⟨s2, ?_⟩
      · exact fun b o q => by rw [upd_ne (ne_of_none q nD)]; exact s2 b o q
      · rw [if_neg (fun q => by subst q; exact absurd (of_decide_eq_false e) (fun z => z rfl))] at ct
        rw [ct, upd_same]
        show _ = some (HO.lst (VI _))
        unfold VI
        rw [List.map_append]
        rfl
      · rw [if_pos (V.int.inj (of_decide_eq_true e))] at ct
        rw [ct]
        exact hD
    · rintro H2 ⟨s2, hD⟩
      rw [List.length_map, List.take_length] at hD
      exact k H2 D s2 hD
end
end Sf
namespace Sf
open PySem PySem.Spec PyProof.Rows L2
section
variable {P : Program} {w : World} {K : PySem.W.Frag} {mg : Str → Option Value} {base : Heap}
theorem ok_side (T : Tx K mg) : FnD P w base (L2.CX P w) 4 T.d_side (spSide K T.c_BadFloor.C T.c_BadStanding.C) := by
  have G1 : FnD P w base (L2.CX P w) 3 T.d_need_standing (spNeedS K T.c_BadFloor.C T.c_BadStanding.C) := ok_need_standing T
  have G2 : FnD P w base CX0 1 T.d_column_and_row (spCR K) := ok_column_and_row T
  have G3 : FnD P w base CX0 1 T.d_count_falls (spFalls K) := ok_count_falls T
  refine T.d_side.F.okX sc_side (fun vs H Q E h => ?_) (fun cdv A outer s H vs Q E hr h => ?_)
  · obtain ⟨f, v, o, rfl, _⟩ := h
    rfl
  · obtain ⟨f, v, o, rfl, hf, kf, ks⟩ := h
    have nd := sc_side.nd
    have hr1 : Room 1 _ := hr.mono (by decide)
    refine ⟨_, pss_cons (ps_expr (pe_d T.d_need_standing G1 hr (passes_call (takes_of rfl rfl rfl rfl) (fun _ _ _ _ z => z)) (pa_cons (pv 0) (pa1 (pv 1)))))
      (pss_cons (ps_asg (pe_d T.d_column_and_row G2 hr1 pass0 (pa_cons (pv 0) (pa1 (pe_tix (pv 1) (pa1 pe_int)))))
        (pg_tup rfl (pgs_cons (pg_name (i := 2) nd rfl (.inl rfl)) (pgs_cons (pg_name (i := 3) nd rfl (.inl rfl)) pgs_nil))))
      (pss_one (ps_ret (pe_op op_mod (pe_op op_add (pe_op op_add (pe_d T.d_count_falls G3 hr1 pass0 (pa1 (pv 1))) (pv 2)) (pv 3)) pe_int)))), ?_⟩
    refine ⟨_, rfl, _, rfl, f, v, o, rfl, hf, kf, fun wd hg e => ?_⟩
    obtain ⟨o2, hv, kg, kb⟩ := ks wd hg e
    refine ⟨o2, hv, fun ho H1 s1 => ?_, kb⟩
    cases hv with
    | kind => cases ho
    | size => cases ho
    | items => cases ho
    | @good b st hs S =>
      subst e
      cases hf with
      | @good a _ _ hfs F =>
        have z1 := idx_first (S.zero F.pos)
        refine ⟨_, rfl, _, rfl, ⟨b, _, rfl, hs.same s1⟩, b, st, 0, zat st, rfl, rfl, (hs.same s1).sq, z1.2.1, z1.2.2, ?_⟩
        refine ⟨a, zat st, wd, hg, rfl, sm_tup s1 hfs, F, fun t nt => ?_⟩
        have s2 := sm_upd s1 (o := .tup [nV (zat st % wd), nV (zat st / wd)]) nt
        refine ⟨t, _, rfl, sqt_upd, rfl, _, _, rfl, _, _, rfl, rfl, ?_⟩
        refine ⟨_, rfl, b, st, rfl, (hs.same s2).sq, fun H3 s3 => ⟨_, rfl, _, _, rfl, rfl, _, rfl, _, _, rfl, rfl, _, _, rfl, rfl, (by show (0 : Int) < 2; decide), ?_⟩⟩
        exact kg st rfl H3 (s2.trans s3)
theorem ok_is_joined (T : Tx K mg) : FnD P w base (L2.CX P w) 5 T.d_is_joined (spJoin K T.c_BadFloor.C T.c_BadStanding.C) := by
  have G1 : FnD P w base (L2.CX P w) 3 T.d_need_standing (spNeedS K T.c_BadFloor.C T.c_BadStanding.C) := ok_need_standing T
  have G2 : FnD P w base CX0 1 T.d_is_line (spLine K) := ok_is_line T
  have G3 : FnD P w base CX0 1 T.d_tiles_in_order (spTiles K) := ok_tiles_in_order T
  have G4 : FnD P w base (L2.CX P w) 4 T.d_side (spSide K T.c_BadFloor.C T.c_BadStanding.C) := ok_side T
  refine T.d_is_joined.F.okX sc_is_joined (fun vs H Q E h => ?_) (fun cdv A outer s H vs Q E hr h => ?_)
  · obtain ⟨f, v, v', o, rfl, _⟩ := h
    rfl
  · obtain ⟨f, v, v', o, rfl, hf, kf, ks⟩ := h
    have hr1 : Room 1 _ := hr.mono (by decide)
    have hr3 : Room 3 _ := hr.mono (by decide)
    refine ⟨_, pss_cons (ps_expr (pe_d T.d_need_standing G1 hr3 (passes_call (takes_of rfl rfl rfl rfl) (fun _ _ _ _ z => z)) (pa_cons (pv 0) (pa1 (pv 1)))))
      (pss_cons (ps_expr (pe_d T.d_need_standing G1 hr3 (passes_call (takes_of rfl rfl rfl rfl) (fun _ _ _ _ z => z)) (pa_cons (pv 0) (pa1 (pv 2)))))
      (pss_cons (ps_if (pt_val (pe_d T.d_is_line G2 hr1 pass0 (pa1 (pv 0))))
        (pss_one (ps_ret (pe_cmpR (op_eqD hr.units) (pe_d T.d_tiles_in_order G3 hr1 pass0 (pa1 (pv 1))) (pe_d T.d_tiles_in_order G3 hr1 pass0 (pa1 (pv 2))) (nomark _)))) pss_nil)
      (pss_one (ps_ret (pe_cmpR op_eq (pe_d T.d_side G4 hr (passes_call (takes_of rfl rfl rfl rfl) (fun _ _ _ _ z => z)) (pa_cons (pv 0) (pa1 (pv 1))))
        (pe_d T.d_side G4 hr (passes_call (takes_of rfl rfl rfl rfl) (fun _ _ _ _ z => z)) (pa_cons (pv 0) (pa1 (pv 2)))) (nomark _)))))), ?_⟩
    refine ⟨_, rfl, _, rfl, f, v, o, rfl, hf, kf, fun wd hg e => ?_⟩
    obtain ⟨o2, hv, kb, k2⟩ := ks wd hg e
    refine ⟨o2, hv, fun ho H1 s1 => ?_, kb⟩
    obtain ⟨st, rfl⟩ := Option.isSome_iff_exists.mp ho
    obtain ⟨o3, hv', kb', k3⟩ := k2 st rfl
    subst e
    refine ⟨_, rfl, _, rfl, f, v', some (wd, hg), rfl, sm_fl s1 hf, fun z => (by cases z), fun _ _ e => ?_⟩
    cases e
    refine ⟨o3, sm_st s1 hv', fun ho' H2 s2 => ?_, fun q H2 s2 => kb' q H2 (s1.trans s2)⟩
    obtain ⟨st', rfl⟩ := Option.isSome_iff_exists.mp ho'
    have s12 := s1.trans s2
    have k4 := k3 st' rfl
    cases hv with
    | @good b _ hs S =>
    cases hv' with
    | @good b' _ hs' S' =>
    cases hf with
    | @good a _ _ hfs F =>
    have F16 := F.le
    refine ⟨_, rfl, a, wd, hg, rfl, sm_tup s12 hfs, _, rfl, ?_⟩
    refine ite2 (fun e => ?_) fun e => ?_
    · have el := of_decide_eq_true e
      refine ⟨_, rfl, b, st, rfl, (hs.same s12).sq, (by rw [S.len]; omega), fun H3 t s3 ht => ?_⟩
      refine ⟨_, rfl, b', st', rfl, (hs'.same (s12.trans s3)).sq, (by rw [S'.len]; omega), fun H4 t' s4 ht' => ?_⟩
      refine ⟨_, _, dp_lst (SqL.of (s4 _ _ ht)), dp_lst (SqL.of ht'), shaped_lst _, shaped_lst _, ?_⟩
      rw [eqv_lst]
      have := k4 H4 ((s12.trans s3).trans s4)
      unfold joinM at this
      rw [if_pos el] at this
      exact this
    · have el : ¬ (wd = 1 ∨ hg = 1) := fun q => e (decide_eq_true q)
      refine ⟨_, rfl, _, rfl, V.ref a, V.ref b, some (wd, hg), rfl, .good (sm_tup s12 hfs) F, fun z => (by cases z), fun _ _ e => ?_⟩
      cases e
      refine ⟨some st, .good (hs.same s12) S, fun st1 e1 H3 s3 => ?_, fun z => (by cases z)⟩
      cases e1
      have s13 := s12.trans s3
      refine ⟨_, rfl, _, rfl, V.ref a, V.ref b', some (wd, hg), rfl, .good (sm_tup s13 hfs) F, fun z => (by cases z), fun _ _ e => ?_⟩
      cases e
      refine ⟨some st', .good (hs'.same s13) S', fun st1 e1 H4 s4 => ⟨rfl, ?_⟩, fun z => (by cases z)⟩
      cases e1
      have := k4 H4 (s13.trans s4)
      unfold joinM at this
      rw [if_neg el] at this
      have e2 : decide (nV (sideM wd st) = nV (sideM wd st')) = decide (sideM wd st = sideM wd st') := by
        by_cases h : sideM wd st = sideM wd st'
        · simp [h]
        · rw [decide_eq_false h]
          exact decide_eq_false fun q => h (by have := V.int.inj q; omega)
      rw [e2]
      exact this
end
end Sf
namespace Sf
open PySem PySem.Spec PyProof.Rows L2
section
variable {P : Program} {w : World} {K : PySem.W.Frag} {mg : Str → Option Value} {base : Heap}
theorem ok_draw (T : Tx K mg) : FnD P w base CX0 1 T.d_law_draw (spDraw K) := by
  refine T.d_law_draw.F.ok sc_law_draw (fun vs H Q E h => ?_) (fun cdv A outer s H vs Q E hr h => ?_)
  · obtain ⟨a, ns, k, rfl, _⟩ := h
    rfl
  · obtain ⟨a, ns, k, rfl, hs, h0, h1, kq⟩ := h
    have nd := sc_law_draw.nd
    refine ⟨_, pss_cons (ps_set (i := 2) nd rfl (.inl rfl) pe_int)
      (Evl.pss_cut (ps_if (pt_cmpR (op_neD hr.units) (pv 0) (pe_lst pa_nil) (nomark _))
        (pss_one (ps_set (i := 2) nd rfl (.inl rfl) (pe_op op_add (pe_op op_mul pe_int (pe_b (cr_sum rfl) T.b_sum (pa1 (pv 0)))) (pe_ix ix_list (pv 0) (pe_op op_mod (pv 1) (pe_b call_len_seq T.b_len (pa1 (pv 0)))) (fun _ _ => rfl))))) pss_nil)
      (pss_cons (ps_set (i := 3) nd rfl (.inl rfl) (pe_op op_add (pe_op op_add (pe_op op_mod (pv 2) pe_int) (pe_op op_mul pe_int (pv 1))) pe_int))
      (pss_one (ps_ret (pe_op op_fdiv (pe_op op_mod (pe_op op_mul (pe_op op_mod (pe_op op_mul (pv 3) (pv 3)) pe_int) (pv 3)) pe_int) pe_int))))), ?_⟩
    refine ⟨fun σ H1 => ∃ c : Int, σ = [some (.ref a), some (.int k), some (.int c), none] ∧ Same H H1, ?_, ?_⟩
    · refine ⟨_, rfl, (by show 0 ≤ sizeLine; decide), fun p np => ⟨_, _, dp_lst (ns := ns) (Same.seq (same_upd np) hs), dp_lst (ns := []) sql_upd, shaped_lst _, shaped_lst _, _, rfl, ?_⟩⟩
      have s1 : Same H (upd H p (.lst [])) := same_upd np
      rw [eqv_lst]
      refine iteN2 (fun e => ?_) fun e => ⟨0, rfl, s1⟩
      have hne : ns ≠ [] := of_decide_eq_false e
      have hl : 0 < ns.length := List.length_pos_iff.mpr hne
      have hm1 : 0 ≤ k % (ns.length : Int) := Int.emod_nonneg _ (by omega)
      have hm2 : k % (ns.length : Int) < ns.length := Int.emod_lt_of_pos _ (by omega)
      have hlt : (k % (ns.length : Int)).toNat < ns.length := by omega
      have hsq := Same.seq s1 hs
      refine ⟨_, rfl, a, ns, rfl, hsq, _, _, rfl, rfl, .inl ⟨by decide, by decide⟩, ?_⟩
      refine ⟨_, rfl, _, rfl, _, rfl, a, VI ns, rfl, .inl hsq, _, _, rfl, rfl, (by rw [List.length_map]; omega), ?_⟩
      rw [List.length_map]
      refine ⟨a, VI ns, _, .int (ns[(k % (ns.length : Int)).toNat]), rfl, rfl, hsq, at_of (j := (k % (ns.length : Int)).toNat) (by omega) (by rw [List.getElem?_map, List.getElem?_eq_getElem hlt]; rfl), ?_⟩
      exact ⟨_, _, rfl, rfl, _, rfl, s1⟩
    · rintro σ H1 ⟨c, rfl, s1⟩
      obtain ⟨b1, b2, m, hm, hlt⟩ := draw_nat (c := c) h0 h1
      refine ⟨_, rfl, _, _, rfl, rfl, (by show (0 : Int) < 1000000007; decide), _, rfl, _, _, rfl, rfl, .inl ⟨by decide, by decide⟩, _, _, rfl, rfl, _, _, rfl, rfl, ?_⟩
      refine ⟨_, rfl, _, rfl, _, _, rfl, rfl, .inl b1, _, _, rfl, rfl, (by show (0 : Int) < 1000000007; decide), _, rfl, _, _, rfl, rfl, .inl b2, _, _, rfl, rfl, (by show (0 : Int) < 998244353; decide), _, _, rfl, rfl, ⟨by decide, by decide⟩, ?_⟩
      have := kq m H1 hlt s1
      unfold nV at this
      rw [← hm] at this
      exact this
theorem ok_whole (T : Tx K mg) : FnD P w base CX0 1 T.d_law_whole spWhole := by
  refine T.d_law_whole.F.ok sc_law_whole (fun vs H Q E h => ?_) (fun cdv A outer s H vs Q E hr h => ?_)
  · obtain ⟨i, rfl, _⟩ := h
    rfl
  · obtain ⟨i, rfl, k⟩ := h
    refine ⟨_, pss_one (ps_ret (pe_and (pe_b call_isi T.b_isinstance (pa_cons (pv 0) (pa1 (pe_ty (T := "int") T.b_int)))) (pe_one (pe_not (pe_b call_isi T.b_isinstance (pa_cons (pv 0) (pa1 (pe_ty (T := "bool") T.b_bool)))))))), ?_⟩
    refine ⟨_, rfl, _, _, _, _, true, rfl, .ty "int", .base (.int i), kit_ty (by decide +kernel), true, rfl, iteT ?_⟩
    exact ⟨_, rfl, _, _, _, _, false, rfl, .ty "bool", .base (.int i), kit_ty (by decide +kernel), false, rfl, k⟩
theorem fl_of (n : Nat) : let wd := 1 + n % 4; let hg := 1 + n / 4 % 4; (wd * hg ≠ 1 → Fl wd hg) ∧ (wd * hg = 1 → Fl (2 + n / 16 % 3) hg) := by
  intro wd hg
  have h1 : wd = 1 + n % 4 := rfl
  have h2 : hg = 1 + n / 4 % 4 := rfl
  have a1 : 1 ≤ wd := by omega
  have a2 : 1 ≤ hg := by omega
  have a3 : 1 ≤ wd * hg := Nat.mul_pos a1 a2
  refine ⟨fun h => ⟨by omega, by omega, by omega, by omega, by omega⟩, fun h => ?_⟩
  have e : hg = 1 := Nat.eq_one_of_mul_eq_one_left h
  exact ⟨by omega, by omega, by omega, by omega, by rw [e, Nat.mul_one]; omega⟩
theorem ok_floor (T : Tx K mg) : FnD P w base CX0 1 T.d_law_floor spFloor := by
  refine T.d_law_floor.F.ok sc_law_floor (fun vs H Q E h => ?_) (fun cdv A outer s H vs Q E hr h => ?_)
  · obtain ⟨n, rfl, _⟩ := h
    rfl
  · obtain ⟨n, rfl, k⟩ := h
    have nd := sc_law_floor.nd
    refine ⟨_, pss_cons (ps_par (i := 1) (j := 2) rfl nd rfl rfl (by decide) rfl rfl (pa_cons (pe_op op_add pe_int (pe_op op_mod (pv 0) pe_int)) (pa1 (pe_op op_add pe_int (pe_op op_mod (pe_op op_fdiv (pv 0) pe_int) pe_int)))) rfl)
      (pss_cons (ps_if (pt_cmpR op_eq (pe_op op_mul (pv 1) (pv 2)) pe_int (nomark _))
        (pss_one (ps_set (i := 1) nd rfl (.inl rfl) (pe_op op_add pe_int (pe_op op_mod (pe_op op_fdiv (pv 0) pe_int) pe_int)))) pss_nil)
      (pss_one (ps_ret (pe_tup (pa_cons (pv 1) (pa1 (pv 2))))))), ?_⟩
    obtain ⟨f1, f2⟩ := fl_of n
    have four : (0 : Int) < 4 := by decide
    refine ⟨_, rfl, _, _, rfl, rfl, four, _, _, rfl, rfl, _, rfl, _, _, rfl, rfl, ⟨by decide, by decide⟩, _, _, rfl, rfl, four, _, _, rfl, rfl, _, _, rfl, ?_⟩
    have e1 : (1 : Int) + (n : Int) % 4 = ((1 + n % 4 : Nat) : Int) := by omega
    have e2 : (1 : Int) + (n : Int) / 4 % 4 = ((1 + n / 4 % 4 : Nat) : Int) := by omega
    refine ⟨_, rfl, _, rfl, _, _, rfl, rfl, .inl ⟨by omega, by omega⟩, rfl, _, rfl, ?_⟩
    rw [e1, e2]
    have e3 : (((1 + n % 4 : Nat) : Int) * ((1 + n / 4 % 4 : Nat) : Int) = 1) ↔ (1 + n % 4) * (1 + n / 4 % 4) = 1 := by
      rw [← Int.natCast_mul]
      omega
    refine ite2 (fun e => ?_) fun e => ?_
    · have q := e3.mp (V.int.inj (of_decide_eq_true e))
      refine ⟨_, rfl, _, _, rfl, rfl, ⟨by decide, by decide⟩, _, _, rfl, rfl, (by show (0 : Int) < 3; decide), _, _, rfl, rfl, _, rfl, _, rfl, (by show 2 ≤ sizeLine; decide), fun t nt => ?_⟩
      have e4 : (2 : Int) + (n : Int) / 16 % 3 = ((2 + n / 16 % 3 : Nat) : Int) := by omega
      refine k t (2 + n / 16 % 3) (1 + n / 4 % 4) _ nt (f2 q) (same_upd nt) (upd_same.trans ?_)
      show some (HO.tup [.int (2 + (n : Int) / 16 % 3), .int (1 + (n : Int) / 4 % 4)]) = _
      rw [e4, e2]
    · refine ⟨_, rfl, _, rfl, (by show 2 ≤ sizeLine; decide), fun t nt => ?_⟩
      exact k t _ _ _ nt (f1 fun q => e (decide_eq_true (congrArg V.int (e3.mpr q)))) (same_upd nt) (upd_same.trans (by show some (HO.tup [.int (1 + (n : Int) % 4), .int (1 + (n : Int) / 4 % 4)]) = _; rw [e1, e2]))
end
end Sf
namespace Sf
open PySem PySem.Spec PyProof.Rows L2
section
variable {P : Program} {w : World} {K : PySem.W.Frag} {mg : Str → Option Value} {base : Heap}
theorem ok_standing (T : Tx K mg) : FnD P w base CX0 2 T.d_law_standing (spStanding K) := by
  have G1 : FnD P w base CX0 1 T.d_law_draw (spDraw K) := ok_draw T
  refine T.d_law_standing.F.ok sc_law_standing (fun vs H Q E h => ?_) (fun cdv A outer s H vs Q E hr h => ?_)
  · obtain ⟨a, f, ns, k, x, y, rfl, _⟩ := h
    rfl
  · obtain ⟨a, f, ns, k, x, y, rfl, hs, h0, h1, hf, F, kq⟩ := h
    have nd := sc_law_standing.nd
    have F16 := F.le
    have f4 := F.w4
    refine ⟨_, pss_cons (ps_setLc (i := 3) (own := [("_law_j", 4)]) (g := gName 4) (by rfl) nd rfl rfl (sw_true rfl rfl rfl (by decide +kernel))
        (pi_range1 (by rfl) T.b_range (pa1 (pe_op op_mul (pe_ix ix_tup (pv 2) pe_int (fun _ _ => rfl)) (pe_ix ix_tup (pv 2) pe_int (fun _ _ => rfl)))))
        (blkOk_by (N := ["_law_script", "_law_k", "_law_floor_here", "_law_rows", "_law_j", "_law_row"]) (sc := defScope s_law_standing) (by decide +kernel))
        (fun _ _ _ _ _ => pg_name (i := 4) nd rfl (Or.inl rfl)) (fun _ _ _ _ _ => pts_nil)
        (fun _ _ _ _ _ => pe_tup (pa_cons (pe_d T.d_law_draw G1 hr pass0 (pa_cons (pv 0) (pa1 (pe_op op_add (pv 1) (pv 4))))) (pa1 (pv 4)))))
      (pss_one (ps_ret (pe_t cr_tupD T.b_tuple (pa1 (pe_lc (own := [("_law_row", 5)]) (g := gName 5) (by rfl) nd
        (pi_list (pe_b cr_sortedP T.b_sorted (pa1 (pv 3))))
        (blkOk_by (N := ["_law_script", "_law_k", "_law_floor_here", "_law_rows", "_law_j", "_law_row"]) (sc := defScope s_law_standing) (by decide +kernel))
        (fun _ _ _ _ _ => pg_name (i := 5) nd rfl (Or.inl rfl)) (fun _ _ _ _ _ => pts_nil)
        (fun _ _ _ _ _ => pe_ix (ixT (K := K) rfl) (pv 5) pe_int (fun _ _ => rfl))))))), ?_⟩
    -- the rows
    refine ⟨_, rfl, f, _, 0, nV x, rfl, rfl, hf, rfl, _, rfl, f, _, 1, nV y, rfl, rfl, hf, rfl, _, _, rfl, rfl, .inl ⟨by omega, by omega⟩, ?_⟩
    have exy : (x : Int) * (y : Int) = ((x * y : Nat) : Int) := (Int.natCast_mul x y).symm
    refine ⟨((x * y : Nat) : Int), (by show [V.int ((x : Int) * (y : Int))] = _; rw [exy]), by omega, by omega, fun D nD => ?_⟩
    refine lc_range (lo := 0) (n := x * y) (fun i H2 => Same H H2 ∧ ∃ ts : List Addr, H2 D = some (.lst (ts.map V.ref)) ∧ ts.length = i ∧ RowsAt H2 ts)
      ⟨same_upd nD, [], upd_same, rfl, fun j t e => by cases e⟩ ?_ ?_
    · rintro i H2 hi ⟨s2, ts, hD, hl, hr2⟩
      refine ⟨rfl, ?_⟩
      refine ⟨_, rfl, _, rfl, _, rfl, _, _, rfl, rfl, a, ns, k + (0 + (i : Int)), rfl, Same.seq s2 hs, by omega, by omega, fun n H3 _ s3 => ?_⟩
      refine ⟨_, rfl, (by show 2 ≤ sizeLine; decide), fun t nt => ?_⟩
      have s4 : Same H3 (upd H3 t (.tup [nV n, .int (0 + (i : Int))])) := same_upd nt
      have s24 := s3.trans s4
      have hD4 := s24 _ _ hD
      refine ⟨_, hD4, (by rw [List.length_map]; exact small1000 (by omega)), ?_, ts ++ [t], ?_, by simp [hl], ?_⟩
      · exact fun b o q => by rw [upd_ne (ne_of_none q nD)]; exact s24 b o (s2 b o q)
      · rw [upd_same, List.map_append]
        rfl
      · have ntD : t ≠ D := fun q => by rw [q] at nt; rw [s3 _ _ hD] at nt; cases nt
        have r4 : RowsAt (upd H3 t (.tup [nV n, .int (0 + (i : Int))])) (ts ++ [t]) := (hr2.same s24).more (d := n) (by rw [upd_same, hl, Int.zero_add])
        intro j u e
        obtain ⟨d, h⟩ := r4 j u e
        refine ⟨d, ?_⟩
        rw [upd_ne (ne_of h hD4 (fun q => by cases q))]
        exact h
    · rintro H2 ⟨s2, ts, hD, hl, hr2⟩
      refine ⟨_, rfl, D, ts.map V.ref, rfl, SqL.of hD, fun z hz => ?_, fun ys p hperm np => ?_⟩
      · obtain ⟨t, ht, rfl⟩ := List.mem_map.mp hz
        obtain ⟨j, hj⟩ := List.getElem?_of_mem ht
        obtain ⟨d, h⟩ := hr2 j t hj
        exact ⟨t, d, (j : Int), rfl, h⟩
      · have s3 : Same H2 (upd H2 p (.lst ys)) := same_upd np
        have hin : ∀ z ∈ ys, ∃ (j : Nat) (t : Addr) (d : Int), z = .ref t ∧ H2 t = some (.tup [.int d, nV j]) := fun z hz => by
          obtain ⟨t, ht, rfl⟩ := List.mem_map.mp (hperm.mem_iff.mp hz)
          obtain ⟨j, hj⟩ := List.getElem?_of_mem ht
          obtain ⟨d, h⟩ := hr2 j t hj
          exact ⟨j, t, d, rfl, h⟩
        have hstd : Std (x * y) (ys.map (sndOf H2)) := by
          have q := hperm.map (sndOf H2)
          rw [rows_iota hr2, hl] at q
          exact q
        have hyl : ys.length ≤ 16 := by
          have := hperm.length_eq
          rw [List.length_map, hl] at this
          omega
        refine ⟨p, rfl, ⟨_, sql_upd⟩, fun L nL => lc_list (K := K) (a := p) (xs := ys) (fun i H4 => Same (upd H2 p (.lst ys)) H4 ∧ H4 L = some (.lst (VI ((ys.take i).map (sndOf H2)))))
          ⟨same_upd nL, upd_same⟩ (fun i H4 _ q => Same.seq q.1 sql_upd) ?_ ?_⟩
        · rintro i z H4 hz ⟨s4, hL⟩
          obtain ⟨j, t, d, rfl, ht⟩ := hin z (List.mem_of_getElem? hz)
          refine ⟨rfl, ?_⟩
          refine ⟨_, rfl, t, _, 1, nV j, rfl, rfl, SqT.of (s4 _ _ (s3 _ _ ht)), rfl, ?_⟩
          refine ⟨_, hL, ?_, fun b o q => ?_, ?_⟩
          · rw [List.length_map, List.length_map]
            have := List.length_take_le i ys
            exact small1000 (by have := List.length_take_le' i ys; omega)
          · rw [upd_ne (ne_of_none q nL)]
            exact s4 b o q
          · rw [upd_same, take_map_more hz, sndOf_at ht]
            show _ = some (HO.lst (VI _))
            unfold VI
            rw [List.map_append]
            rfl
        · rintro H4 ⟨s4, hL⟩
          rw [List.take_length] at hL
          have s24 := s2.trans (s3.trans s4)
          refine ⟨L, VI (ys.map (sndOf H2)), rfl, SqL.of hL, fun l H5 nl s5 ht => ?_⟩
          exact kq l _ H5 (s24.free nl) hstd (s24.trans s5) ht
end
end Sf
namespace Sf
open PySem PySem.Spec PyProof.Rows L2
section
variable {P : Program} {w : World} {K : PySem.W.Frag} {mg : Str → Option Value} {base : Heap}
theorem ok_moved (T : Tx K mg) : FnD P w base CX0 1 T.d_law_moved (spMoved K) := by
  refine T.d_law_moved.F.ok sc_law_moved (fun vs H Q E h => ?_) (fun cdv A outer s H vs Q E hr h => ?_)
  · obtain ⟨f, s, d, x, y, st, rfl, _⟩ := h
    rfl
  · obtain ⟨f, b, d, wd, hg, st, rfl, hf, F, hs, S, kN, kS⟩ := h
    have nd := sc_law_moved.nd
    have F16 := F.le
    have f4 := F.w4
    have g4 := F.h4
    have w1 := F.w1
    have ze := S.zat_lt F.pos
    have z1 := idx_first (S.zero F.pos)
    refine ⟨_, pss_cons (ps_asg (pv 0) (pg_tup rfl (pgs_cons (pg_name (i := 3) nd rfl (.inl rfl)) (pgs_cons (pg_name (i := 4) nd rfl (.inl rfl)) pgs_nil))))
      (pss_cons (ps_set (i := 5) nd rfl (.inl rfl) (pe_tix (pv 1) (pa1 pe_int)))
      (pss_cons (ps_par (i := 6) (j := 7) rfl nd rfl rfl (by decide) rfl rfl (pa_cons (pe_op op_mod (pv 5) (pv 3)) (pa1 (pe_op op_fdiv (pv 5) (pv 3)))) rfl)
      (Evl.pss_cut (ps_if (pt_cmpR op_eq (pv 2) pe_str (nomark _)) (pss_one (ps_set (i := 7) nd rfl (.inl rfl) (pe_op op_add (pv 7) pe_int)))
        (pss_one (ps_if (pt_cmpR op_eq (pv 2) pe_str (nomark _)) (pss_one (ps_set (i := 7) nd rfl (.inl rfl) (pe_op op_sub (pv 7) pe_int)))
        (pss_one (ps_if (pt_cmpR op_eq (pv 2) pe_str (nomark _)) (pss_one (ps_set (i := 6) nd rfl (.inl rfl) (pe_op op_add (pv 6) pe_int)))
          (pss_one (ps_set (i := 6) nd rfl (.inl rfl) (pe_op op_sub (pv 6) pe_int))))))))
      (pss_cons (ps_if (PW.pt (pw_or (pt_cmpR op_lt (pv 6) pe_int (nomark _)) (pw_or (pt_cmpR op_lt (pv 7) pe_int (nomark _)) (pw_or (pt_cmpR op_ge (pv 6) (pv 3) (nomark _)) (pw_or1 (pt_cmpR op_ge (pv 7) (pv 4) (nomark _)))))))
        (pss_one (ps_ret pe_non)) pss_nil)
      (pss_cons (ps_set (i := 8) nd rfl (.inr rfl) (pe_ix ix_tup (pv 1) (pe_op op_add (pv 6) (pe_op op_mul (pv 7) (pv 3))) (fun _ _ => rfl)))
      (pss_cons (ps_setLc (i := 9) (own := [("_law_one", 10)]) (g := gName 10) (by rfl) nd rfl rfl (sw_true rfl rfl rfl (by decide +kernel)) (pi_tup (pv 1))
        (blkOk_by (N := ["_law_floor_here", "_law_standing_here", "_law_word", "_law_wide", "_law_high", "_law_empty", "_law_x", "_law_y", "_law_tile", "_law_found", "_law_one"]) (sc := defScope s_law_moved) (by decide +kernel))
        (fun _ _ _ _ _ => pg_name (i := 10) nd rfl (Or.inl rfl)) (fun _ _ _ _ _ => pts_nil) (fun _ _ _ _ _ => pe_ifExp (pt_cmpR op_eq (pv 10) pe_int (nomark _)) (pv 8) (pv 10)))
      (pss_cons (ps_asg pe_int (pg_sub (pv 9) (pe_op op_add (pv 6) (pe_op op_mul (pv 7) (pv 3))) set_list))
      (pss_one (ps_ret (pe_t cr_tupD T.b_tuple (pa1 (pv 9)))))))))))), ?_⟩
    refine ⟨_, rfl, f, _, rfl, hf, rfl, _, _, rfl, _, _, rfl, rfl, ?_⟩
    refine ⟨_, rfl, ⟨b, _, rfl, hs⟩, b, st, 0, zat st, rfl, rfl, hs.sq, z1.2.1, z1.2.2, ?_⟩
    refine ⟨_, rfl, _, rfl, _, _, rfl, rfl, (by show (0 : Int) < (wd : Int); omega), _, rfl, _, rfl, _, _, rfl, rfl, ⟨by omega, by omega⟩, _, _, rfl, ?_⟩
    refine ⟨fun σ H1 => σ = [some (.ref f), some (.ref b), some (.str (dS d)), some (nV wd), some (nV hg), some (nV (zat st)), some (.int (crd wd (zat st) d).1), some (.int (crd wd (zat st) d).2), none, none, none] ∧ H1 = H, ?_, ?_⟩
    · refine ⟨_, rfl, rfl, _, rfl, ?_⟩
      refine ite2 (fun e => ?_) fun e => ?_
      · have ed : d = .up := of_decide_eq_true ((dS_eq d .up).symm.trans e)
        subst ed
        exact ⟨_, rfl, _, _, rfl, rfl, rfl, rfl⟩
      · have n1 : d ≠ .up := fun q => e ((dS_eq d .up).trans (decide_eq_true q))
        refine ⟨_, rfl, rfl, _, rfl, ?_⟩
        refine ite2 (fun e => ?_) fun e => ?_
        · have ed : d = .down := of_decide_eq_true ((dS_eq d .down).symm.trans e)
          subst ed
          exact ⟨_, rfl, _, _, rfl, rfl, rfl, rfl⟩
        · have n2 : d ≠ .down := fun q => e ((dS_eq d .down).trans (decide_eq_true q))
          refine ⟨_, rfl, rfl, _, rfl, ?_⟩
          refine ite2 (fun e => ?_) fun e => ?_
          · have ed : d = .left := of_decide_eq_true ((dS_eq d .left).symm.trans e)
            subst ed
            exact ⟨_, rfl, _, _, rfl, rfl, rfl, rfl⟩
          · have n3 : d ≠ .left := fun q => e ((dS_eq d .left).trans (decide_eq_true q))
            have ed : d = .right := by
              cases d with
              | up => exact absurd rfl n1
              | down => exact absurd rfl n2
              | left => exact absurd rfl n3
              | right => rfl
            subst ed
            exact ⟨_, rfl, _, _, rfl, rfl, rfl, rfl⟩
    · rintro σ H1 ⟨rfl, rfl⟩
      have out : ((crd wd (zat st) d).1 < 0 ∨ (crd wd (zat st) d).2 < 0 ∨ (wd : Int) ≤ (crd wd (zat st) d).1 ∨ (hg : Int) ≤ (crd wd (zat st) d).2) → Q .non H1 := fun o => by
        refine kN ?_ H1 (Same.refl _)
        unfold step
        rw [tgt_out (by omega) ze o]
        rfl
      have inn : ¬ ((crd wd (zat st) d).1 < 0 ∨ (crd wd (zat st) d).2 < 0 ∨ (wd : Int) ≤ (crd wd (zat st) d).1 ∨ (hg : Int) ≤ (crd wd (zat st) d).2) → ∃ t : Nat, step wd hg st d = some (swapAt st (zat st) t) ∧ t < st.length ∧
          (crd wd (zat st) d).1 + (crd wd (zat st) d).2 * wd = (t : Int) := fun o => by
        obtain ⟨t, h1, h2⟩ := tgt_in (by omega) ze o
        refine ⟨t, by unfold step; rw [h1]; rfl, ?_, h2⟩
        rw [S.len]
        exact (tgt_facts w1 ze h1).1
      have hby := crd_by (w := wd) (d := d) (show zat st < 100 by omega)
      generalize (crd wd (zat st) d).1 = cx at *
      generalize (crd wd (zat st) d).2 = cy at *
      refine ⟨_, rfl, _, _, rfl, rfl, _, rfl, ?_⟩
      refine ite2 (fun e => out (.inl (of_decide_eq_true e))) fun e1 => ?_
      refine ⟨_, rfl, _, _, rfl, rfl, _, rfl, ?_⟩
      refine ite2 (fun e => out (.inr (.inl (of_decide_eq_true e)))) fun e2 => ?_
      refine ⟨_, rfl, _, rfl, _, _, rfl, rfl, _, rfl, ?_⟩
      refine ite2 (fun e => out (.inr (.inr (.inl (of_decide_eq_true e))))) fun e3 => ?_
      refine ⟨_, rfl, _, rfl, _, _, rfl, rfl, _, rfl, ?_⟩
      refine ite2 (fun e => out (.inr (.inr (.inr (of_decide_eq_true e))))) fun e4 => ?_
      have no : ¬ (cx < 0 ∨ cy < 0 ∨ (wd : Int) ≤ cx ∨ (hg : Int) ≤ cy) := by
        rintro (q | q | q | q)
        · exact e1 (decide_eq_true q)
        · exact e2 (decide_eq_true q)
        · exact e3 (decide_eq_true q)
        · exact e4 (decide_eq_true q)
      obtain ⟨t, ht, htl, hti⟩ := inn no
      have get_t : (VI st)[t]? = some (.int (st.getD t 0)) := by rw [List.getElem?_map, getD_some htl]; rfl
      refine ⟨_, rfl, _, rfl, _, rfl, _, rfl, _, _, rfl, rfl, .inl hby, _, _, rfl, rfl, b, VI st, _, .int (st.getD t 0), rfl, rfl, hs.sq, at_of hti get_t, ?_⟩
      refine ⟨_, rfl, b, rfl, ⟨_, hs.sq⟩, fun D nD => lc_tup (K := K) (a := b) (xs := VI st) (fun i H2 => Same H1 H2 ∧ H2 D = some (.lst (VI ((st.take i).map fun z => if z = 0 then st.getD t 0 else z))))
        ⟨same_upd nD, upd_same⟩ (fun i H2 _ p => (hs.same p.1).sq) ?_ ?_⟩
      · rintro i z H2 hz ⟨s2, hD⟩
        obtain ⟨zz, hzz, rfl⟩ := VI_get hz
        have hl : (VI ((st.take i).map fun z => if z = 0 then st.getD t 0 else z)).length < sizeLine := by
          rw [List.length_map, List.length_map]
          have := List.length_take_le' i st
          have := S.len
          exact small1000 (by omega)
        refine ⟨rfl, _, rfl, rfl, _, rfl, ?_⟩
        refine ite2 (fun e => ⟨_, rfl, _, hD, hl, ?_, ?_⟩) fun e => ⟨_, rfl, _, hD, hl, ?_, ?_⟩
        · exact fun b o q => by rw [upd_ne (ne_of_none q nD)]; exact s2 b o q
        · rw [upd_same, take_map_more hzz, if_pos (V.int.inj (of_decide_eq_true e))]
          show _ = some (HO.lst (VI _))
          unfold VI
          rw [List.map_append]
          rfl
        · exact fun b o q => by rw [upd_ne (ne_of_none q nD)]; exact s2 b o q
        · rw [upd_same, take_map_more hzz, if_neg (fun q => e (decide_eq_true (congrArg V.int q)))]
          show _ = some (HO.lst (VI _))
          unfold VI
          rw [List.map_append]
          rfl
      · rintro H2 ⟨s2, hD⟩
        rw [List.length_map, List.take_length] at hD
        refine ⟨_, rfl, _, rfl, _, rfl, _, rfl, _, _, rfl, rfl, .inl hby, _, _, rfl, rfl, D, _, _, t, rfl, rfl, hD, ?_, ?_⟩
        · rw [List.length_map, List.length_map]
          exact ixN_at hti htl
        · have s3 : ∀ o, Same H1 (upd H2 D o) := fun o b u q => by rw [upd_ne (ne_of_none q nD)]; exact s2 b u q
          refine ⟨_, rfl, D, _, rfl, SqL.of upd_same, fun l H5 nl s5 hl => ?_⟩
          rw [VI_set, swap_zero S F.pos] at hl
          exact kS _ ht l H5 ((s3 _).free nl) ((s3 _).trans s5) hl
end
end Sf
namespace Sf
open PySem PySem.Spec PyProof.Rows L2
section
variable {P : Program} {w : World} {K : PySem.W.Frag} {mg : Str → Option Value} {base : Heap}
theorem filter_more {α : Type} {p : α → Bool} {l : List α} {i : Nat} {x : α} (h : l[i]? = some x) : (l.take (i + 1)).filter p = if p x = true then (l.take i).filter p ++ [x] else (l.take i).filter p := by
  rw [List.take_succ, h, List.filter_append]
  by_cases e : p x = true
  · rw [if_pos e]
    show _ ++ [x].filter p = _
    rw [List.filter_cons_of_pos e]
    rfl
  · rw [if_neg e]
    show _ ++ [x].filter p = _
    rw [List.filter_cons_of_neg e]
    simp
theorem ok_words (T : Tx K mg) : FnD P w base CX0 2 T.d_law_words (spWords K) := by
  have G1 : FnD P w base CX0 1 T.d_law_moved (spMoved K) := ok_moved T
  refine T.d_law_words.F.ok sc_law_words (fun vs H Q E h => ?_) (fun cdv A outer s H vs Q E hr h => ?_)
  · obtain ⟨f, s, x, y, st, rfl, _⟩ := h
    rfl
  · obtain ⟨f, b, wd, hg, st, rfl, hf, F, hs, S, k⟩ := h
    have nd := sc_law_words.nd
    refine ⟨_, pss_one (ps_ret (pe_lc (own := [("_law_word", 2)]) (g := gName 2) (by rfl) nd (pi_tup (pe_tup (pa_cons pe_str (pa_cons pe_str (pa_cons pe_str (pa1 pe_str))))))
      (blkOk_by (N := ["_law_floor_here", "_law_standing_here", "_law_word"]) (sc := defScope s_law_words) (by decide +kernel))
      (fun _ _ _ _ _ => pg_name (i := 2) nd rfl (Or.inl rfl)) (fun _ _ _ _ _ => pts_one (pt_cmpR op_notN (pe_d T.d_law_moved G1 hr pass0 (pa_cons (pv 0) (pa_cons (pv 1) (pa1 (pv 2))))) pe_non (nomark _))) (fun _ _ _ _ _ => pv 2))), ?_⟩
    refine ⟨(by show 4 ≤ sizeLine; decide), fun p np => ⟨p, rfl, ⟨_, sqt_upd⟩, fun D nD => ?_⟩⟩
    have s1 : Same H (upd H p (.tup (wV dirs))) := same_upd np
    refine lc_tup (K := K) (a := p) (xs := wV dirs) (fun i H2 => Same (upd H p (.tup (wV dirs))) H2 ∧ H2 D = some (.lst (wV ((dirs.take i).filter fun d => (step wd hg st d).isSome))))
      ⟨same_upd nD, upd_same⟩ (fun i H2 _ q => sm_tup q.1 sqt_upd) ?_ ?_
    · rintro i z H2 hz ⟨s2, hD⟩
      obtain ⟨d, hd, rfl⟩ : ∃ d, dirs[i]? = some d ∧ z = .str (dS d) := by
        unfold wV at hz
        rw [List.getElem?_map] at hz
        cases e : dirs[i]? with
        | none => rw [e] at hz; cases hz
        | some d => rw [e] at hz; exact ⟨d, rfl, (Option.some.inj hz).symm⟩
      have s12 := s1.trans s2
      have hfm := filter_more (p := fun d => (step wd hg st d).isSome) hd
      have hl : (wV ((dirs.take i).filter fun d => (step wd hg st d).isSome)).length < sizeLine := by
        unfold wV
        rw [List.length_map]
        have h1 := List.length_filter_le (fun d => (step wd hg st d).isSome) (dirs.take i)
        have h2 := List.length_take_le' i dirs
        have h3 : dirs.length = 4 := rfl
        exact small1000 (by omega)
      refine ⟨rfl, _, rfl, _, rfl, _, rfl, f, b, d, wd, hg, st, rfl, sm_tup s12 hf, F, hs.same s12, S, fun hn H3 s3 => ?_, fun st' hst q H3 nq s3 ht => ?_⟩
      · refine ⟨rfl, _, rfl, ?_⟩
        refine iteNF rfl ⟨s2.trans s3, ?_⟩
        rw [hn] at hfm
        rw [hfm]
        exact s3 _ _ hD
      · refine ⟨rfl, _, rfl, ?_⟩
        refine iteNT (fun z => by cases z) ⟨_, rfl, _, s3 _ _ hD, hl, fun c o e => ?_, ?_⟩
        · rw [upd_ne (ne_of_none e nD)]
          exact s3 _ _ (s2 _ _ e)
        · rw [hst] at hfm
          rw [upd_same, hfm]
          unfold wV
          rw [if_pos (show (some st').isSome = true from rfl), List.map_append]
          rfl
    · rintro H2 ⟨s2, hD⟩
      exact k D H2 (s1.free nD) (s1.trans s2) hD
theorem ok_lside (T : Tx K mg) : FnD P w base CX0 1 T.d_law_side (spLSide K) := by
  refine T.d_law_side.F.ok sc_law_side (fun vs H Q E h => ?_) (fun cdv A outer s H vs Q E hr h => ?_)
  · obtain ⟨f, s, x, y, st, rfl, _⟩ := h
    rfl
  · obtain ⟨f, b, wd, hg, st, rfl, hf, F, hs, S, k⟩ := h
    have nd := sc_law_side.nd
    have F16 := F.le
    have w1 := F.w1
    have w4 := F.w4
    have hl := S.len
    have z1 := idx_first (S.zero F.pos)
    refine ⟨_, pss_cons (ps_set (i := 2) nd rfl (.inl rfl) (pe_tix (pv 1) (pa1 pe_int)))
      (pss_cons (ps_set (i := 3) nd rfl (.inl rfl) (pe_op op_add (pe_op op_mod (pv 2) (pe_ix ix_tup (pv 0) pe_int (fun _ _ => rfl))) (pe_op op_fdiv (pv 2) (pe_ix ix_tup (pv 0) pe_int (fun _ _ => rfl)))))
      (pss_cons (ps_for PassesOwn.never rfl (pi_range1 (by rfl) T.b_range (pa1 (pe_b call_len_seq T.b_len (pa1 (pv 1))))) (pg_name (i := 4) nd rfl (.inl rfl))
        (pss_one (ps_for PassesOwn.never rfl (pi_range1 (by rfl) T.b_range (pa1 (pv 4))) (pg_name (i := 5) nd rfl (.inl rfl))
          (pss_one (ps_set (i := 3) nd rfl (.inl rfl) (pe_op op_add (pv 3) (pe_t call_int1 T.b_int (pa1 (pe_cmpR op_gt (pe_ix ix_tup (pv 1) (pv 5) (fun _ _ => rfl)) (pe_ix ix_tup (pv 1) (pv 4) (fun _ _ => rfl)) (nomark _))))))))))
      (pss_one (ps_ret (pe_op op_mod (pv 3) pe_int))))), ?_⟩
    refine ⟨_, rfl, ⟨b, _, rfl, hs⟩, b, st, 0, zat st, rfl, rfl, hs.sq, z1.2.1, z1.2.2, ?_⟩
    refine ⟨_, rfl, _, rfl, f, _, 0, nV wd, rfl, rfl, hf, rfl, _, _, rfl, rfl, (by show (0 : Int) < (wd : Int); omega), _, rfl, _, rfl, f, _, 0, nV wd, rfl, rfl, hf, rfl, _, _, rfl, rfl, ⟨by omega, by omega⟩, _, _, rfl, rfl, ?_⟩
    refine ⟨_, rfl, b, VI st, rfl, .inr hs.sq, ((st.length : Nat) : Int), (by rw [List.length_map]), by omega, by omega, ?_⟩
    refine for_range (lo := 0) (n := st.length) (fun i σ H2 => H2 = H ∧ ∃ u v : Option V, σ = [some (.ref f), some (.ref b), some (nV (zat st)), some (nV (zat st % wd + zat st / wd + inv (st.take i))), u, v]) ⟨rfl, none, none, rfl⟩ ?_ ?_
    · rintro i σ H2 hi ⟨rfl, u, v, rfl⟩
      have hz := getD_some (l := st) hi
      generalize st.getD i 0 = z at hz
      have hi0 : (0 : Int) + (i : Int) = ((i : Nat) : Int) := by omega
      refine ⟨_, rfl, ((i : Nat) : Int), (by rw [hi0]), by omega, by omega, ?_⟩
      refine for_range (lo := 0) (n := i) (fun j σ H3 => H3 = H2 ∧ ∃ v : Option V, σ = [some (.ref f), some (.ref b), some (nV (zat st)), some (nV (zat st % wd + zat st / wd + inv (st.take i) + ahead ((st.take i).take j) z)), some (.int (0 + (i : Int))), v]) ⟨rfl, v, rfl⟩ ?_ ?_
      · rintro j σ H3 hj ⟨rfl, v, rfl⟩
        have hy := getD_some (l := st) (show j < st.length by omega)
        generalize st.getD j 0 = y at hy
        have hyt : (st.take i)[j]? = some y := by rw [List.getElem?_take_of_lt hj]; exact hy
        have ht := ahead_take (z := z) hyt
        refine ⟨_, rfl, _, rfl, _, rfl, b, VI st, _, .int y, rfl, rfl, hs.sq, at_of (j := j) (by omega) (by rw [List.getElem?_map, hy]; rfl), _, rfl, _, rfl, b, VI st, _, .int z, rfl, rfl, hs.sq, at_of (j := i) (by omega) (by rw [List.getElem?_map, hz]; rfl), _, _, rfl, rfl, ?_⟩
        refine .inr ⟨_, rfl, _, _, rfl, rfl, rfl, some (.int (0 + (j : Int))), ?_⟩
        have e1 : ((zat st % wd + zat st / wd + inv (st.take i) + ahead ((st.take i).take j) z : Nat) : Int) + (if decide (z < y) = true then 1 else 0) = ((zat st % wd + zat st / wd + inv (st.take i) + ahead ((st.take i).take (j + 1)) z : Nat) : Int) := by
          rw [ht]
          by_cases h : z < y <;> simp only [h, decide_true, decide_false, if_true, if_false, Bool.false_eq_true] <;> omega
        show [some (V.ref f), some (.ref b), some (nV (zat st)), some (.int (((zat st % wd + zat st / wd + inv (st.take i) + ahead ((st.take i).take j) z : Nat) : Int) + (if decide (z < y) = true then 1 else 0))), some (.int (0 + (i : Int))), some (.int (0 + (j : Int)))] = _
        rw [e1]
      · rintro σ H3 ⟨rfl, v, rfl⟩
        refine ⟨rfl, some (.int (0 + (i : Int))), v, ?_⟩
        rw [List.take_of_length_le (l := st.take i) (by rw [List.length_take]; omega), inv_take hz]
        show _ = [some (V.ref f), some (.ref b), some (nV (zat st)), some (nV (zat st % wd + zat st / wd + (inv (st.take i) + ahead (st.take i) z))), _, v]
        rw [Nat.add_assoc (zat st % wd + zat st / wd)]
    · rintro σ H2 ⟨rfl, u, v, rfl⟩
      rw [List.take_length]
      refine ⟨_, rfl, _, _, rfl, rfl, (by show (0 : Int) < 2; decide), ?_⟩
      have e : (zat st % wd + zat st / wd + inv st) % 2 = sideM wd st := by unfold sideM; omega
      rw [← e] at k
      exact k
end
end Sf
namespace Sf
open PySem PySem.Spec PyProof.Rows L2
section
variable {P : Program} {w : World} {K : PySem.W.Frag} {mg : Str → Option Value} {base : Heap}
theorem ok_exchanged (T : Tx K mg) : FnD P w base CX0 1 T.d_law_exchanged (spExch K) := by
  refine T.d_law_exchanged.F.ok sc_law_exchanged (fun vs H Q E h => ?_) (fun cdv A outer s H vs Q E hr h => ?_)
  · obtain ⟨s, n, m, st, rfl, _⟩ := h
    rfl
  · obtain ⟨b, n, m, st, rfl, hs, S, m0, m16, k⟩ := h
    have nd := sc_law_exchanged.nd
    have hl := S.len
    refine ⟨_, pss_cons (ps_setLc (i := 3) (own := [("_law_place", 7), ("_law_one", 2)]) (g := gTup K 2 (gCons (gName 7) (gCons (gName 2) gNil))) (by rfl) nd rfl rfl (sw_true rfl rfl rfl (by decide +kernel)) (pi_enumT (by rfl) T.b_enumerate (pa1 (pv 0)))
        (blkOk_by (N := ["_law_standing_here", "_law_number", "_law_one", "_law_places", "_law_found", "_law_spot", "_law_other", "_law_place"]) (sc := defScope s_law_exchanged) (by decide +kernel))
        (fun _ _ _ _ _ => pg_tup rfl (pgs_cons (pg_name (i := 7) nd rfl (Or.inl rfl)) (pgs_cons (pg_name (i := 2) nd rfl (Or.inl rfl)) pgs_nil)))
        (fun _ _ _ _ _ => pts_one (pt_cmpR op_gt (pv 2) pe_int (nomark _))) (fun _ _ _ _ _ => pv 7))
      (pss_cons (ps_set (i := 4) nd rfl (.inl rfl) (pe_t call_list_of T.b_list (pa1 (pv 0))))
      (Evl.pss_cut (ps_if (pt_cmpR op_gt (pe_b call_len_seq T.b_len (pa1 (pv 3))) pe_int (nomark _))
        (pss_cons (ps_set (i := 5) nd rfl (.inl rfl) (pe_op op_mod (pv 1) (pe_b call_len_seq T.b_len (pa1 (pv 3)))))
        (pss_cons (ps_set (i := 2) nd rfl (.inl rfl) (pe_ix ix_list (pv 3) (pv 5) (fun _ _ => rfl)))
        (pss_cons (ps_set (i := 6) nd rfl (.inl rfl) (pe_ix ix_list (pv 3) (pe_op op_mod (pe_op op_add (pe_op op_add (pv 5) pe_int) (pe_op op_mod (pe_op op_fdiv (pv 1) pe_int) (pe_op op_sub (pe_b call_len_seq T.b_len (pa1 (pv 3))) pe_int))) (pe_b call_len_seq T.b_len (pa1 (pv 3)))) (fun _ _ => rfl)))
        (pss_one (ps_asg (pe_tup (pa_cons (pe_ix ix_list (pv 4) (pv 6) (fun _ _ => rfl)) (pa1 (pe_ix ix_list (pv 4) (pv 2) (fun _ _ => rfl)))))
          (pg_tup rfl (pgs_cons (pg_sub (pv 4) (pv 2) set_list) (pgs_cons (pg_sub (pv 4) (pv 6) set_list) pgs_nil)))))))) pss_nil)
      (pss_one (ps_ret (pe_t cr_tupD T.b_tuple (pa1 (pv 4))))))), ?_⟩
    refine ⟨_, rfl, b, VI st, rfl, hs.sq, fun D nD => lc_it (walk_enumT (K := K) (a := b) (xs := VI st)) (fun i H2 => Same H H2 ∧ H2 D = some (.lst (plV st i)))
      ⟨same_upd nD, upd_same⟩ (fun i H2 _ q => (hs.same q.1).sq) ?_ ?_⟩
    · rintro i x H2 H3 hi ⟨s2, hD⟩ ⟨U, x1, x2, rfl, nU, rfl, e1, e2⟩
      cases e1
      obtain ⟨z, hz, rfl⟩ := VI_get e2
      rw [List.length_map] at hi
      have gz : st.getD i 0 = z := by rw [List.getD_eq_getElem?_getD, hz]; rfl
      have s3 : Same H2 (upd H2 U (.tup [.int (i : Nat), .int z])) := same_upd nU
      have hl2 : (plV st i).length < sizeLine := by
        unfold plV
        rw [List.length_map]
        have := plN_len st i
        exact small1000 (by omega)
      have pm := plV_more st i
      rw [gz] at pm
      refine ⟨U, _, rfl, sqt_upd, rfl, _, _, rfl, _, _, rfl, rfl, rfl, _, rfl, _, _, rfl, rfl, _, rfl, ?_⟩
      refine ite2 (fun e => ⟨_, rfl, _, s3 _ _ hD, hl2, fun c o q => ?_, ?_⟩) fun e => ⟨s2.trans s3, ?_⟩
      · rw [upd_ne (ne_of_none q nD)]
        exact s3 _ _ (s2 _ _ q)
      · rw [if_pos (of_decide_eq_true e)] at pm
        rw [upd_same, pm]
      · rw [if_neg (fun q => e (decide_eq_true q))] at pm
        rw [pm]
        exact s3 _ _ hD
    · rintro H2 ⟨s2, hD⟩
      rw [List.length_map, hl] at hD
      refine ⟨_, rfl, b, VI st, rfl, .inr (hs.same s2).sq, fun L nL => ?_⟩
      have s3 : Same H2 (upd H2 L (.lst (VI st))) := same_upd nL
      have s23 := s2.trans s3
      have nLH : H L = none := s2.free nL
      refine ⟨fun σ H4 => ∃ st' : List Int, σ[4]? = some (some (.ref L)) ∧ H4 L = some (.lst (VI st')) ∧ Same H H4 ∧ (st' = st ∨ ∃ i j, i < m ∧ j < m ∧ i ≠ j ∧ 0 < st.getD i 0 ∧ 0 < st.getD j 0 ∧ st' = swapAt st i j), ?_, ?_⟩
      · have hpl := plV_len st m
        have hD3 := s3 _ _ hD
        refine ⟨_, rfl, D, _, rfl, .inl (SqL.of hD3), _, _, rfl, rfl, _, rfl, ?_⟩
        refine ite2 (fun e => ?_) fun e => ⟨st, rfl, upd_same, s23, .inl rfl⟩
        have h2 : 1 < (plV st m).length := by
          have := of_decide_eq_true e
          omega
        obtain ⟨a, c, la, lc, hac, pa, pc, ga, gc⟩ := pick_two n (hpl.symm) h2
        have eix := pick_idx n _ h2
        generalize hN : (plV st m).length = N at ga gc eix h2
        have va := getD_some (l := st) (show a < st.length by omega)
        have vc := getD_some (l := st) (show c < st.length by omega)
        have ga' : (VI st)[a]? = some (.int (st.getD a 0)) := by rw [List.getElem?_map, va]; rfl
        have gc' : (VI st)[c]? = some (.int (st.getD c 0)) := by rw [List.getElem?_map, vc]; rfl
        have hln : V.int ((plV st m).length : Int) = .int (N : Int) := by rw [hN]
        refine ⟨_, rfl, _, rfl, D, plV st m, rfl, .inl (SqL.of hD3), (n : Int), (N : Int), rfl, hln, (by omega), ?_⟩
        refine ⟨_, rfl, _, rfl, D, plV st m, _, nV a, rfl, rfl, SqL.of hD3, at_of (j := n % N) rfl ga, ?_⟩
        refine ⟨_, rfl, _, rfl, ((n % N : Nat) : Int), 1, rfl, rfl, _, rfl, _, _, rfl, rfl, ⟨by decide, by decide⟩, _, rfl, D, plV st m, rfl, .inl (SqL.of hD3), (N : Int), 1, hln, rfl, _, _, rfl, rfl, (by show (0 : Int) < (N : Int) - 1; omega), _, _, rfl, rfl,
          _, rfl, D, plV st m, rfl, .inl (SqL.of hD3), _, (N : Int), rfl, hln, (by omega), D, plV st m, _, nV c, rfl, rfl, SqL.of hD3, at_of (j := (n % N + 1 + n / 16 % (N - 1)) % N) eix gc, ?_⟩
        have hL : (upd H2 L (.lst (VI st))) L = some (.lst (VI st)) := upd_same
        refine ⟨_, rfl, _, rfl, L, VI st, _, _, rfl, rfl, SqL.of hL, at_of (j := c) rfl gc', _, rfl, _, rfl, L, VI st, _, _, rfl, rfl, SqL.of hL, at_of (j := a) rfl ga', (by show 2 ≤ sizeLine; decide), fun p np => ?_⟩
        have s4 : Same (upd H2 L (.lst (VI st))) (upd (upd H2 L (.lst (VI st))) p (.tup [.int (st.getD c 0), .int (st.getD a 0)])) := same_upd np
        have hL4 := s4 _ _ hL
        refine ⟨p, _, rfl, sqt_upd, rfl, _, _, rfl, _, rfl, _, rfl, L, VI st, _, a, rfl, rfl, hL4, ixN_at rfl (by rw [List.length_map]; omega), ?_⟩
        refine ⟨_, _, rfl, _, rfl, _, rfl, L, _, _, c, rfl, rfl, upd_same, ixN_at rfl (by rw [List.length_set, List.length_map]; omega), rfl, ?_⟩
        refine ⟨swapAt st a c, rfl, ?_, fun q o e => ?_, .inr ⟨a, c, la, lc, hac, pa, pc, rfl⟩⟩
        · rw [upd_same, VI_set, VI_set]
          rfl
        · have nq : q ≠ L := ne_of_none e nLH
          rw [upd_ne nq, upd_ne nq]
          exact s4 _ _ (s23 _ _ e)
      · rintro σ H4 ⟨st', h4, hL, s4, hst⟩
        exact ⟨_, h4, L, _, rfl, SqL.of hL, fun l H5 nl s5 hl5 => k l st' H5 (s4.free nl) (s4.trans s5) hl5 hst⟩
end
end Sf
namespace Sf
open PySem PySem.Spec PyProof.Rows L2
section
variable {P : Program} {w : World} {K : PySem.W.Frag} {mg : Str → Option Value} {base : Heap}
/-- side of good ones -/
theorem side_good {CF CS : Addr} {f v : Addr} {H : Hp} {wd hg : Nat} {st : List Int} {Q : VK} {E : XK} (hf : SqT K H f [nV wd, nV hg]) (F : Fl wd hg) (hs : TD H v (VI st)) (S : Std (wd * hg) st) (k : ∀ H', Same H H' → Q (nV (sideM wd st)) H') :
    spSide K CF CS [.ref f, .ref v] H Q E := by
  refine ⟨.ref f, .ref v, some (wd, hg), rfl, .good hf F, fun z => (by cases z), fun a b e => ?_⟩
  cases e
  exact ⟨some st, .good hs S, fun st1 e1 H1 s1 => (by cases e1; exact k H1 s1), fun z => (by cases z)⟩
theorem join_good {CF CS : Addr} {f v v' : Addr} {H : Hp} {wd hg : Nat} {st st' : List Int} {Q : VK} {E : XK} (hf : SqT K H f [nV wd, nV hg]) (F : Fl wd hg) (hs : TD H v (VI st)) (S : Std (wd * hg) st) (hs' : TD H v' (VI st')) (S' : Std (wd * hg) st')
    (k : ∀ H', Same H H' → Q (.bl (joinM wd hg st st')) H') : spJoin K CF CS [.ref f, .ref v, .ref v'] H Q E := by
  refine ⟨.ref f, .ref v, .ref v', some (wd, hg), rfl, .good hf F, fun z => (by cases z), fun a b e => ?_⟩
  cases e
  refine ⟨some st, .good hs S, fun z => (by cases z), fun st1 e1 => ?_⟩
  cases e1
  exact ⟨some st', .good hs' S', fun z => (by cases z), fun st1 e1 H1 s1 => (by cases e1; exact k H1 s1)⟩
theorem ok_right (T : Tx K mg) : FnD P w base CX0 6 T.d_law_right (spRight K) := by
  have G1 : FnD P w base (L2.CX P w) 4 T.d_side (spSide K T.c_BadFloor.C T.c_BadStanding.C) := ok_side T
  have G2 : FnD P w base (L2.CX P w) 5 T.d_is_joined (spJoin K T.c_BadFloor.C T.c_BadStanding.C) := ok_is_joined T
  have G3 : FnD P w base CX0 1 T.d_law_whole spWhole := ok_whole T
  refine T.d_law_right.F.ok sc_law_right (fun vs H Q E h => ?_) (fun cdv A outer s H vs Q E hr h => ?_)
  · obtain ⟨f, a, b, x, y, due, st, st', rfl, _⟩ := h
    rfl
  · obtain ⟨f, a, b, wd, hg, due, st, st', rfl, hf, F, hs, S, hs', S', hd, j1, j2, k⟩ := h
    have nd := sc_law_right.nd
    have hr1 : Room 1 _ := hr.mono (by decide)
    have hr4 : Room 4 _ := hr.mono (by decide)
    refine ⟨_, pss_cons (ps_set (i := 4) nd rfl (.inl rfl) (pe_d T.d_side G1 hr4 passL (pa_cons (pv 0) (pa1 (pv 2)))))
      (pss_cons (ps_if (PW.pt (pw_or (pt_not (pt_val (pe_d T.d_law_whole G3 hr1 pass0 (pa1 (pv 4))))) (pw_or1 (pt_cmpR op_ne (pv 4) (pv 3) (nomark _))))) (pss_one (ps_ret pe_bl)) pss_nil)
      (pss_one (ps_ret (pe_and (pe_cmpR op_isBl (pe_d T.d_is_joined G2 hr passL (pa_cons (pv 0) (pa_cons (pv 1) (pa1 (pv 2))))) pe_bl (nomark _))
        (pe_one (pe_cmpR op_isBl (pe_d T.d_is_joined G2 hr passL (pa_cons (pv 0) (pa_cons (pv 2) (pa1 (pv 1))))) pe_bl (nomark _))))))), ?_⟩
    refine ⟨_, rfl, _, rfl, ?_⟩
    dsimp only [tNil]
    refine side_good hf F hs' S' fun H1 s1 => ?_
    refine ⟨_, rfl, _, rfl, _, rfl, ?_⟩
    refine iteF ⟨_, rfl, _, rfl, rfl, _, rfl, ?_⟩
    refine iteNF (by rw [hd]) ?_
    refine ⟨_, rfl, _, rfl, _, rfl, ?_⟩
    dsimp only [tNil]
    refine join_good (sm_tup s1 hf) F (hs.same s1) S (hs'.same s1) S' fun H2 s2 => ?_
    have s12 := s1.trans s2
    refine ⟨_, _, rfl, rfl, _, rfl, ?_⟩
    rw [j1]
    refine ⟨_, rfl, _, rfl, _, rfl, ?_⟩
    dsimp only [tNil]
    refine join_good (sm_tup s12 hf) F (hs'.same s12) S' (hs.same s12) S fun H3 s3 => ?_
    refine ⟨_, _, rfl, rfl, ?_⟩
    rw [j2]
    exact k H3 (s12.trans s3)
def spLaw (K : PySem.W.Frag) : Sp := fun vs H Q _ => ∃ (a : Addr) (ns : List Int), vs = [.ref a] ∧ SqL K H a (ns.map V.int) ∧ ns.length ≤ 63 ∧ ∀ H', Q (.bl true) H'
theorem ok_law (T : Tx K mg) : FnD P w base CX0 9 T.d_law (spLaw K) := by
  have G1 : FnD P w base CX0 1 T.d_law_draw (spDraw K) := ok_draw T
  have G2 : FnD P w base CX0 1 T.d_law_floor spFloor := ok_floor T
  have G3 : FnD P w base CX0 2 T.d_law_standing (spStanding K) := ok_standing T
  have G4 : FnD P w base CX0 1 T.d_law_side (spLSide K) := ok_lside T
  have G5 : FnD P w base CX0 6 T.d_law_right (spRight K) := ok_right T
  have G6 : FnD P w base CX0 1 T.d_law_exchanged (spExch K) := ok_exchanged T
  have G7 : FnD P w base (L2.CX P w) 4 T.d_side (spSide K T.c_BadFloor.C T.c_BadStanding.C) := ok_side T
  have G8 : FnD P w base (L2.CX P w) 5 T.d_is_joined (spJoin K T.c_BadFloor.C T.c_BadStanding.C) := ok_is_joined T
  have G9 : FnD P w base CX0 2 T.d_law_words (spWords K) := ok_words T
  have G10 : FnD P w base CX0 1 T.d_law_moved (spMoved K) := ok_moved T
  refine T.d_law.F.ok sc_law (fun vs H Q E h => ?_) (fun cdv A outer s H vs Q E hr h => ?_)
  · obtain ⟨a, ns, rfl, _⟩ := h
    rfl
  · obtain ⟨a, ns, rfl, hns, h63, k⟩ := h
    have nd := sc_law.nd
    have hr1 : Room 1 _ := hr.mono (by decide)
    have hr2 : Room 2 _ := hr.mono (by decide)
    have hr4 : Room 4 _ := hr.mono (by decide)
    have hr5 : Room 5 _ := hr.mono (by decide)
    have hr6 : Room 6 _ := hr.mono (by decide)
    refine ⟨_, pss_cons (ps_set (i := 1) nd rfl (.inl rfl) (pe_d T.d_law_draw G1 hr1 pass0 (pa_cons (pv 0) (pa1 pe_int))))
      (pss_cons (ps_set (i := 2) nd rfl (.inl rfl) (pe_d T.d_law_floor G2 hr1 pass0 (pa1 (pv 1))))
      (pss_cons (ps_set (i := 3) nd rfl (.inl rfl) (pe_d T.d_law_standing G3 hr2 pass0 (pa_cons (pv 0) (pa_cons pe_int (pa1 (pv 2))))))
      (pss_cons (ps_set (i := 4) nd rfl (.inl rfl) (pe_d T.d_law_side G4 hr1 pass0 (pa_cons (pv 2) (pa1 (pv 3)))))
      (pss_cons (ps_set (i := 5) nd rfl (.inl rfl) (pv 3))
      (pss_cons (ps_for PassesOwn.never rfl (pi_range1 (by rfl) T.b_range (pa1 (pe_op op_add pe_int (pe_b call_len_seq T.b_len (pa1 (pe_slice sl_list (pv 0) po_none (po_some pe_int))))))) (pg_name (i := 6) nd rfl (.inl rfl))
        (pss_cons (ps_if (pt_not (pt_val (pe_d T.d_law_right G5 hr6 pass0 (pa_cons (pv 2) (pa_cons (pv 3) (pa_cons (pv 5) (pa1 (pv 4)))))))) (pss_one (ps_ret pe_bl)) pss_nil)
        (pss_cons (ps_set (i := 7) nd rfl (.inl rfl) (pe_d T.d_law_draw G1 hr1 pass0 (pa_cons (pv 0) (pa1 (pe_op op_add pe_int (pv 6))))))
        (pss_cons (ps_set (i := 8) nd rfl (.inl rfl) (pe_d T.d_law_exchanged G6 hr1 pass0 (pa_cons (pv 5) (pa1 (pe_op op_fdiv (pv 7) pe_int)))))
        (Evl.pss_cut (ps_if (pt_cmpR (op_neD hr.units) (pv 8) (pv 5) (nomark _))
          (pss_cons (ps_if (pt_cmpR op_ne (pe_d T.d_side G7 hr4 passL (pa_cons (pv 2) (pa1 (pv 8)))) (pe_op op_sub pe_int (pv 4)) (nomark _)) (pss_one (ps_ret pe_bl)) pss_nil)
          (pss_cons (ps_set (i := 9) nd rfl (.inl rfl) (pe_lst (pa_cons (pe_d T.d_is_joined G8 hr5 passL (pa_cons (pv 2) (pa_cons (pv 3) (pa1 (pv 8))))) (pa1 (pe_d T.d_is_joined G8 hr5 passL (pa_cons (pv 2) (pa_cons (pv 8) (pa1 (pv 3)))))))))
          (pss_one (ps_if (PW.pt (pw_or (pt_cmpR op_notBl (pe_ix ix_list (pv 9) pe_int (fun _ _ => rfl)) pe_bl (nomark _)) (pw_or1 (pt_cmpR op_notBl (pe_ix ix_list (pv 9) pe_int (fun _ _ => rfl)) pe_bl (nomark _))))) (pss_one (ps_ret pe_bl)) pss_nil)))) pss_nil)
        (pss_cons (ps_set (i := 10) nd rfl (.inl rfl) (pe_d T.d_law_words G9 hr2 pass0 (pa_cons (pv 2) (pa1 (pv 5)))))
        (pss_one (ps_set (i := 5) nd rfl (.inl rfl) (pe_d T.d_law_moved G10 hr1 pass0 (pa_cons (pv 2) (pa_cons (pv 5) (pa1 (pe_ix ix_list (pv 10) (pe_op op_mod (pv 7) (pe_b call_len_seq T.b_len (pa1 (pv 10)))) (fun _ _ => rfl))))))))))))))
      (pss_one (ps_ret (pe_d T.d_law_right G5 hr6 pass0 (pa_cons (pv 2) (pa_cons (pv 3) (pa_cons (pv 5) (pa1 (pv 4))))))))))))), ?_⟩
    refine ⟨_, rfl, a, ns, 0, rfl, hns, by decide, by decide, fun n0 H1 _ s1 => ?_⟩
    refine ⟨_, rfl, n0, rfl, fun f wd hg H2 nf F s2 hf => ?_⟩
    have s12 := s1.trans s2
    refine ⟨_, rfl, _, rfl, a, f, ns, 1, wd, hg, rfl, Same.seq s12 hns, by decide, by decide, SqT.of hf, F, fun b st H3 nb S s3 hb => ?_⟩
    have s13 := s12.trans s3
    have hf3 : SqT K H3 f [nV wd, nV hg] := SqT.of (s3 _ _ hf)
    refine ⟨_, rfl, _, rfl, f, b, wd, hg, st, rfl, hf3, F, hb, S, ?_⟩
    refine ⟨_, rfl, ?_⟩
    refine ⟨_, rfl, _, rfl, a, VI ns, rfl, Same.seq s13 hns, fun p np => ?_⟩
    have hcut := neg_cut (VI ns)
    rw [List.length_map] at hcut
    have s4 : Same H3 (upd H3 p (.lst (cutV (VI ns) none (some 63)))) := same_upd np
    refine ⟨p, _, rfl, .inl sql_upd, _, _, rfl, rfl, _, rfl, by omega, by omega, ?_⟩
    generalize (cutV (VI ns) none (some 63)).length = L at hcut
    have came0 : Came wd hg st st := ⟨S, rfl, fun _ => rfl⟩
    refine for_range (lo := 0) (n := (2 + (L : Int) - 0).toNat) (fun i σ H5 => Same H3 H5 ∧ ∃ (c : Addr) (st' : List Int) (u1 u2 u3 u4 u5 : Option V), σ = [some (.ref a), some (nV n0), some (.ref f), some (.ref b), some (nV (sideM wd st)), some (.ref c), u1, u2, u3, u4, u5] ∧ TD H5 c (VI st') ∧ Came wd hg st st')
      ⟨s4, b, st, none, none, none, none, none, rfl, hb.same s4, came0⟩ ?_ ?_
    · rintro i σ H5 hi ⟨s5, c, st', u1, u2, u3, u4, u5, rfl, hc, came⟩
      have f5 := sm_tup s5 hf3
      obtain ⟨j1, j2⟩ := came.join
      refine ⟨_, rfl, _, rfl, _, rfl, _, rfl, f, b, c, wd, hg, sideM wd st, st, st', rfl, f5, F, hb.same s5, S, hc, came.S, came.side, j1, j2, fun H6 s6 => ⟨_, rfl, ?_⟩⟩
      refine iteF ?_
      have s56 := s5.trans s6
      refine ⟨_, rfl, _, rfl, _, _, rfl, rfl, a, ns, 30 + (0 + (i : Int)), rfl, Same.seq (s13.trans s56) hns, by omega, by omega, fun n1 H7 _ s7 => ?_⟩
      have s57 := s56.trans s7
      have hc7 := hc.same (s6.trans s7)
      have F16 := F.le
      refine ⟨_, rfl, _, rfl, _, _, rfl, rfl, ⟨by decide, by decide⟩, c, n1 / 4, wd * hg, st', rfl, hc7, came.S, F.pos, F16, fun d st'' H8 nd8 s8 hd hst => ?_⟩
      have s58 := s57.trans s8
      have hc8 := hc7.same s8
      have f8 := sm_tup s58 hf3
      have b8 := hb.same s58
      refine ⟨fun σ H9 => Same H8 H9 ∧ ∃ (u4 : Option V), σ = [some (.ref a), some (nV n0), some (.ref f), some (.ref b), some (nV (sideM wd st)), some (.ref c), some (.int (0 + (i : Int))), some (nV n1), some (.ref d), u4, u5], ?_, ?_⟩
      · refine ⟨_, rfl, _, rfl, _, _, dp_tup hd.sq, dp_tup hc8.sq, shaped_tup _, shaped_tup _, _, rfl, ?_⟩
        rw [eqv_tup]
        refine iteN2 (fun e => ?_) fun e => ⟨Same.refl _, u4, rfl⟩
        have hne : st'' ≠ st' := of_decide_eq_false e
        rcases hst with q | ⟨i1, i2, l1, l2, n12, p1, p2, q⟩
        · exact absurd q hne
        · obtain ⟨S'', hside, jf1, jf2⟩ := came.exch F l1 l2 n12 p1 p2
          rw [← q] at S'' hside jf1 jf2
          refine ⟨_, rfl, _, rfl, ?_⟩
          dsimp only [tNil]
          refine side_good f8 F hd S'' fun H9 s9 => ?_
          have hle := side_le wd st
          refine ⟨_, rfl, _, _, rfl, rfl, rfl, _, rfl, ?_⟩
          refine iteNF ?_ ?_
          · show V.int ((sideM wd st'' : Nat) : Int) = V.int (1 - ((sideM wd st : Nat) : Int))
            rw [hside]
            exact congrArg V.int (by omega)
          have s89 := s9
          refine ⟨_, rfl, _, rfl, _, rfl, ?_⟩
          dsimp only [tNil]
          refine join_good (sm_tup s9 f8) F (b8.same s9) S (hd.same s9) S'' fun H10 s10 => ?_
          refine ⟨_, rfl, _, rfl, _, rfl, ?_⟩
          dsimp only [tNil]
          refine join_good (sm_tup (s9.trans s10) f8) F (hd.same (s9.trans s10)) S'' (b8.same (s9.trans s10)) S fun H11 s11 => ?_
          rw [jf1, jf2]
          refine ⟨(by show 2 ≤ sizeLine; decide), fun l nl => ?_⟩
          refine ⟨_, rfl, l, _, 0, .bl false, rfl, rfl, sql_upd, rfl, _, _, rfl, rfl, _, rfl, ?_⟩
          refine iteNF rfl ⟨_, rfl, l, _, 1, .bl false, rfl, rfl, sql_upd, rfl, _, _, rfl, rfl, _, rfl, ?_⟩
          exact iteNF rfl ⟨sm_upd ((s9.trans s10).trans s11) nl, _, rfl⟩
      · rintro σ H9 ⟨s9, u4', rfl⟩
        have f9 := sm_tup s9 f8
        have hc9 := hc8.same s9
        refine ⟨_, rfl, _, rfl, f, c, wd, hg, st', rfl, f9, F, hc9, came.S, fun l H10 nl s10 hl => ?_⟩
        have hw := words_some F came.S
        have hlw := wV_len (wordsM wd hg st')
        obtain ⟨dd, e1, e2⟩ := wV_get (ds := wordsM wd hg st') (Nat.mod_lt n1 hw)
        obtain ⟨st3, h3⟩ := words_step e1
        refine ⟨_, rfl, _, rfl, _, rfl, _, rfl, _, rfl, l, _, rfl, .inl (SqL.of hl), _, _, rfl, rfl, ?_, l, _, _, _, rfl, rfl, SqL.of hl, at_of (j := n1 % (wordsM wd hg st').length) (by rw [hlw]; rfl) e2, ?_⟩
        · show (0 : Int) < ((wV (wordsM wd hg st')).length : Int)
          omega
        · refine ⟨f, c, dd, wd, hg, st', rfl, sm_tup s10 f9, F, hc9.same s10, came.S, fun q => ?_, fun st4 q t H11 nt s11 ht => ?_⟩
          · rw [h3] at q; cases q
          · rw [h3] at q
            cases q
            exact ⟨((s58.trans s9).trans s10).trans s11, t, st3, _, _, _, _, _, rfl, ht, came.step F h3⟩
    · rintro σ H5 ⟨s5, c, st', u1, u2, u3, u4, u5, rfl, hc, came⟩
      obtain ⟨j1, j2⟩ := came.join
      exact ⟨_, rfl, _, rfl, _, rfl, _, rfl, f, b, c, wd, hg, sideM wd st, st, st', rfl, sm_tup s5 hf3, F, hb.same s5, S, hc, came.S, came.side, j1, j2, fun H6 s6 => k H6⟩
end
end Sf
namespace Sf
open PySem PySem.Spec PyProof.Rows L2

theorem all_mk {l : PySem.W.OpenLaw} {w : World} {K : PySem.W.Frag} {h : Heap} {mg : Str → Option Value} {fa : Addr} (X : K.In h) (G : h.Ns mainGlobals mg) (hfa : mg "law" = some (.ref fa))
    {f0 : Addr} {od0 an0 : Option Addr} {sl0 : Array (Option Value)} {oc0 kV0 dc0 pm0 cd0 ct0 : Value}
    {f1 : Addr} {od1 an1 : Option Addr} {sl1 : Array (Option Value)} {oc1 kV1 dc1 pm1 cd1 ct1 : Value}
    {f2 : Addr} {od2 an2 : Option Addr} {sl2 : Array (Option Value)} {oc2 kV2 dc2 pm2 cd2 ct2 : Value}
    {f3 : Addr} {od3 an3 : Option Addr} {sl3 : Array (Option Value)} {oc3 kV3 dc3 pm3 cd3 ct3 : Value}
    {f4 : Addr} {od4 an4 : Option Addr} {sl4 : Array (Option Value)} {oc4 kV4 dc4 pm4 cd4 ct4 : Value}
    {f5 : Addr} {od5 an5 : Option Addr} {sl5 : Array (Option Value)} {oc5 kV5 dc5 pm5 cd5 ct5 : Value}
    {f6 : Addr} {od6 an6 : Option Addr} {sl6 : Array (Option Value)} {oc6 kV6 dc6 pm6 cd6 ct6 : Value}
    {f7 : Addr} {od7 an7 : Option Addr} {sl7 : Array (Option Value)} {oc7 kV7 dc7 pm7 cd7 ct7 : Value}
    {f8 : Addr} {od8 an8 : Option Addr} {sl8 : Array (Option Value)} {oc8 kV8 dc8 pm8 cd8 ct8 : Value}
    {f9 : Addr} {od9 an9 : Option Addr} {sl9 : Array (Option Value)} {oc9 kV9 dc9 pm9 cd9 ct9 : Value}
    {f10 : Addr} {od10 an10 : Option Addr} {sl10 : Array (Option Value)} {oc10 kV10 dc10 pm10 cd10 ct10 : Value}
    {f11 : Addr} {od11 an11 : Option Addr} {sl11 : Array (Option Value)} {oc11 kV11 dc11 pm11 cd11 ct11 : Value}
    {f12 : Addr} {od12 an12 : Option Addr} {sl12 : Array (Option Value)} {oc12 kV12 dc12 pm12 cd12 ct12 : Value}
    {f13 : Addr} {od13 an13 : Option Addr} {sl13 : Array (Option Value)} {oc13 kV13 dc13 pm13 cd13 ct13 : Value}
    {f14 : Addr} {od14 an14 : Option Addr} {sl14 : Array (Option Value)} {oc14 kV14 dc14 pm14 cd14 ct14 : Value}
    {f15 : Addr} {od15 an15 : Option Addr} {sl15 : Array (Option Value)} {oc15 kV15 dc15 pm15 cd15 ct15 : Value}
    {f16 : Addr} {od16 an16 : Option Addr} {sl16 : Array (Option Value)} {oc16 kV16 dc16 pm16 cd16 ct16 : Value}
    {f17 : Addr} {od17 an17 : Option Addr} {sl17 : Array (Option Value)} {oc17 kV17 dc17 pm17 cd17 ct17 : Value}
    {f18 : Addr} {od18 an18 : Option Addr} {sl18 : Array (Option Value)} {oc18 kV18 dc18 pm18 cd18 ct18 : Value}
    {f19 : Addr} {od19 an19 : Option Addr} {sl19 : Array (Option Value)} {oc19 kV19 dc19 pm19 cd19 ct19 : Value}
    {C0 : Addr}
    {C1 : Addr}
    {C2 : Addr}
    {t0 : Tok}
    {t1 : Tok}
    (a0 : PySem.W.nsIn K mainGlobals "need_floor" = some (some (.ref f0))) (l0 : K.lookup f0 = some ⟨oc0, od0, .func (PySem.W.fnOf "need_floor" "need_floor" (defArgs s_need_floor) (defBody s_need_floor) (defScope s_need_floor) .none kV0 dc0 pm0 an0 cd0 ct0), sl0⟩) (c0 : PySem.W.codeIn K cd0 "need_floor" = true) (k0 : PySem.W.keepIn K (.ref f0) = true)
    (a1 : PySem.W.nsIn K mainGlobals "need_standing" = some (some (.ref f1))) (l1 : K.lookup f1 = some ⟨oc1, od1, .func (PySem.W.fnOf "need_standing" "need_standing" (defArgs s_need_standing) (defBody s_need_standing) (defScope s_need_standing) .none kV1 dc1 pm1 an1 cd1 ct1), sl1⟩) (c1 : PySem.W.codeIn K cd1 "need_standing" = true) (k1 : PySem.W.keepIn K (.ref f1) = true)
    (a2 : PySem.W.nsIn K mainGlobals "is_number" = some (some (.ref f2))) (l2 : K.lookup f2 = some ⟨oc2, od2, .func (PySem.W.fnOf "is_number" "is_number" (defArgs s_is_number) (defBody s_is_number) (defScope s_is_number) .none kV2 dc2 pm2 an2 cd2 ct2), sl2⟩) (c2 : PySem.W.codeIn K cd2 "is_number" = true) (k2 : PySem.W.keepIn K (.ref f2) = true)
    (a3 : PySem.W.nsIn K mainGlobals "count_places" = some (some (.ref f3))) (l3 : K.lookup f3 = some ⟨oc3, od3, .func (PySem.W.fnOf "count_places" "count_places" (defArgs s_count_places) (defBody s_count_places) (defScope s_count_places) .none kV3 dc3 pm3 an3 cd3 ct3), sl3⟩) (c3 : PySem.W.codeIn K cd3 "count_places" = true) (k3 : PySem.W.keepIn K (.ref f3) = true)
    (a4 : PySem.W.nsIn K mainGlobals "column_and_row" = some (some (.ref f4))) (l4 : K.lookup f4 = some ⟨oc4, od4, .func (PySem.W.fnOf "column_and_row" "column_and_row" (defArgs s_column_and_row) (defBody s_column_and_row) (defScope s_column_and_row) .none kV4 dc4 pm4 an4 cd4 ct4), sl4⟩) (c4 : PySem.W.codeIn K cd4 "column_and_row" = true) (k4 : PySem.W.keepIn K (.ref f4) = true)
    (a5 : PySem.W.nsIn K mainGlobals "side" = some (some (.ref f5))) (l5 : K.lookup f5 = some ⟨oc5, od5, .func (PySem.W.fnOf "side" "side" (defArgs s_side) (defBody s_side) (defScope s_side) .none kV5 dc5 pm5 an5 cd5 ct5), sl5⟩) (c5 : PySem.W.codeIn K cd5 "side" = true) (k5 : PySem.W.keepIn K (.ref f5) = true)
    (a6 : PySem.W.nsIn K mainGlobals "is_joined" = some (some (.ref f6))) (l6 : K.lookup f6 = some ⟨oc6, od6, .func (PySem.W.fnOf "is_joined" "is_joined" (defArgs s_is_joined) (defBody s_is_joined) (defScope s_is_joined) .none kV6 dc6 pm6 an6 cd6 ct6), sl6⟩) (c6 : PySem.W.codeIn K cd6 "is_joined" = true) (k6 : PySem.W.keepIn K (.ref f6) = true)
    (a7 : PySem.W.nsIn K mainGlobals "is_line" = some (some (.ref f7))) (l7 : K.lookup f7 = some ⟨oc7, od7, .func (PySem.W.fnOf "is_line" "is_line" (defArgs s_is_line) (defBody s_is_line) (defScope s_is_line) .none kV7 dc7 pm7 an7 cd7 ct7), sl7⟩) (c7 : PySem.W.codeIn K cd7 "is_line" = true) (k7 : PySem.W.keepIn K (.ref f7) = true)
    (a8 : PySem.W.nsIn K mainGlobals "count_falls" = some (some (.ref f8))) (l8 : K.lookup f8 = some ⟨oc8, od8, .func (PySem.W.fnOf "count_falls" "count_falls" (defArgs s_count_falls) (defBody s_count_falls) (defScope s_count_falls) .none kV8 dc8 pm8 an8 cd8 ct8), sl8⟩) (c8 : PySem.W.codeIn K cd8 "count_falls" = true) (k8 : PySem.W.keepIn K (.ref f8) = true)
    (a9 : PySem.W.nsIn K mainGlobals "tiles_in_order" = some (some (.ref f9))) (l9 : K.lookup f9 = some ⟨oc9, od9, .func (PySem.W.fnOf "tiles_in_order" "tiles_in_order" (defArgs s_tiles_in_order) (defBody s_tiles_in_order) (defScope s_tiles_in_order) .none kV9 dc9 pm9 an9 cd9 ct9), sl9⟩) (c9 : PySem.W.codeIn K cd9 "tiles_in_order" = true) (k9 : PySem.W.keepIn K (.ref f9) = true)
    (a10 : PySem.W.nsIn K mainGlobals "_law_draw" = some (some (.ref f10))) (l10 : K.lookup f10 = some ⟨oc10, od10, .func (PySem.W.fnOf "_law_draw" "_law_draw" (defArgs s_law_draw) (defBody s_law_draw) (defScope s_law_draw) .none kV10 dc10 pm10 an10 cd10 ct10), sl10⟩) (c10 : PySem.W.codeIn K cd10 "_law_draw" = true) (k10 : PySem.W.keepIn K (.ref f10) = true)
    (a11 : PySem.W.nsIn K mainGlobals "_law_whole" = some (some (.ref f11))) (l11 : K.lookup f11 = some ⟨oc11, od11, .func (PySem.W.fnOf "_law_whole" "_law_whole" (defArgs s_law_whole) (defBody s_law_whole) (defScope s_law_whole) .none kV11 dc11 pm11 an11 cd11 ct11), sl11⟩) (c11 : PySem.W.codeIn K cd11 "_law_whole" = true) (k11 : PySem.W.keepIn K (.ref f11) = true)
    (a12 : PySem.W.nsIn K mainGlobals "_law_floor" = some (some (.ref f12))) (l12 : K.lookup f12 = some ⟨oc12, od12, .func (PySem.W.fnOf "_law_floor" "_law_floor" (defArgs s_law_floor) (defBody s_law_floor) (defScope s_law_floor) .none kV12 dc12 pm12 an12 cd12 ct12), sl12⟩) (c12 : PySem.W.codeIn K cd12 "_law_floor" = true) (k12 : PySem.W.keepIn K (.ref f12) = true)
    (a13 : PySem.W.nsIn K mainGlobals "_law_standing" = some (some (.ref f13))) (l13 : K.lookup f13 = some ⟨oc13, od13, .func (PySem.W.fnOf "_law_standing" "_law_standing" (defArgs s_law_standing) (defBody s_law_standing) (defScope s_law_standing) .none kV13 dc13 pm13 an13 cd13 ct13), sl13⟩) (c13 : PySem.W.codeIn K cd13 "_law_standing" = true) (k13 : PySem.W.keepIn K (.ref f13) = true)
    (a14 : PySem.W.nsIn K mainGlobals "_law_moved" = some (some (.ref f14))) (l14 : K.lookup f14 = some ⟨oc14, od14, .func (PySem.W.fnOf "_law_moved" "_law_moved" (defArgs s_law_moved) (defBody s_law_moved) (defScope s_law_moved) .none kV14 dc14 pm14 an14 cd14 ct14), sl14⟩) (c14 : PySem.W.codeIn K cd14 "_law_moved" = true) (k14 : PySem.W.keepIn K (.ref f14) = true)
    (a15 : PySem.W.nsIn K mainGlobals "_law_words" = some (some (.ref f15))) (l15 : K.lookup f15 = some ⟨oc15, od15, .func (PySem.W.fnOf "_law_words" "_law_words" (defArgs s_law_words) (defBody s_law_words) (defScope s_law_words) .none kV15 dc15 pm15 an15 cd15 ct15), sl15⟩) (c15 : PySem.W.codeIn K cd15 "_law_words" = true) (k15 : PySem.W.keepIn K (.ref f15) = true)
    (a16 : PySem.W.nsIn K mainGlobals "_law_side" = some (some (.ref f16))) (l16 : K.lookup f16 = some ⟨oc16, od16, .func (PySem.W.fnOf "_law_side" "_law_side" (defArgs s_law_side) (defBody s_law_side) (defScope s_law_side) .none kV16 dc16 pm16 an16 cd16 ct16), sl16⟩) (c16 : PySem.W.codeIn K cd16 "_law_side" = true) (k16 : PySem.W.keepIn K (.ref f16) = true)
    (a17 : PySem.W.nsIn K mainGlobals "_law_exchanged" = some (some (.ref f17))) (l17 : K.lookup f17 = some ⟨oc17, od17, .func (PySem.W.fnOf "_law_exchanged" "_law_exchanged" (defArgs s_law_exchanged) (defBody s_law_exchanged) (defScope s_law_exchanged) .none kV17 dc17 pm17 an17 cd17 ct17), sl17⟩) (c17 : PySem.W.codeIn K cd17 "_law_exchanged" = true) (k17 : PySem.W.keepIn K (.ref f17) = true)
    (a18 : PySem.W.nsIn K mainGlobals "_law_right" = some (some (.ref f18))) (l18 : K.lookup f18 = some ⟨oc18, od18, .func (PySem.W.fnOf "_law_right" "_law_right" (defArgs s_law_right) (defBody s_law_right) (defScope s_law_right) .none kV18 dc18 pm18 an18 cd18 ct18), sl18⟩) (c18 : PySem.W.codeIn K cd18 "_law_right" = true) (k18 : PySem.W.keepIn K (.ref f18) = true)
    (a19 : PySem.W.nsIn K mainGlobals "law" = some (some (.ref f19))) (l19 : K.lookup f19 = some ⟨oc19, od19, .func (PySem.W.fnOf "law" "law" (defArgs s_law) (defBody s_law) (defScope s_law) .none kV19 dc19 pm19 an19 cd19 ct19), sl19⟩) (c19 : PySem.W.codeIn K cd19 "law" = true) (k19 : PySem.W.keepIn K (.ref f19) = true)
    (q0 : PySem.W.nsIn K mainGlobals "SlideError" = some (some (.ref C0))) (q0x : PySem.W.excIn K C0 [.type "ValueError", .type "Exception", .type "BaseException", .type "object"] "ValueError.__new__" = true) (q0k : PySem.W.keepIn K (.ref C0) = true) (q0b : PySem.W.subIn K (.ref C0) (.type "BaseException") = some true) (q0t : PySem.W.typeIn K (.ref C0) = some (.type "type"))
    (q1 : PySem.W.nsIn K mainGlobals "BadFloor" = some (some (.ref C1))) (q1x : PySem.W.excIn K C1 [.type "ValueError", .type "Exception", .type "BaseException", .type "object"] "ValueError.__new__" = true) (q1k : PySem.W.keepIn K (.ref C1) = true) (q1b : PySem.W.subIn K (.ref C1) (.type "BaseException") = some true) (q1t : PySem.W.typeIn K (.ref C1) = some (.type "type"))
    (q2 : PySem.W.nsIn K mainGlobals "BadStanding" = some (some (.ref C2))) (q2x : PySem.W.excIn K C2 [.type "ValueError", .type "Exception", .type "BaseException", .type "object"] "ValueError.__new__" = true) (q2k : PySem.W.keepIn K (.ref C2) = true) (q2b : PySem.W.subIn K (.ref C2) (.type "BaseException") = some true) (q2t : PySem.W.typeIn K (.ref C2) = some (.type "type"))
    (t0' : PySem.W.nsIn K mainGlobals "LONGEST_SIDE" = some (some (.int 4 t0)))
    (t1' : PySem.W.nsIn K mainGlobals "FEWEST_PLACES" = some (some (.int 2 t1)))
    (z_len : PySem.W.nsIn K mainGlobals "len" = some none)
    (z_sorted : PySem.W.nsIn K mainGlobals "sorted" = some none)
    (z_list : PySem.W.nsIn K mainGlobals "list" = some none)
    (z_range : PySem.W.nsIn K mainGlobals "range" = some none)
    (z_tuple : PySem.W.nsIn K mainGlobals "tuple" = some none)
    (z_type : PySem.W.nsIn K mainGlobals "type" = some none)
    (z_int : PySem.W.nsIn K mainGlobals "int" = some none)
    (z_isinstance : PySem.W.nsIn K mainGlobals "isinstance" = some none)
    (z_enumerate : PySem.W.nsIn K mainGlobals "enumerate" = some none)
    (z_sum : PySem.W.nsIn K mainGlobals "sum" = some none)
    (z_bool : PySem.W.nsIn K mainGlobals "bool" = some none)
    (z_ValueError : PySem.W.nsIn K mainGlobals "ValueError" = some none) :
    ∃ fd : FuncData, (∀ (s : Shared) (v : Value), BindsTo s fd ⟨[v], []⟩ [("_law_script", v)]) ∧ ∀ base : Heap, K.In base → base.Ns mainGlobals mg → FnOk l.prog w K mg base CX0 9 fa fd ["_law_script"] (spLaw K) := by
  have e := hfa.symm.trans (PySem.W.mg_of X G a19)
  cases e
  let T : Tx K mg := {
    d_need_floor := ⟨f0, _, fun_mk (st := s_need_floor) l0 c0 k0, (fun_mk (st := s_need_floor) l0 c0 k0).binds (ps := ["floor"]) fun _ _ _ _ _ _ us hl => match us, hl with | [_], _ => rfl, PySem.W.mg_of X G a0⟩,
    d_need_standing := ⟨f1, _, fun_mk (st := s_need_standing) l1 c1 k1, (fun_mk (st := s_need_standing) l1 c1 k1).binds (ps := ["floor", "standing"]) fun _ _ _ _ _ _ us hl => match us, hl with | [_, _], _ => rfl, PySem.W.mg_of X G a1⟩,
    d_is_number := ⟨f2, _, fun_mk (st := s_is_number) l2 c2 k2, (fun_mk (st := s_is_number) l2 c2 k2).binds (ps := ["value"]) fun _ _ _ _ _ _ us hl => match us, hl with | [_], _ => rfl, PySem.W.mg_of X G a2⟩,
    d_count_places := ⟨f3, _, fun_mk (st := s_count_places) l3 c3 k3, (fun_mk (st := s_count_places) l3 c3 k3).binds (ps := ["floor"]) fun _ _ _ _ _ _ us hl => match us, hl with | [_], _ => rfl, PySem.W.mg_of X G a3⟩,
    d_column_and_row := ⟨f4, _, fun_mk (st := s_column_and_row) l4 c4 k4, (fun_mk (st := s_column_and_row) l4 c4 k4).binds (ps := ["floor", "place"]) fun _ _ _ _ _ _ us hl => match us, hl with | [_, _], _ => rfl, PySem.W.mg_of X G a4⟩,
    d_side := ⟨f5, _, fun_mk (st := s_side) l5 c5 k5, (fun_mk (st := s_side) l5 c5 k5).binds (ps := ["floor", "standing"]) fun _ _ _ _ _ _ us hl => match us, hl with | [_, _], _ => rfl, PySem.W.mg_of X G a5⟩,
    d_is_joined := ⟨f6, _, fun_mk (st := s_is_joined) l6 c6 k6, (fun_mk (st := s_is_joined) l6 c6 k6).binds (ps := ["floor", "one", "other"]) fun _ _ _ _ _ _ us hl => match us, hl with | [_, _, _], _ => rfl, PySem.W.mg_of X G a6⟩,
    d_is_line := ⟨f7, _, fun_mk (st := s_is_line) l7 c7 k7, (fun_mk (st := s_is_line) l7 c7 k7).binds (ps := ["floor"]) fun _ _ _ _ _ _ us hl => match us, hl with | [_], _ => rfl, PySem.W.mg_of X G a7⟩,
    d_count_falls := ⟨f8, _, fun_mk (st := s_count_falls) l8 c8 k8, (fun_mk (st := s_count_falls) l8 c8 k8).binds (ps := ["standing"]) fun _ _ _ _ _ _ us hl => match us, hl with | [_], _ => rfl, PySem.W.mg_of X G a8⟩,
    d_tiles_in_order := ⟨f9, _, fun_mk (st := s_tiles_in_order) l9 c9 k9, (fun_mk (st := s_tiles_in_order) l9 c9 k9).binds (ps := ["standing"]) fun _ _ _ _ _ _ us hl => match us, hl with | [_], _ => rfl, PySem.W.mg_of X G a9⟩,
    d_law_draw := ⟨f10, _, fun_mk (st := s_law_draw) l10 c10 k10, (fun_mk (st := s_law_draw) l10 c10 k10).binds (ps := ["_law_script", "_law_k"]) fun _ _ _ _ _ _ us hl => match us, hl with | [_, _], _ => rfl, PySem.W.mg_of X G a10⟩,
    d_law_whole := ⟨f11, _, fun_mk (st := s_law_whole) l11 c11 k11, (fun_mk (st := s_law_whole) l11 c11 k11).binds (ps := ["_law_found"]) fun _ _ _ _ _ _ us hl => match us, hl with | [_], _ => rfl, PySem.W.mg_of X G a11⟩,
    d_law_floor := ⟨f12, _, fun_mk (st := s_law_floor) l12 c12 k12, (fun_mk (st := s_law_floor) l12 c12 k12).binds (ps := ["_law_number"]) fun _ _ _ _ _ _ us hl => match us, hl with | [_], _ => rfl, PySem.W.mg_of X G a12⟩,
    d_law_standing := ⟨f13, _, fun_mk (st := s_law_standing) l13 c13 k13, (fun_mk (st := s_law_standing) l13 c13 k13).binds (ps := ["_law_script", "_law_k", "_law_floor_here"]) fun _ _ _ _ _ _ us hl => match us, hl with | [_, _, _], _ => rfl, PySem.W.mg_of X G a13⟩,
    d_law_moved := ⟨f14, _, fun_mk (st := s_law_moved) l14 c14 k14, (fun_mk (st := s_law_moved) l14 c14 k14).binds (ps := ["_law_floor_here", "_law_standing_here", "_law_word"]) fun _ _ _ _ _ _ us hl => match us, hl with | [_, _, _], _ => rfl, PySem.W.mg_of X G a14⟩,
    d_law_words := ⟨f15, _, fun_mk (st := s_law_words) l15 c15 k15, (fun_mk (st := s_law_words) l15 c15 k15).binds (ps := ["_law_floor_here", "_law_standing_here"]) fun _ _ _ _ _ _ us hl => match us, hl with | [_, _], _ => rfl, PySem.W.mg_of X G a15⟩,
    d_law_side := ⟨f16, _, fun_mk (st := s_law_side) l16 c16 k16, (fun_mk (st := s_law_side) l16 c16 k16).binds (ps := ["_law_floor_here", "_law_standing_here"]) fun _ _ _ _ _ _ us hl => match us, hl with | [_, _], _ => rfl, PySem.W.mg_of X G a16⟩,
    d_law_exchanged := ⟨f17, _, fun_mk (st := s_law_exchanged) l17 c17 k17, (fun_mk (st := s_law_exchanged) l17 c17 k17).binds (ps := ["_law_standing_here", "_law_number"]) fun _ _ _ _ _ _ us hl => match us, hl with | [_, _], _ => rfl, PySem.W.mg_of X G a17⟩,
    d_law_right := ⟨f18, _, fun_mk (st := s_law_right) l18 c18 k18, (fun_mk (st := s_law_right) l18 c18 k18).binds (ps := ["_law_floor_here", "_law_first", "_law_now", "_law_due"]) fun _ _ _ _ _ _ us hl => match us, hl with | [_, _, _, _], _ => rfl, PySem.W.mg_of X G a18⟩,
    d_law := ⟨fa, _, fun_mk (st := s_law) l19 c19 k19, (fun_mk (st := s_law) l19 c19 k19).binds (ps := ["_law_script"]) fun _ _ _ _ _ _ us hl => match us, hl with | [_], _ => rfl, PySem.W.mg_of X G a19⟩,
    c_SlideError := ⟨C0, PySem.W.mg_of X G q0, q0x, q0k, q0b, q0t⟩,
    c_BadFloor := ⟨C1, PySem.W.mg_of X G q1, q1x, q1k, q1b, q1t⟩,
    c_BadStanding := ⟨C2, PySem.W.mg_of X G q2, q2x, q2k, q2b, q2t⟩,
    k_LONGEST_SIDE := ⟨t0, PySem.W.mg_of X G t0'⟩,
    k_FEWEST_PLACES := ⟨t1, PySem.W.mg_of X G t1'⟩,
    b_len := PySem.W.mg_none_of X G z_len,
    b_sorted := PySem.W.mg_none_of X G z_sorted,
    b_list := PySem.W.mg_none_of X G z_list,
    b_range := PySem.W.mg_none_of X G z_range,
    b_tuple := PySem.W.mg_none_of X G z_tuple,
    b_type := PySem.W.mg_none_of X G z_type,
    b_int := PySem.W.mg_none_of X G z_int,
    b_isinstance := PySem.W.mg_none_of X G z_isinstance,
    b_enumerate := PySem.W.mg_none_of X G z_enumerate,
    b_sum := PySem.W.mg_none_of X G z_sum,
    b_bool := PySem.W.mg_none_of X G z_bool,
    b_ValueError := PySem.W.mg_none_of X G z_ValueError }
  exact ⟨T.d_law.fd, fun s v => .of_eq rfl, fun base _ _ => ok_law T⟩
theorem walk {l : PySem.W.OpenLaw} {q : Program} {loose : List Str} {XP : (Str → Option Value) → Heap → Prop} {YP : World → Heap → Prop} {d : DefRec} {K : Params → PySem.W.Frag} (hn : l.most = some 63) (hdf : d.params.defaults = [])
    (hY : ∀ (w : World) (h : Heap), YP w h → (K w.params).In h)
    (F : ∀ (w : World) (mg : Str → Option Value) (fa : Addr) (h : Heap), (K w.params).In h → h.Ns mainGlobals mg → mg d.name = some (.ref fa) →
      ∃ fd : FuncData, (∀ (s : Shared) (u : Value), BindsTo s fd ⟨[u], []⟩ [("_law_script", u)]) ∧ ∀ base : Heap, (K w.params).In base → base.Ns mainGlobals mg → FnOk l.prog w (K w.params) mg base CX0 9 fa fd ["_law_script"] (spLaw (K w.params))) :
    PySem.W.WalkO q loose XP YP l.row.toRowW d [] (fun f vs => PySem.call f vs) :=
  L2.walk_of (n := 63) (k := 9) (x := "_law_script") (CX := fun _ => CX0) (sp := fun w => spLaw (K w.params)) hn (by decide) hdf ⟨rfl, by decide, by decide⟩ hY F (fun _ _ a ns hl _ hS => ⟨a, ns, rfl, hS, hl, fun _ => rfl⟩) fun _ _ _ _ _ z => z
end Sf
open PySem PySem.W PyProof.Rows
set_option maxRecDepth 100000 in
set_option maxHeartbeats 0 in
theorem PySem.Challenge.cw_slidefloor_k03_whole_sides_stay_holds : PySem.Challenge.rw_slidefloor_k03_whole_sides_stay.Holds := by
  w_on; o_law; k_head; (case hw => w_witness2)
  k_fill
  refine Sf.walk (l := PySem.Challenge.rw_slidefloor_k03_whole_sides_stay) rfl rfl (fun w h Y => PySem.W.kIn_of Y) ?F
  case F =>
    intro w mg fa h KX G hmg
    refine' Sf.all_mk KX G hmg ?a0 ?l0 ?c0 ?k0 ?a1 ?l1 ?c1 ?k1 ?a2 ?l2 ?c2 ?k2 ?a3 ?l3 ?c3 ?k3 ?a4 ?l4 ?c4 ?k4 ?a5 ?l5 ?c5 ?k5 ?a6 ?l6 ?c6 ?k6 ?a7 ?l7 ?c7 ?k7 ?a8 ?l8 ?c8 ?k8 ?a9 ?l9 ?c9 ?k9 ?a10 ?l10 ?c10 ?k10 ?a11 ?l11 ?c11 ?k11 ?a12 ?l12 ?c12 ?k12 ?a13 ?l13 ?c13 ?k13 ?a14 ?l14 ?c14 ?k14 ?a15 ?l15 ?c15 ?k15 ?a16 ?l16 ?c16 ?k16 ?a17 ?l17 ?c17 ?k17 ?a18 ?l18 ?c18 ?k18 ?a19 ?l19 ?c19 ?k19 ?q0 ?q0x ?q0k ?q0b ?q0t ?q1 ?q1x ?q1k ?q1b ?q1t ?q2 ?q2x ?q2k ?q2b ?q2t ?t0' ?t1' ?z_len ?z_sorted ?z_list ?z_range ?z_tuple ?z_type ?z_int ?z_isinstance ?z_enumerate ?z_sum ?z_bool ?z_ValueError
    (case a0 => k_is)
    (case l0 => k_is)
    (case c0 => k_is)
    (case k0 => k_is)
    (case a1 => k_is)
    (case l1 => k_is)
    (case c1 => k_is)
    (case k1 => k_is)
    (case a2 => k_is)
    (case l2 => k_is)
    (case c2 => k_is)
    (case k2 => k_is)
    (case a3 => k_is)
    (case l3 => k_is)
    (case c3 => k_is)
    (case k3 => k_is)
    (case a4 => k_is)
    (case l4 => k_is)
    (case c4 => k_is)
    (case k4 => k_is)
    (case a5 => k_is)
    (case l5 => k_is)
    (case c5 => k_is)
    (case k5 => k_is)
    (case a6 => k_is)
    (case l6 => k_is)
    (case c6 => k_is)
    (case k6 => k_is)
    (case a7 => k_is)
    (case l7 => k_is)
    (case c7 => k_is)
    (case k7 => k_is)
    (case a8 => k_is)
    (case l8 => k_is)
    (case c8 => k_is)
    (case k8 => k_is)
    (case a9 => k_is)
    (case l9 => k_is)
    (case c9 => k_is)
    (case k9 => k_is)
    (case a10 => k_is)
    (case l10 => k_is)
    (case c10 => k_is)
    (case k10 => k_is)
    (case a11 => k_is)
    (case l11 => k_is)
    (case c11 => k_is)
    (case k11 => k_is)
    (case a12 => k_is)
    (case l12 => k_is)
    (case c12 => k_is)
    (case k12 => k_is)
    (case a13 => k_is)
    (case l13 => k_is)
    (case c13 => k_is)
    (case k13 => k_is)
    (case a14 => k_is)
    (case l14 => k_is)
    (case c14 => k_is)
    (case k14 => k_is)
    (case a15 => k_is)
    (case l15 => k_is)
    (case c15 => k_is)
    (case k15 => k_is)
    (case a16 => k_is)
    (case l16 => k_is)
    (case c16 => k_is)
    (case k16 => k_is)
    (case a17 => k_is)
    (case l17 => k_is)
    (case c17 => k_is)
    (case k17 => k_is)
    (case a18 => k_is)
    (case l18 => k_is)
    (case c18 => k_is)
    (case k18 => k_is)
    (case a19 => k_is)
    (case l19 => k_is)
    (case c19 => k_is)
    (case k19 => k_is)
    (case q0 => first | k_is | k_exc)
    (case q0x => k_exc)
    (case q0k => first | k_is | k_exc)
    (case q0b => first | k_is | k_exc)
    (case q0t => first | k_is | k_exc)
    (case q1 => first | k_is | k_exc)
    (case q1x => k_exc)
    (case q1k => first | k_is | k_exc)
    (case q1b => first | k_is | k_exc)
    (case q1t => first | k_is | k_exc)
    (case q2 => first | k_is | k_exc)
    (case q2x => k_exc)
    (case q2k => first | k_is | k_exc)
    (case q2b => first | k_is | k_exc)
    (case q2t => first | k_is | k_exc)
    (case t0' => k_is)
    (case t1' => k_is)
    (case z_len => k_is)
    (case z_sorted => k_is)
    (case z_list => k_is)
    (case z_range => k_is)
    (case z_tuple => k_is)
    (case z_type => k_is)
    (case z_int => k_is)
    (case z_isinstance => k_is)
    (case z_enumerate => k_is)
    (case z_sum => k_is)
    (case z_bool => k_is)
    (case z_ValueError => k_is)
