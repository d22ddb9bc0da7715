import PyProof.Rows.All
import Wide.All
import OpenK.AllK
import Wide.FinOn
import HandS.ForMost
import HandS.Wide
import HandS.IsInst
import HandS.TupAny
import HandS.TupMul
import HandS.EndBits
import HandS.Flow
import HandS.Zip
import HandS.Style
import PyProof.ReprRoads
import PySem.Challenge.RW_marblefall_k01_boards_known
set_option Elab.async false
set_option linter.all false
set_option maxRecDepth 100000
set_option maxHeartbeats 4000000
namespace HX
open PySem PySem.Spec PyProof.Rows L2

/-! ### a def of the text by its name: where it stands; what it promises -/
def Def (K : PySem.W.Frag) (mg : Str → Option Value) (x : Str) (st : Stmt) (ps : List Str) : Prop :=
  ∃ (f : Addr) (fd : FuncData), Fun K x x st f fd ∧ mg x = some (.ref f) ∧ Binds K fd ps []
def Cal (P : Program) (w : World) (K : PySem.W.Frag) (mg : Str → Option Value) (base : Heap) (k : Nat) (x : Str) (ps : List Str) (sp : Sp) : Prop :=
  ∃ (f : Addr) (fd : FuncData), FnOk P w K mg base CX0 k f fd ps sp ∧ mg x = some (.ref f) ∧ PySem.W.keepIn K (.ref f) = true ∧ Binds K fd ps []
section
variable {P : Program} {w : World} {K : PySem.W.Frag} {mg : Str → Option Value} {base : Heap} {j k : Nat} {x : Str} {ps : List Str} {sp sp' : Sp}
theorem Cal.mono (c : Cal P w K mg base j x ps sp) (h : j ≤ k) : Cal P w K mg base k x ps sp := by
  obtain ⟨f, fd, F, a, b, d⟩ := c
  exact ⟨f, fd, F.mono h, a, b, d⟩
theorem Cal.imp (c : Cal P w K mg base k x ps sp) (h : ∀ vs H Q E, sp' vs H Q E → sp vs H Q E) : Cal P w K mg base k x ps sp' := by
  obtain ⟨f, fd, F, a, b, d⟩ := c
  exact ⟨f, fd, F.imp h, a, b, d⟩
theorem Def.ok {st : Stmt} {N : List Str} (D : Def K mg x st ps) (S : FnScope N ps (defScope st)) (len : ∀ vs H Q E, sp vs H Q E → vs.length = ps.length)
    (hbody : ∀ (f : Addr) (cdv : Value) (A : Around) (outer : List Env) (s : Shared) (H : Hp) (vs : List V) (Q : VK) (E : XK), Room k (A.deeper (envOfC x (defScope st) s.heap.objs.size f cdv)) → sp vs H Q E →
      ∃ t, PSs (cxOf CX0 P w K mg base N x (defScope st) f cdv A outer s H E).nox (defBody st) t ∧ t { nx := fun _ H' => Q .non H', rt := Q } (start N vs) H) : Cal P w K mg base (k + 1) x ps sp := by
  obtain ⟨f, fd, F, hm, hb⟩ := D
  exact ⟨f, fd, F.ok S len (hbody f), hm, F.kp, hb⟩
end
section
variable {X : Cx} {k : Nat} {x : Str} {ps : List Str} {sp : Sp} {p pos : Pos} {e : Expr} {es : List Expr} {t : TA}
theorem pe_cal (c : Cal X.prog X.w X.K X.mg X.base k x ps sp) (hr : Room k X.A) (hg : Gl X x) (ha : PA X (e :: es) t) (hdb : (x == ("__debug__" : Str)) = false := by decide) (he : starEach (e :: es) X.env = (false, eval e X.env) :: starEach es X.env := by rfl)
    (hpl : (backTo pos (starEach es X.env)).any (·.1) = false := by rfl) : PE X (.Call (.Name x p) (e :: es) [] pos) (tCall sp [] E0 t) := by
  obtain ⟨f, fd, F, hm, hk, hb⟩ := c
  exact pe_call F hr hg hm hk hb .nil pass0 ha hdb he hpl
theorem pe_cal0 (c : Cal X.prog X.w X.K X.mg X.base k x ps sp) (hr : Room k X.A) (hg : Gl X x) (hdb : (x == ("__debug__" : Str)) = false := by decide) : PE X (.Call (.Name x p) [] [] pos) (tCall sp [] E0 tNil) := by
  obtain ⟨f, fd, F, hm, hk, hb⟩ := c
  exact pe_call0 F hr hg hm hk hb .nil pass0 hdb
end

theorem pe_gint {X : Cx} {x : Str} {i : Int} {tk : Tok} {pos : Pos} (hg : Gl X x) (hm : X.mg x = some (.int i tk)) (hd : (x == ("__debug__" : Str)) = false := by decide) : PE X (.Name x pos) (tC (.int i)) := pe_glob hg hm ⟨tk, rfl⟩ hd

/-! ### data of any depth in the tracked heap; N: what may be changed meanwhile -/
mutual
inductive Da (N : Addr → Prop) (H : Hp) : V → PyData → Prop
  | non : Da N H .non .none
  | bl (b : Bool) : Da N H (.bl b) (.bool b)
  | int (i : Int) : Da N H (.int i) (.int i)
  | str (x : Str) : Da N H (.str x) (.str x)
  | lst {a : Addr} {xs : List V} {ds : List PyData} : H a = some (.lst xs) → ¬ N a → DaAll N H xs ds → Da N H (.ref a) (.list ds)
  | tup {a : Addr} {xs : List V} {ds : List PyData} : H a = some (.tup xs) → ¬ N a → DaAll N H xs ds → Da N H (.ref a) (.tuple ds)
  | dct {a : Addr} {kvs : List (Key × V)} {ds : List (PyData × PyData)} : H a = some (.dK kvs) → ¬ N a → DaAll N H (kvs.map fun p => kV p.1) (ds.map (·.1)) → DaAll N H (kvs.map (·.2)) (ds.map (·.2)) → Da N H (.ref a) (.dict ds)
inductive DaAll (N : Addr → Prop) (H : Hp) : List V → List PyData → Prop
  | nil : DaAll N H [] []
  | cons {v : V} {vs : List V} {d : PyData} {ds : List PyData} : Da N H v d → DaAll N H vs ds → DaAll N H (v :: vs) (d :: ds)
end
/-- all that was tracked, but what N may change, is as it was -/
def Kp (N : Addr → Prop) (H H' : Hp) : Prop := ∀ b o, H b = some o → ¬ N b → H' b = some o
theorem Kp.refl {N : Addr → Prop} (H : Hp) : Kp N H H := fun _ _ h _ => h
theorem Kp.trans {N : Addr → Prop} {H H1 H2 : Hp} (a : Kp N H H1) (b : Kp N H1 H2) : Kp N H H2 := fun c o h n => b c o (a c o h n) n
theorem Kp.of {N : Addr → Prop} {H H1 : Hp} (a : Same H H1) : Kp N H H1 := fun c o h _ => a c o h
theorem Same.new {H : Hp} {p : Addr} {o : HO} (h : H p = none) : Same H (upd H p o) := fun b x e => by
  rw [upd_ne (ne_of_none e h)]
  exact e
theorem Kp.new {N : Addr → Prop} {H : Hp} {p : Addr} {o : HO} (h : H p = none) : Kp N H (upd H p o) := Kp.of (Same.new h)
theorem Kp.put {N : Addr → Prop} {H : Hp} {p : Addr} {o : HO} (h : N p) : Kp N H (upd H p o) := fun b x e nb => by
  rw [upd_ne (fun z => nb (by rw [z]; exact h))]
  exact e
mutual
theorem Da.mono {N : Addr → Prop} {H H' : Hp} (k : Kp N H H') : ∀ (d : PyData) (v : V), Da N H v d → Da N H' v d
  | .none, _, h => by cases h; exact .non
  | .bool b, _, h => by cases h; exact .bl b
  | .int i, _, h => by cases h; exact .int i
  | .str x, _, h => by cases h; exact .str x
  | .list ds, _, h => by
    cases h with
    | lst e n ha => exact .lst (k _ _ e n) n (DaAll.mono k ds _ ha)
  | .tuple ds, _, h => by
    cases h with
    | tup e n ha => exact .tup (k _ _ e n) n (DaAll.mono k ds _ ha)
  | .dict ds, _, h => by
    cases h with
    | dct e n h1 h2 => exact .dct (k _ _ e n) n (DaAll.monoK k ds _ h1) (DaAll.monoV k ds _ h2)
theorem DaAll.mono {N : Addr → Prop} {H H' : Hp} (k : Kp N H H') : ∀ (ds : List PyData) (vs : List V), DaAll N H vs ds → DaAll N H' vs ds
  | [], _, h => by cases h; exact .nil
  | d :: ds, _, h => by
    cases h with
    | cons h1 h2 => exact .cons (Da.mono k d _ h1) (DaAll.mono k ds _ h2)
theorem DaAll.monoK {N : Addr → Prop} {H H' : Hp} (k : Kp N H H') : ∀ (ds : List (PyData × PyData)) (vs : List V), DaAll N H vs (ds.map (·.1)) → DaAll N H' vs (ds.map (·.1))
  | [], _, h => by cases h; exact .nil
  | (a, b) :: ds, _, h => by
    cases h with
    | cons h1 h2 => exact .cons (Da.mono k a _ h1) (DaAll.monoK k ds _ h2)
theorem DaAll.monoV {N : Addr → Prop} {H H' : Hp} (k : Kp N H H') : ∀ (ds : List (PyData × PyData)) (vs : List V), DaAll N H vs (ds.map (·.2)) → DaAll N H' vs (ds.map (·.2))
  | [], _, h => by cases h; exact .nil
  | (a, b) :: ds, _, h => by
    cases h with
    | cons h1 h2 => exact .cons (Da.mono k b _ h1) (DaAll.monoV k ds _ h2)
end
theorem DaAll.len {N : Addr → Prop} {H : Hp} : ∀ {vs : List V} {ds : List PyData}, DaAll N H vs ds → vs.length = ds.length
  | _, _, .nil => rfl
  | _, _, .cons _ t => by rw [List.length_cons, List.length_cons, DaAll.len t]
theorem DaAll.get {N : Addr → Prop} {H : Hp} : ∀ {vs : List V} {ds : List PyData} {i : Nat} {v : V}, DaAll N H vs ds → vs[i]? = some v → ∃ d, ds[i]? = some d ∧ Da N H v d
  | _, _, _, _, .nil, e => by simp at e
  | _, _, 0, _, .cons h _, e => by
    have e' := Option.some.inj e
    exact ⟨_, rfl, e' ▸ h⟩
  | _, _, i + 1, _, .cons _ t, e => by
    obtain ⟨d, h1, h2⟩ := DaAll.get (i := i) t (by simpa using e)
    exact ⟨d, by simpa using h1, h2⟩
theorem DaAll.append {N : Addr → Prop} {H : Hp} : ∀ {vs us : List V} {ds es : List PyData}, DaAll N H vs ds → DaAll N H us es → DaAll N H (vs ++ us) (ds ++ es)
  | _, _, _, _, .nil, s => s
  | _, _, _, _, .cons r t, s => .cons r (DaAll.append t s)
theorem DaAll.take {N : Addr → Prop} {H : Hp} : ∀ {vs : List V} {ds : List PyData} (n : Nat), DaAll N H vs ds → DaAll N H (vs.take n) (ds.take n)
  | _, _, 0, _ => .nil
  | _, _, _ + 1, .nil => .nil
  | _, _, n + 1, .cons r t => .cons r (DaAll.take n t)
theorem DaAll.drop {N : Addr → Prop} {H : Hp} : ∀ {vs : List V} {ds : List PyData} (n : Nat), DaAll N H vs ds → DaAll N H (vs.drop n) (ds.drop n)
  | _, _, 0, r => r
  | _, _, _ + 1, .nil => .nil
  | _, _, n + 1, .cons _ t => DaAll.drop n t
theorem DaAll.reverse {N : Addr → Prop} {H : Hp} : ∀ {vs : List V} {ds : List PyData}, DaAll N H vs ds → DaAll N H vs.reverse ds.reverse
  | _, _, .nil => .nil
  | _, _, .cons r t => by
    rw [List.reverse_cons, List.reverse_cons]
    exact DaAll.append (DaAll.reverse t) (.cons r .nil)
/-- its built-in type -/
def tyN : PyData → String
  | .none => "NoneType"
  | .bool _ => "bool"
  | .int _ => "int"
  | .str _ => "str"
  | .list _ => "list"
  | .tuple _ => "tuple"
  | .dict _ => "dict"
theorem Da.ty {K : PySem.W.Frag} {N : Addr → Prop} {H : Hp} {v : V} {d : PyData} (h : Da N H v d) : TyX K H v (.type (tyN d)) := by
  cases h with
  | non => exact .base .non
  | bl b => exact .base (.bl b)
  | int i => exact .base (.int i)
  | str x => exact .base (.str x)
  | lst e _ _ => exact .base (.lst e)
  | tup e _ _ => exact .base (.tup e)
  | dct e _ _ _ => exact .base (.dK e)
theorem Da.tupOf {N : Addr → Prop} {H : Hp} {v : V} {ds : List PyData} (h : Da N H v (.tuple ds)) : ∃ a xs, v = .ref a ∧ H a = some (.tup xs) ∧ ¬ N a ∧ DaAll N H xs ds := by
  cases h with
  | tup e n ha => exact ⟨_, _, rfl, e, n, ha⟩
theorem Da.intOf {N : Addr → Prop} {H : Hp} {v : V} {i : Int} (h : Da N H v (.int i)) : v = .int i := by
  cases h
  rfl

/-! ### the names of built-ins that no law and no module binds -/
structure Bi (mg : Str → Option Value) : Prop where
  len_ : mg "len" = none
  isinstance_ : mg "isinstance" = none
  int_ : mg "int" = none
  bool_ : mg "bool" = none
  tuple_ : mg "tuple" = none
  list_ : mg "list" = none
  all_ : mg "all" = none
  range_ : mg "range" = none
  max_ : mg "max" = none
  min_ : mg "min" = none
  repr_ : mg "repr" = none

/-! ### all([e for x in t]), e a truth that leaves the heap as it was -/
theorem tYes_eq {σ : L2.St} {H : Hp} {Q : Bool → Hp → Prop} (h : Q true H) : tYes σ H Q := h
theorem wipe1 {σ : L2.St} {j : Nat} (x : V) : wipe ((wipe σ [j]).set j (some x)) [j] = wipe σ [j] := by
  show ((σ.set j none).set j (some x)).set j none = σ.set j none
  rw [List.set_set, List.set_set]
theorem read_all {K : PySem.W.Frag} {N : Addr → Prop} {σ : L2.St} {H : Hp} {Q : VK} {i j : Nat} {te : TE} {a : Addr} {xs : List V} {ds : List PyData} (p : PyData → Bool)
    (hs : σ[i]? = some (some (.ref a))) (hx : H a = some (.tup xs)) (hd : DaAll N H xs ds) (hz : ds.length ≤ 1000)
    (ht : ∀ (x : V) (d : PyData) (H' : Hp), Same H H' → Da N H' x d → ∀ Q' : VK, (∀ H2, Same H' H2 → Q' (.bl (p d)) H2) → te ((wipe σ [j]).set j (some x)) H' Q')
    (q : ∀ H', Same H H' → Q (.bl (ds.all p)) H') : tCB (rAll K) (tCons (tLc (iTup K (tVar i)) (gName j) tYes te [j]) tNil) σ H Q := by
  refine ⟨.ref a, hs, a, rfl, ⟨xs, .inl (.inl hx)⟩, fun D hD => ?_⟩
  have hlen : xs.length = ds.length := hd.len
  refine lc_tup (xs := xs) (fun i H' => Same H H' ∧ H' D = some (.lst ((ds.take i).map fun d => V.bl (p d)))) ⟨Same.new hD, ?_⟩ (fun i H' _ h => .inl (.inl (h.1 _ _ hx))) (fun i x H' hi h => ?_) (fun H' h => ?_)
  · rw [upd_same]
    rfl
  · obtain ⟨d, e1, e2⟩ := (DaAll.mono (Kp.of h.1) _ _ hd).get hi
    refine ⟨wipe1 x, ?_⟩
    refine tYes_eq (iteT (ht x d H' h.1 e2 _ fun H2 s2 => ?_))
    refine ⟨_, s2 _ _ h.2, ?_, fun b o e => ?_, ?_⟩
    · rw [List.length_map, List.length_take]
      exact small1000 (by omega)
    · rw [upd_ne (ne_of_none e hD)]
      exact s2 _ _ (h.1 _ _ e)
    · rw [upd_same, List.take_add_one, e1, List.map_append]
      rfl
  · refine ⟨D, ds.map p, rfl, .inl (.inl ?_), ?_⟩
    · rw [h.2, hlen, List.take_length, List.map_map]
      rfl
    · rw [List.all_map]
      exact q H' h.1
end HX

set_option maxRecDepth 100000
set_option maxHeartbeats 4000000
namespace HX
open PySem PySem.Spec PyProof.Rows L2
/-! ### t[::-1] of a tuple -/
theorem adjust_rev (n : Nat) : Builtin.Slice.sliceAdjust none none (-1) (n : Int) = ((n : Int) - 1, -1) := rfl
theorem places_rev (n : Nat) : Builtin.Slice.slicePlaces ((n : Int) - 1) (-1) (-1) = n := by
  unfold Builtin.Slice.slicePlaces
  rw [if_neg (by decide)]
  show (if (n : Int) - 1 > -1 then ((n : Int) - 1 - -1 - 1) / 1 + 1 else 0).toNat = n
  rw [Int.ediv_one]
  split <;> omega
theorem pick_rev (xs : List Value) : ((List.range xs.length).filterMap fun (k : Nat) => xs.toArray[(((xs.length : Int) - 1) + (k : Int) * -1).toNat]?) = xs.reverse := by
  have e : (fun (k : Nat) => xs.toArray[(((xs.length : Int) - 1) + (k : Int) * -1).toNat]?) = fun k => xs[xs.length - 1 - k]? := by
    funext k
    rw [List.getElem?_toArray]
    congr 1
    omega
  rw [e]
  refine List.ext_getElem? fun i => ?_
  have h1 : ∀ (m : Nat), m ≤ xs.length → ((List.range m).filterMap fun k => xs[xs.length - 1 - k]?) = (List.range m).map fun k => (xs[xs.length - 1 - k]?).getD .none := by
    intro m
    induction m with
    | zero => intro _; rfl
    | succ m ih =>
      intro hm
      rw [List.range_succ, List.filterMap_append, List.map_append, ih (by omega)]
      congr 1
      have hb : xs.length - 1 - m < xs.length := by omega
      simp [List.getElem?_eq_getElem hb]
  rw [h1 _ (Nat.le_refl _)]
  by_cases hi : i < xs.length
  · rw [List.getElem?_map, List.getElem?_range hi, List.getElem?_reverse hi]
    have hb : xs.length - 1 - i < xs.length := by omega
    simp [List.getElem?_eq_getElem hb]
  · rw [List.getElem?_eq_none (by simp; omega), List.getElem?_eq_none (by simp; omega)]
section
variable {prog : Program} {w : World} {A : Around} {E : Value → Shared → Prop} {s : Shared}
theorem sliceApplied_rev {sl : Addr} {vl vu vs : Value} {n : Nat} {Q : Int × Int × Nat → Shared → Prop} (hs : s.heap.IsSliceOf sl vl vu vs) (pl : IsPart vl none) (pu : IsPart vu none) (ps : IsPart vs (some (-1)))
    (h : Q ((n : Int) - 1, -1, n) s) : wpAny (model prog w) A (Builtin.Slice.sliceApplied (.ref sl) (pure (n : Int))) Q E s := by
  obtain ⟨os, hos, hcs, hds⟩ := id hs
  unfold Builtin.Slice.sliceApplied Builtin.Slice.sliceFields
  refine wpAny_bind (wpAny_bind (wpAny_field hos hds (x := vl) rfl (wpAny_bind (wpAny_field hos hds (x := vu) rfl (wpAny_bind (wpAny_field hos hds (x := vs) rfl (wpAny_pure ?_)))))))
  refine wpAny_bind (HT.slicePart_ ps ?_)
  show wpAny _ _ (if ((-1 : Int) == 0) = true then _ else _) _ _ s
  rw [if_neg (by decide)]
  refine wpAny_bind (HT.slicePart_ pl (wpAny_bind (HT.slicePart_ pu (wpAny_bind (wpAny_pure ?_)))))
  show wpAny _ _ (pure ((n : Int) - 1, (-1 : Int), Builtin.Slice.slicePlaces ((n : Int) - 1) (-1) (-1))) _ _ s
  rw [places_rev]
  exact wpAny_pure h
theorem getItem_tuple_rev {t sl : Addr} {its : List Value} {vl vu vs : Value} {Q : Value → Shared → Prop} (ht : IsTup s.heap t its.toArray) (hs : s.heap.IsSliceOf sl vl vu vs) (pl : IsPart vl none) (pu : IsPart vu none) (ps : IsPart vs (some (-1)))
    (h : Q (.ref s.heap.objs.size) { s with heap := s.heap.push { cls := .type "tuple", data := .seq its.reverse.toArray } }) (hsz : its.length ≤ sizeLine) : wpAny (model prog w) A (getItem (.ref t) (.ref sl)) Q E s := by
  have htake : sizeOk (.seq its.reverse.toArray) := by
    show its.reverse.toArray.size ≤ sizeLine
    rw [List.size_toArray, List.length_reverse]
    exact hsz
  obtain ⟨os, hos, hcs, hds⟩ := id hs
  have hTs : s.TypeIs (.ref sl) "slice" := ⟨os, hos, hcs⟩
  unfold getItem
  try with_reducible refine wpAny_holding ?_
  first | refine wpAny_bind (wpAny_pure ?_) | skip
  refine wpAny_bind (wpAny_sequenceKey ht.typeIs (by decide) ?_)
  refine wpAny_bind (wpAny_callSpecial?_slot (name := Str.ofString "__getitem__") ht.typeIs PyProof.Rows.slot_tuple_getitem
    (wpAny_call_entry PyProof.Rows.slot_tuple_getitem ht.typeIs entry_tuple_getitem ?_ (args_tuple_getitem _ _)))
  show wpAny _ _ (Builtin.Tuple.tupleItemsOf (.ref t) >>= _) _ _ s
  refine wpAny_bind (tupleItemsOf_ ht ?_)
  refine wpAny_bind (wpAny_typeOf hTs ?_)
  rw [if_pos (by decide)]
  refine wpAny_bind (sliceApplied_rev (n := its.toArray.size) hs pl pu ps ?_)
  have hno : ¬ ((((its.toArray.size : Nat) : Int) - 1 == 0 && (-1 : Int) == 1 && its.toArray.size == its.toArray.size) = true) := by
    intro q
    rw [Bool.and_eq_true, Bool.and_eq_true] at q
    exact absurd (eq_of_beq q.1.2) (by decide)
  show wpAny _ _ (if (((its.toArray.size : Nat) : Int) - 1 == 0 && (-1 : Int) == 1 && its.toArray.size == its.toArray.size) = true then _ else _) _ _ s
  rw [if_neg hno, List.size_toArray, pick_rev]
  first
    | exact wpAny_bind (m := Builtin.Tuple.tupleExact _) (wpAny_newObj_type (wpAny_pure ⟨_, rfl, wpAny_pure h⟩) htake)
    | exact wpAny_bind (m := Builtin.Tuple.tupleExact _) (wpAny_newObj_type (wpAny_bind (wpAny_pure (wpAny_pure ⟨_, rfl, wpAny_pure h⟩))) htake)
    | exact wpAny_bind (wpAny_bind (m := Builtin.Tuple.tupleExact _) (wpAny_newObj_type (wpAny_pure (wpAny_pure ⟨_, rfl, wpAny_pure h⟩)) htake))
    | exact wpAny_bind (wpAny_bind (m := Builtin.Tuple.tupleExact _) (wpAny_newObj_type (wpAny_pure ⟨_, rfl, wpAny_pure h⟩) htake))
end
section
variable {X : Cx}
def tRevT (K : PySem.W.Frag) (te : TE) : TE := fun σ H Q => te σ H fun x H1 => ∃ a xs, x = .ref a ∧ SqT K H1 a xs ∧ ∀ p, H1 p = none → Q (.ref p) (upd H1 p (.tup xs.reverse))
theorem pe_revT {e : Expr} {te : TE} {k : Nat} {p1 p2 p3 pos : Pos} (he : PE X e te) : PE X (.Subscript e (.Slice none none (some (.UnaryOp .USub (.Constant (.int 1) k p1) p2)) p3) pos) (tRevT X.K te) := by
  refine ⟨fun pins s σ H Q I h => ?_⟩
  refine Subscript_ (thn (he.run pins s σ H _ I h) fun v s1 ⟨x, H1, I1, r1, q1⟩ => ?_)
  obtain ⟨a, xs, ex, hx, q⟩ := q1
  subst ex
  cases r1
  have hst : PO X (some (.UnaryOp .USub (.Constant (.int 1) k p1) p2)) (tPart (tUn (rU fun i => .int (-i)) (tC (.int 1)))) := po_some (pe_un un_neg pe_int)
  refine wpAny_Slice (thn (po_none.run pins s1 σ H1 (fun o H2 => o = none ∧ H2 = H1) I1 ⟨rfl, rfl⟩) fun vl s2 ⟨l, H2, I2, pl, el, e2⟩ => ?_)
  subst el e2
  refine thn (po_none.run pins s2 σ H2 (fun o H3 => o = none ∧ H3 = H2) I2 ⟨rfl, rfl⟩) fun vu s3 ⟨u, H3, I3, pu, eu, e3⟩ => ?_
  subst eu e3
  refine thn (hst.run pins s3 σ H3 (fun o H4 => o = some (-1) ∧ H4 = H3) I3 ⟨1, rfl, -1, rfl, rfl, rfl⟩) fun vs s4 ⟨o, H4, I4, ps, eo, e4⟩ => ?_
  subst eo e4
  have I5 : Inv X pins σ H4 { s4 with heap := s4.heap.push { cls := .type "slice", data := .fields #[vl, vu, vs] } } := I4.kept (t' := s4.toks) fun b ob q => Heap.get?_push_of_some _ q
  obtain ⟨its, r, ht, hz⟩ := I5.tuple hx
  have hlen := r.length
  show wpAny (model X.prog X.w) X.A (subscriptTail e (.Slice none none (some (.UnaryOp .USub (.Constant (.int 1) k p1) p2)) p3) (.ref a) (.ref s4.heap.objs.size)) (EP X pins σ Q) X.xe { s4 with heap := s4.heap.push { cls := .type "slice", data := .fields #[vl, vu, vs] } }
  refine tail_any (ops := [.ref a, .ref s4.heap.objs.size]) ht.typeIs (PyProof.Rows.slot_tuple_getitem.lookup) ?_ (by with_unfolding_all rfl)
  refine getItem_tuple_rev ht (Heap.IsSliceOf.new _ vl vu vs) pl pu ps ?_ (by omega)
  refine ⟨.ref _, _, I5.laid (t' := s4.toks) (o := .tup xs.reverse) (fun b ob q => Heap.get?_push_of_some _ q) (Nat.le_refl _) ?_, rfl, q _ (I5.hok.fresh (Nat.le_refl _))⟩
  exact ⟨by rw [List.length_reverse]; exact hz, _, r.reverse, ⟨_, Heap.get?_push_size _ rfl, rfl, _, rfl⟩⟩
/-! ### t == () -/
def rEqE (K : PySem.W.Frag) : R2 := fun x y H Q => ∃ a b xs, x = .ref a ∧ y = .ref b ∧ SqT K H a xs ∧ SqT K H b [] ∧ Q (.bl xs.isEmpty) H
theorem op_eqE (hu : X.A.units < cLine) : OpR X (compareOp .Eq) (rEqE X.K) := by
  intro pins s σ H x y v u Q I rx ry h
  obtain ⟨a, b, xs, rfl, rfl, ha, hb, q⟩ := h
  cases rx
  cases ry
  obtain ⟨its, r1, t1, _⟩ := I.tuple ha
  obtain ⟨its2, r2, t2, _⟩ := I.tuple hb
  cases r2
  refine SeqAt.eq_tupleAt (e := fun _ => true) t1 t2 hu (fun j h1 h2 => absurd h2 (by simp)) ?_
  refine ⟨.bl _, H, I, ?_, q⟩
  show _ = Value.bool xs.isEmpty
  congr 1
  cases r1 <;> rfl
end
end HX

set_option maxRecDepth 100000
set_option maxHeartbeats 4000000
namespace HX
open PySem PySem.Spec PyProof.Rows L2
/-! ### calls below which no text of a value is being made (guards), and sys.modules stands untracked -/
structure Ent (A : Around) (s : Shared) (H : Hp) : Prop where
  gu : A.guards = some []
  sm : ∃ o, s.heap.get? sysModules = some o
  hm : H sysModules = none
structure FnG (P : Program) (w : World) (K : PySem.W.Frag) (mg : Str → Option Value) (base : Heap) (k : Nat) (f : Addr) (fd : FuncData) (ps : List Str) (sp : Sp) : Prop where
  len : ∀ vs H Q E, sp vs H Q E → vs.length = ps.length
  run : ∀ (A : Around) (outer : List Env) (s : Shared) (H : Hp) (args : Args) (us : List Value) (vs : List V) (Q : VK) (E : XK), Ent A s H → Room k A → Env0 P w K mg base A outer s H → BindsTo s fd args (ps.zip us) → Vals vs us → sp vs H Q E →
    codeAny (model P w) A (.call (.ref f) args) (CR CX0 outer P w H s Q E) s
section
variable {P : Program} {w : World} {K : PySem.W.Frag} {mg : Str → Option Value} {base : Heap}
theorem Fun.okG {x qual : Str} {st : Stmt} {f : Addr} {fd : FuncData} {N ps : List Str} {k : Nat} {sp : Sp} (F : Fun K x qual st f fd) (S : FnScope N ps (defScope st)) (len : ∀ vs H Q E, sp vs H Q E → vs.length = ps.length)
    (hbody : ∀ (cdv : Value) (A : Around) (outer : List Env) (s : Shared) (H : Hp) (vs : List V) (Q : VK) (E : XK), Ent A s H → Room k (A.deeper (envOfC qual (defScope st) s.heap.objs.size f cdv)) → sp vs H Q E →
      ∃ t, PSs (cxOf CX0 P w K mg base N qual (defScope st) f cdv A outer s H E).nox (defBody st) t ∧ t { nx := fun _ H' => Q .non H', rt := Q } (start N vs) H) : FnG P w K mg base (k + 1) f fd ps sp := by
  obtain ⟨oc, od, kV, doc, pm, an, cdv, ct, osl, rfl, lk, hcd⟩ := F.ex
  refine ⟨len, fun A outer s H args us vs Q E en hr e0 hb r hsp => ?_⟩
  have hl := len _ _ _ _ hsp
  have KX : K.In s.heap := e0.mod.kin.keeps fun b o e => (e0.bs b o e).1
  have lim : s.heap.NoLimit := e0.mod.nolimit.keeps fun b o e => (e0.bs b o e).1
  have hkind : ∀ y ∈ ps.zip us, (defScope st).names.lookup y.1 = some .local ∨ ((defScope st).names.lookup y.1 = some .cell ∧ ((cellsFrom (s.heap.objs.size + 1) (defScope st).names []).lookup y.1).isSome = true) := by
    rintro ⟨n, v⟩ hy
    rcases S.par n (List.of_mem_zip hy).1 with q | q
    · exact .inl q
    · exact .inr ⟨q, PySem.W.cellsFrom_some _ _ _ (.inl q)⟩
  refine codeAny_call_function hr.depth (KX _ _ lk) rfl S.co S.gen rfl (PySem.W.codeRec_of KX hcd) (hb _ _ _ _ ?_)
  refine wpAny_newFunctionEnv_cells S.kind hkind fun env he s1 xx => ?_
  subst he
  refine ⟨lim.keeps xx.toInCall.keep, codeAny_func ?_⟩
  obtain ⟨t, ht, hq⟩ := hbody cdv A outer s H vs Q E en (hr.deeper _) hsp
  have I := inv_start (CX := CX0) (E := E) S hr.hd e0 hl r xx
  refine wpAny_mono (ht.nox.run [] s1 (start N vs) H _ I hq) (fun fl s' hs => ?_) fun e s' hs => hs
  cases fl with
  | ret u =>
    obtain ⟨v, σ', H', J, rv, q⟩ := hs
    exact ⟨v, H', J.os, J.bare, J.base, J.hok, rv, q⟩
  | next =>
    obtain ⟨σ', H', J, q⟩ := hs
    exact ⟨V.non, H', J.os, J.bare, J.base, J.hok, rfl, q⟩
  | brk =>
    obtain ⟨_, _, _, q⟩ := hs
    exact False.elim q
  | cont =>
    obtain ⟨_, _, _, q⟩ := hs
    exact False.elim q
def CalG (P : Program) (w : World) (K : PySem.W.Frag) (mg : Str → Option Value) (base : Heap) (k : Nat) (x : Str) (ps : List Str) (sp : Sp) : Prop :=
  ∃ (f : Addr) (fd : FuncData), FnG P w K mg base k f fd ps sp ∧ mg x = some (.ref f) ∧ PySem.W.keepIn K (.ref f) = true ∧ Binds K fd ps []
theorem CalG.mono {j k : Nat} {x : Str} {ps : List Str} {sp : Sp} (c : CalG P w K mg base j x ps sp) (h : j ≤ k) : CalG P w K mg base k x ps sp := by
  obtain ⟨f, fd, F, a, b, d⟩ := c
  exact ⟨f, fd, ⟨F.len, fun A outer s H args us vs Q E en hr => F.run A outer s H args us vs Q E en (hr.mono h)⟩, a, b, d⟩
theorem Def.okG {k : Nat} {x : Str} {ps : List Str} {sp : Sp} {st : Stmt} {N : List Str} (D : Def K mg x st ps) (S : FnScope N ps (defScope st)) (len : ∀ vs H Q E, sp vs H Q E → vs.length = ps.length)
    (hbody : ∀ (f : Addr) (cdv : Value) (A : Around) (outer : List Env) (s : Shared) (H : Hp) (vs : List V) (Q : VK) (E : XK), Ent A s H → Room k (A.deeper (envOfC x (defScope st) s.heap.objs.size f cdv)) → sp vs H Q E →
      ∃ t, PSs (cxOf CX0 P w K mg base N x (defScope st) f cdv A outer s H E).nox (defBody st) t ∧ t { nx := fun _ H' => Q .non H', rt := Q } (start N vs) H) : CalG P w K mg base (k + 1) x ps sp := by
  obtain ⟨f, fd, F, hm, hb⟩ := D
  exact ⟨f, fd, Fun.okG F S len (hbody f), hm, F.kp, hb⟩
end
/-- a body's context below which nothing is shown -/
structure EntX (X : Cx) : Prop where
  gu : X.A.guards = some []
  sm : ∃ o, X.s_0.heap.get? sysModules = some o
  hm : X.H_0 sysModules = none
  ex : sysModules ∉ X.ex
section
variable {X : Cx} {pins : List (Addr × Obj)} {σ : L2.St} {H : Hp} {s : Shared}
theorem inv_sys (I : Inv X pins σ H s) (e : EntX X) : H sysModules = none ∧ ∃ o, s.heap.get? sysModules = some o := by
  obtain ⟨o, ho⟩ := e.sm
  exact ⟨I.base.free _ o ho e.hm e.ex, I.base.there _ o ho e.ex⟩
theorem pe_calG {k : Nat} {x : Str} {ps : List Str} {sp : Sp} {p pos : Pos} {e : Expr} {es : List Expr} {t : TA} (en : EntX X) (c : CalG X.prog X.w X.K X.mg X.base k x ps sp) (hr : Room k X.A) (hg : Gl X x) (ha : PA X (e :: es) t) (hdb : (x == ("__debug__" : Str)) = false := by decide)
    (he : starEach (e :: es) X.env = (false, eval e X.env) :: starEach es X.env := by rfl) (hpl : (backTo pos (starEach es X.env)).any (·.1) = false := by rfl) : PE X (.Call (.Name x p) (e :: es) [] pos) (tCall sp [] E0 t) := by
  obtain ⟨f, fd, F, hm, hk, hb⟩ := c
  refine ⟨fun pins s σ H Q I h => ?_⟩
  refine wpAny_Call_Name_kw (ld_glob I hg hm ?_ hdb)
  refine PySem.W.callWith_K (h₀ := X.base) I.ok.mod.kin hk (thn (ha.run pos pins s σ H _ I h) fun us s1 ⟨vs, H1, I1, r, q⟩ => ⟨I1.kIn, ?_⟩) he hpl
  have q' : sp vs H1 Q E0 := by
    have q2 : sp (vs ++ []) H1 Q E0 := q
    rw [List.append_nil] at q2
    exact q2
  have hl : us.length = ps.length := by
    rw [← r.length]
    exact F.len _ _ _ _ q'
  obtain ⟨z1, z2⟩ := inv_sys I1 en
  have hb' := hb s1 us I1.kIn (by rw [List.append_nil]; exact hl)
  rw [List.append_nil] at hb'
  refine wpAny_call (codeAny_mono (F.run X.A X.stack s1 H1 ⟨us, []⟩ us vs Q E0 ⟨en.gu, z2, z1⟩ hr I1.env0 hb' r q') fun rr s' hq => ?_)
  cases rr with
  | error e => exact False.elim hq
  | ok fl =>
    cases fl with
    | ret u => exact I1.after hq
    | next => exact False.elim hq
    | brk => exact False.elim hq
    | cont => exact False.elim hq
end
/-! ### data as the model reads it -/
theorem kV_rel {k : Key} {u : Value} (h : keyIs k u = true) : RelV (kV k) u := by
  rcases keyIs_shape h with ⟨i, t, rfl, rfl⟩ | ⟨x, t, rfl, rfl⟩
  · exact ⟨t, rfl⟩
  · exact ⟨t, rfl⟩
theorem pairs_vals {prog : Program} {w : World} {l : List DictEntry} {vs : List (Key × Value)} (hp : Pairs (mixKind prog w) l vs) : ∀ {kvs : List (Key × V)}, KV kvs vs → Vals (kvs.map fun p => kV p.1) (l.map (·.key)) ∧ Vals (kvs.map (·.2)) (l.map (·.val)) := by
  induction hp with
  | nil =>
    intro kvs rv
    cases rv
    exact ⟨.nil, .nil⟩
  | cons hk hv _ ih =>
    intro kvs rv
    cases rv with
    | cons q qs =>
      obtain ⟨i1, i2⟩ := ih qs
      obtain ⟨q1, q2⟩ := q
      refine ⟨.cons ?_ i1, .cons ?_ i2⟩
      · dsimp only
        rw [q1]
        exact kV_rel hk
      · dsimp only
        rw [hv]
        exact q2
section
variable {X : Cx} {pins : List (Addr × Obj)} {σ : L2.St} {H : Hp} {s : Shared} {N : Addr → Prop}
mutual
theorem Da.reads (I : Inv X pins σ H s) : ∀ (d : PyData) (v : V) (u : Value), Da N H v d → RelV v u → ∃ as, Reads s.heap u d as ∧ ∀ a ∈ as, H a ≠ none
  | .none, _, _, h, r => by
    cases h
    cases r
    exact ⟨_, Reads.none, fun _ z => nomatch z⟩
  | .bool b, _, _, h, r => by
    cases h
    cases r
    exact ⟨_, Reads.bool b, fun _ z => nomatch z⟩
  | .int i, _, _, h, r => by
    cases h
    obtain ⟨t, rfl⟩ := r
    exact ⟨_, Reads.int i t, fun _ z => nomatch z⟩
  | .str x, _, _, h, r => by
    cases h
    obtain ⟨t, rfl⟩ := r
    exact ⟨_, Reads.str x t, fun _ z => nomatch z⟩
  | .list ds, _, _, h, r => by
    cases h with
    | @lst a xs _ e _ ha =>
      cases r
      obtain ⟨_, its, n, rv, ho⟩ := I.hok a _ e
      obtain ⟨as, hr, hn⟩ := Da.readsAll I ds _ its ha rv
      refine ⟨_, Reads.list ho rfl rfl (by simpa using hr), fun b hb => ?_⟩
      rcases List.mem_cons.mp hb with rfl | hb
      · rw [e]
        exact fun z => nomatch z
      · exact hn b hb
  | .tuple ds, _, _, h, r => by
    cases h with
    | @tup a xs _ e _ ha =>
      cases r
      obtain ⟨_, its, rv, o, ho, hc, n, hd⟩ := I.hok a _ e
      obtain ⟨as, hr, hn⟩ := Da.readsAll I ds _ its ha rv
      exact ⟨_, Reads.tuple ho hc hd (by simpa using hr), hn⟩
  | .dict ds, _, _, h, r => by
    cases h with
    | @dct a kvs _ e _ h1 h2 =>
      cases r
      obtain ⟨_, _, vs, rv, o, es, ep, ho, hx, hd, _, hp, _⟩ := I.hok a _ e
      have hk := pairs_vals hp rv
      obtain ⟨as, r1, n1⟩ := Da.readsK I ds _ _ h1 hk.1
      obtain ⟨bs, r2, n2⟩ := Da.readsV I ds _ _ h2 hk.2
      refine ⟨_, Reads.dict ho hx.1 hd r1 r2, fun b hb => ?_⟩
      rcases List.mem_append.mp hb with hb | hb
      · rcases List.mem_cons.mp hb with rfl | hb
        · rw [e]
          exact fun z => nomatch z
        · exact n1 b hb
      · exact n2 b hb
theorem Da.readsAll (I : Inv X pins σ H s) : ∀ (ds : List PyData) (vs : List V) (us : List Value), DaAll N H vs ds → Vals vs us → ∃ as, ReadsAll s.heap us ds as ∧ ∀ a ∈ as, H a ≠ none
  | [], _, _, h, r => by
    cases h
    cases r
    exact ⟨_, ReadsAll.nil, fun _ z => nomatch z⟩
  | d :: ds, _, _, h, r => by
    cases h with
    | cons h1 h2 =>
      cases r with
      | cons r1 r2 =>
        obtain ⟨as, q1, n1⟩ := Da.reads I d _ _ h1 r1
        obtain ⟨bs, q2, n2⟩ := Da.readsAll I ds _ _ h2 r2
        exact ⟨_, ReadsAll.cons q1 q2, fun b hb => (List.mem_append.mp hb).elim (n1 b) (n2 b)⟩
theorem Da.readsK (I : Inv X pins σ H s) : ∀ (ds : List (PyData × PyData)) (vs : List V) (us : List Value), DaAll N H vs (ds.map (·.1)) → Vals vs us → ∃ as, ReadsAll s.heap us (ds.map (·.1)) as ∧ ∀ a ∈ as, H a ≠ none
  | [], _, _, h, r => by
    cases h
    cases r
    exact ⟨_, ReadsAll.nil, fun _ z => nomatch z⟩
  | (d, e) :: ds, _, _, h, r => by
    cases h with
    | cons h1 h2 =>
      cases r with
      | cons r1 r2 =>
        obtain ⟨as, q1, n1⟩ := Da.reads I d _ _ h1 r1
        obtain ⟨bs, q2, n2⟩ := Da.readsK I ds _ _ h2 r2
        exact ⟨_, ReadsAll.cons q1 q2, fun b hb => (List.mem_append.mp hb).elim (n1 b) (n2 b)⟩
theorem Da.readsV (I : Inv X pins σ H s) : ∀ (ds : List (PyData × PyData)) (vs : List V) (us : List Value), DaAll N H vs (ds.map (·.2)) → Vals vs us → ∃ as, ReadsAll s.heap us (ds.map (·.2)) as ∧ ∀ a ∈ as, H a ≠ none
  | [], _, _, h, r => by
    cases h
    cases r
    exact ⟨_, ReadsAll.nil, fun _ z => nomatch z⟩
  | (e, d) :: ds, _, _, h, r => by
    cases h with
    | cons h1 h2 =>
      cases r with
      | cons r1 r2 =>
        obtain ⟨as, q1, n1⟩ := Da.reads I d _ _ h1 r1
        obtain ⟨bs, q2, n2⟩ := Da.readsV I ds _ _ h2 r2
        exact ⟨_, ReadsAll.cons q1 q2, fun b hb => (List.mem_append.mp hb).elim (n1 b) (n2 b)⟩
end
end
/-! ### how long its text is, at most -/
mutual
def wt : PyData → Nat
  | .none => 4
  | .bool _ => 5
  | .int _ => 130
  | .str x => (reprText x).length
  | .list ds => 2 + wtAll ds
  | .tuple ds => 3 + wtAll ds
  | .dict ds => 2 + wtKv ds
def wtAll : List PyData → Nat
  | [] => 0
  | d :: ds => wt d + 2 + wtAll ds
def wtKv : List (PyData × PyData) → Nat
  | [] => 0
  | (a, b) :: ds => wt a + wt b + 4 + wtKv ds
end
mutual
/-- its whole numbers lie within b -/
def within (b : Int) : PyData → Prop
  | .none => True
  | .bool _ => True
  | .int i => -b ≤ i ∧ i ≤ b
  | .str _ => True
  | .list ds => withinAll b ds
  | .tuple ds => withinAll b ds
  | .dict ds => withinKv b ds
def withinAll (b : Int) : List PyData → Prop
  | [] => True
  | d :: ds => within b d ∧ withinAll b ds
def withinKv (b : Int) : List (PyData × PyData) → Prop
  | [] => True
  | (x, y) :: ds => within b x ∧ within b y ∧ withinKv b ds
end
theorem textFrom_le : ∀ (ts : List Str) (k : Nat) (acc : Str), (textFrom k acc ts).length ≤ acc.length + piled ts
  | [], _, _ => Nat.le_add_right _ _
  | t :: ts, k, acc => by
    have h := textFrom_le ts (k + 1) (acc ++ (if k > 0 then ", " else "" : String) ++ t)
    have e : (acc ++ (if k > 0 then ", " else "" : String) ++ t).length ≤ acc.length + 2 + t.length := by
      rw [strLen_append, strLen_append]
      have : (Str.ofString (if k > 0 then ", " else "" : String)).length ≤ 2 := by split <;> decide
      omega
    rw [piled_cons]
    show (textFrom (k + 1) _ ts).length ≤ _
    omega
theorem listText_le (ts : List Str) : (listText ts).length ≤ 2 + piled ts := by
  unfold listText
  have h := textFrom_le ts 0 "["
  rw [strLen_append]
  have e1 : (Str.ofString "[").length = 1 := by decide
  have e2 : (Str.ofString "]").length = 1 := by decide
  have h' : (textFrom 0 (Str.ofString "[") ts).length ≤ (Str.ofString "[").length + piled ts := h
  show (textFrom 0 (Str.ofString "[") ts).length + (Str.ofString "]").length ≤ _
  omega
theorem join_le (ts : List Str) : (Str.join ", " ts).length ≤ piled ts := by
  by_cases h : ts = []
  · subst h
    decide
  · have := join_length_add ts h
    omega
theorem tupleText_le (ts : List Str) : (tupleText ts).length ≤ 3 + piled ts := by
  unfold tupleText
  have h := join_le ts
  rw [strLen_append, strLen_append]
  have e1 : (Str.ofString "(").length = 1 := by decide
  have e2 : (Str.ofString (if ts.length == 1 then ",)" else ")" : String)).length ≤ 2 := by split <;> decide
  show (Str.ofString "(").length + (Str.join (Str.ofString ", ") ts).length + (Str.ofString (if ts.length == 1 then ",)" else ")" : String)).length ≤ _
  have h' : (Str.join (Str.ofString ", ") ts).length ≤ piled ts := h
  omega
theorem dictText_le (ts : List Str) : (dictText ts).length ≤ 2 + piled ts := by
  unfold dictText
  have h := join_le ts
  rw [strLen_append, strLen_append]
  have e1 : (Str.ofString "{").length = 1 := by decide
  have e2 : (Str.ofString "}").length = 1 := by decide
  show (Str.ofString "{").length + (Str.join (Str.ofString ", ") ts).length + (Str.ofString "}").length ≤ _
  have h' : (Str.join (Str.ofString ", ") ts).length ≤ piled ts := h
  omega
theorem int_log {i b : Int} (h : -b ≤ i ∧ i ≤ b) (hb : b < 2 ^ 120) : i.natAbs.log2 < 120 := by
  have h1 : i.natAbs < 2 ^ 120 := by omega
  exact PySem.Flt.log2_lt_of (by decide) h1
mutual
theorem shown_le {b : Int} (hb : b < 2 ^ 120) : ∀ d : PyData, within b d → d.shown.length ≤ wt d ∧ d.showable = true
  | .none, _ => by
    simp only [PyData.shown, PyData.showable, wt]
    decide
  | .bool c, _ => by
    cases c <;> (simp only [PyData.shown, PyData.showable, wt]; decide)
  | .int i, h => by
    have h' : -b ≤ i ∧ i ≤ b := by simpa only [within] using h
    have hl := int_log h' hb
    simp only [PyData.shown, PyData.showable, wt]
    have q := int_text_length_le (a := i) (k := 120) (by decide) hl
    refine ⟨?_, decide_eq_true (by omega)⟩
    have e := PySem.ofString_length (toString i)
    show (Str.ofString (toString i)).length ≤ 130
    omega
  | .str x, _ => by
    simp only [PyData.shown, PyData.showable, wt]
    exact ⟨Nat.le_refl _, trivial⟩
  | .list ds, h => by
    have h' : withinAll b ds := by simpa only [within] using h
    obtain ⟨q1, q2⟩ := shownAll_le hb ds h'
    simp only [PyData.shown, PyData.showable, wt]
    have := listText_le (PyData.shownAll ds)
    exact ⟨by omega, q2⟩
  | .tuple ds, h => by
    have h' : withinAll b ds := by simpa only [within] using h
    obtain ⟨q1, q2⟩ := shownAll_le hb ds h'
    simp only [PyData.shown, PyData.showable, wt]
    have := tupleText_le (PyData.shownAll ds)
    exact ⟨by omega, q2⟩
  | .dict ds, h => by
    have h' : withinKv b ds := by simpa only [within] using h
    obtain ⟨q1, q2⟩ := shownKv_le hb ds h'
    simp only [PyData.shown, PyData.showable, wt]
    have := dictText_le (PyData.shownKv ds)
    exact ⟨by omega, q2⟩
theorem shownAll_le {b : Int} (hb : b < 2 ^ 120) : ∀ ds : List PyData, withinAll b ds → piled (PyData.shownAll ds) ≤ wtAll ds ∧ PyData.showableAll ds = true
  | [], _ => by
    simp only [PyData.shownAll, PyData.showableAll, wtAll]
    exact ⟨Nat.le_refl _, trivial⟩
  | d :: ds, h => by
    have h' : within b d ∧ withinAll b ds := by simpa only [withinAll] using h
    obtain ⟨a1, a2⟩ := shown_le hb d h'.1
    obtain ⟨b1, b2⟩ := shownAll_le hb ds h'.2
    simp only [PyData.shownAll, PyData.showableAll, wtAll]
    rw [piled_cons, a2, b2]
    exact ⟨by omega, rfl⟩
theorem shownKv_le {b : Int} (hb : b < 2 ^ 120) : ∀ ds : List (PyData × PyData), withinKv b ds → piled (PyData.shownKv ds) ≤ wtKv ds ∧ PyData.showableKv ds = true
  | [], _ => by
    simp only [PyData.shownKv, PyData.showableKv, wtKv]
    exact ⟨Nat.le_refl _, trivial⟩
  | (x, y) :: ds, h => by
    have h' : within b x ∧ within b y ∧ withinKv b ds := by simpa only [withinKv] using h
    obtain ⟨a1, a2⟩ := shown_le hb x h'.1
    obtain ⟨c1, c2⟩ := shown_le hb y h'.2.1
    obtain ⟨b1, b2⟩ := shownKv_le hb ds h'.2.2
    simp only [PyData.shownKv, PyData.showableKv, wtKv]
    have e : (Str.ofString ": ").length = 2 := by decide
    rw [piled_cons, a2, b2, c2, strLen_append, strLen_append]
    refine ⟨?_, rfl⟩
    show x.shown.length + (Str.ofString ": ").length + y.shown.length + 2 + _ ≤ _
    omega
end
/-- data whose text is made without a fault -/
structure Gd (n e : Nat) (d : PyData) : Prop where
  iw : within 2000000000000 d
  wn : wt d ≤ n
  dp : d.depth ≤ e
/-- repr(x) -/
def rReprD : List V → Hp → VK → Prop := fun xs H Q => ∃ (N : Addr → Prop) (v : V) (d : PyData), xs = [v] ∧ Da N H v d ∧ Gd 16000000 100 d ∧ Q (.str d.shown) H
theorem call_repr {X : Cx} (en : EntX X) (hu : X.A.units + 150 < cLine) : CallR X (.builtin "repr") rReprD := by
  intro pins s σ H xs us Q I r h
  obtain ⟨N, v, d, rfl, hd, hg, q⟩ := h
  obtain ⟨u, rfl, rv⟩ := vals1 r
  obtain ⟨as, hr, hn⟩ := Da.reads I d v u hd rv
  obtain ⟨z1, z2⟩ := shown_le (by decide) d hg.iw
  have hs : d.shown.length ≤ sizeLine := Nat.le_trans z1 (Nat.le_trans hg.wn (by decide))
  have hsm : d.hasDict = true → sysModules ∉ as := fun _ hm => hn _ hm (inv_sys I en).1
  have hdp := hg.dp
  cases hr with
  | none => exact PySem.P.repr_of_none ⟨.str _, H, I.tok _, ⟨_, rfl⟩, by simpa only [PyData.shown] using q⟩
  | bool b => exact PySem.P.repr_of_bool ⟨.str _, H, I.tok _, ⟨_, rfl⟩, by simpa only [PyData.shown] using q⟩
  | int i t => exact PySem.P.repr_of_int (by simpa [PyData.showable] using z2) ⟨.str _, H, I.tok _, ⟨_, rfl⟩, by simpa only [PyData.shown] using q⟩
  | str x t => exact PySem.P.repr_of_str ⟨.str _, H, I.tok _, ⟨_, rfl⟩, by simpa only [PyData.shown] using q⟩ (by simpa only [PyData.shown] using hs)
  | list a1 a2 a3 a4 => exact repr_of_reads' (.list a1 a2 a3 a4) z2 hsm en.gu (by omega) (fun _ _ e => e) (fun h' u' tk k => ⟨.str _, H, I.kept (t' := tk) k, ⟨_, rfl⟩, q⟩) hs
  | tuple a1 a2 a3 a4 => exact repr_of_reads' (.tuple a1 a2 a3 a4) z2 hsm en.gu (by omega) (fun _ _ e => e) (fun h' u' tk k => ⟨.str _, H, I.kept (t' := tk) k, ⟨_, rfl⟩, q⟩) hs
  | dict a1 a2 a3 a4 a5 => exact repr_of_reads' (.dict a1 a2 a3 a4 a5) z2 hsm en.gu (by omega) (fun _ _ e => e) (fun h' u' tk k => ⟨.str _, H, I.kept (t' := tk) k, ⟨_, rfl⟩, q⟩) hs

/-! ### the law's end, with the bits told, for a law that makes texts of values -/
theorem law_callG {P : Program} {w : World} {K : PySem.W.Frag} {mg mb : Str → Option Value} {k : Nat} {fa a : Addr} {fd : FuncData} {x : Str} {sp : Sp} {s1 : Shared} {vs : List Value} {ns : List Int}
    (KX : K.In s1.heap) (hns : s1.heap.Ns mainGlobals mg) (hb : s1.heap.Ns builtinsNs mb) (hbb : ∀ x : Str, x ≠ "__name__" → mb x = bootBuiltins x) (hlim : s1.heap.NoLimit) (hsys : ∃ mm, s1.heap.Ns sysModules mm) (hg : s1.gens = #[])
    (ha : s1.heap.get? a = some { cls := .type "list", data := .seq vs.toArray }) (hi : IntsAre vs ns) (hl : ns.length ≤ sizeLine) (hr : Room k callerA)
    (F : ∀ base : Heap, K.In base → base.Ns mainGlobals mg → FnG P w K mg base k fa fd [x] sp) (hbind : ∀ (s : Shared) (u : Value), K.In s.heap → BindsTo s fd ⟨[u], []⟩ [(x, u)])
    (hsp : ∀ H : Hp, Only H → SqL K H a (ns.map V.int) → sp [.ref a] H (fun v _ => v = .bl true) fun _ _ _ => False) :
    codeAny (model P w) callerA (.call (.ref fa) ⟨[.ref a], []⟩) (fun r s' => r = .ok (.ret (.bool true)) ∧ OldK s1.heap s'.heap ∧ s'.os = s1.os ∧ AllBare s'.gens) s1 := by
  have rv := vals_ints hi
  have lenV := hi.length
  have main : ∀ H : Hp, Only H → SqL K H a (ns.map V.int) → HOk P w H s1.heap → (∀ b, H b ≠ none → b = a) → (H a ≠ none → K.lookup a = none) →
      codeAny (model P w) callerA (.call (.ref fa) ⟨[.ref a], []⟩) (fun r s' => r = .ok (.ret (.bool true)) ∧ OldK s1.heap s'.heap ∧ s'.os = s1.os ∧ AllBare s'.gens) s1 := by
    intro H hO hS hok hA hK
    have at_dict : ∀ {b : Addr} {o : Obj} {es : Array DictEntry} {ep : Nat}, s1.heap.get? b = some o → o.data = .dict es ep → H b = none := by
      intro b o es ep e d
      cases q : H b with
      | none => rfl
      | some u =>
        exfalso
        have z := hA b (by rw [q]; exact fun z => nomatch z)
        rw [z, ha] at e
        cases e
        cases (show Data.seq vs.toArray _ = Data.dict es ep from d)
    have keepNs : ∀ {b : Addr} {m : Str → Option Value}, s1.heap.Ns b m → (hidT s1.heap H).Ns b m := by
      rintro b m ⟨o, es, ep, e, d, r⟩
      exact ⟨o, es, ep, hidT_get e (at_dict e d), d, r⟩
    have hKb : K.In (hidT s1.heap H) := by
      intro b o e
      refine hidT_get (KX b o e) ?_
      cases q : H b with
      | none => rfl
      | some u =>
        exfalso
        have hn : H b ≠ none := by rw [q]; exact fun z => nomatch z
        have z := hA b hn
        subst z
        rw [hK hn] at e
        cases e
    have e0 : Env0 P w K mg (hidT s1.heap H) callerA [] s1 H := by
      refine ⟨rfl, ⟨hKb, keepNs hns, ⟨mb, keepNs hb, hbb⟩, ?_⟩, fun b o e => of_hidT e, Nat.le_of_eq (hidT_size _ _), trivial, fun b hb => ?_, hok, .of_eq hg⟩
      · obtain ⟨mc, h1, h2⟩ := hlim
        exact ⟨mc, keepNs h1, h2⟩
      · exact absurd (show b ∈ ([] : List Addr) from hb) (by simp)
    have en : Ent callerA s1 H := by
      obtain ⟨mm, o, es, ep, e, d, _⟩ := hsys
      exact ⟨rfl, ⟨o, e⟩, at_dict e d⟩
    refine codeAny_mono ((F _ hKb (keepNs hns)).run callerA [] s1 H ⟨[.ref a], []⟩ [.ref a] [.ref a] _ _ en hr e0 (hbind s1 (.ref a) KX) (.cons rfl .nil) (hsp H hO hS)) fun r s' h => ?_
    cases r with
    | error e => exact False.elim h
    | ok fl =>
      cases fl with
      | next => exact False.elim h
      | brk => exact False.elim h
      | cont => exact False.elim h
      | ret u =>
        obtain ⟨v, H', os, bare, un, hok', r', q⟩ := h
        obtain rfl : v = .bl true := q
        obtain rfl : u = Value.bool true := r'
        refine ⟨rfl, OldK.of_keep fun b o e => ?_, os, bare⟩
        rcases hO b with z | ⟨ob, xs, z⟩
        · exact un.keep b o e z (fun m => absurd (show b ∈ ([] : List Addr) from m) (by simp)) (by simp)
        · have e1 := (hok b _ z).1
          have e2 := (hok' b _ (un.frzs b ob _ z)).1
          rw [e] at e1
          cases e1
          exact e2
  cases hk : K.lookup a with
  | some o =>
    have e := KX a o hk
    rw [ha] at e
    cases e
    refine main (fun _ => none) (fun _ => .inl rfl) (.inr ⟨_, vs.toArray, _, hk, rfl, rfl, rfl, ?_, ?_⟩) (fun b u z => nomatch (show (none : Option HO) = some u from z)) (fun b z => absurd rfl z) fun z => absurd rfl z
    · rw [List.size_toArray, lenV]
      exact hl
    · simpa using rv
  | none =>
    let Hs : Hp := fun b => if b = a then some (.frz { cls := .type "list", data := .seq vs.toArray } (.lst (ns.map V.int))) else none
    have at_a : Hs a = some (.frz { cls := .type "list", data := .seq vs.toArray } (.lst (ns.map V.int))) := if_pos rfl
    have else_ : ∀ b, b ≠ a → Hs b = none := fun b hb => if_neg hb
    refine main Hs (fun b => ?_) (.inl (.inr ⟨_, at_a⟩)) (fun b u z => ?_) (fun b z => ?_) fun _ => hk
    · by_cases hb : b = a
      · rw [hb]
        exact .inr ⟨_, _, at_a⟩
      · exact .inl (else_ b hb)
    · by_cases hb : b = a
      · rw [hb] at z ⊢
        rw [at_a] at z
        cases z
        exact ⟨ha, by rw [List.length_map]; exact hl, vs, _, rv, ha⟩
      · rw [else_ b hb] at z
        cases z
    · by_cases hb : b = a
      · exact hb
      · exact absurd (else_ b hb) z
theorem walk_ofG {l : PySem.W.OpenLaw} {n k : Nat} {q : Program} {loose : List Str} {XP : (Str → Option Value) → Heap → Prop} {YP : World → Heap → Prop} {d : DefRec} {K : Params → PySem.W.Frag} {sp : World → Sp} {x : Str}
    (hn : l.most = some n) (hn2 : n ≤ sizeLine) (hdf : d.params.defaults = []) (hr : Room k callerA) (hi : importsNone q = true)
    (hY : ∀ (w : World) (h : Heap), YP w h → (K w.params).In h)
    (F : ∀ (w : World) (mg : Str → Option Value) (fa : Addr) (h : Heap), (K w.params).In h → h.Ns mainGlobals mg → mg d.name = some (.ref fa) →
      ∃ fd : FuncData, (∀ (s : Shared) (u : Value), (K w.params).In s.heap → BindsTo s fd ⟨[u], []⟩ [(x, u)]) ∧
        ∀ base : Heap, (K w.params).In base → base.Ns mainGlobals mg → FnG l.prog w (K w.params) mg base k fa fd [x] (sp w))
    (hsp : ∀ (w : World) (H : Hp) (a : Addr) (ns : List Int), ns.length ≤ n → (∀ z ∈ ns, Builtin.Int.intBits z ≤ 1048576) → Only H → SqL (K w.params) H a (ns.map V.int) → sp w [.ref a] H (fun v _ => v = .bl true) fun _ _ _ => False) :
    PySem.W.WalkO q loose XP YP l.row.toRowW d [] (fun f vs => PySem.call f vs) := by
  refine Att.attach_callB hn hdf fun w s0 s1 mg mb fa o pm cd doc a vs ns G Y ho hd hcd hmg hobj hints hlen hbits hg => ?_
  have KX := hY w _ Y
  obtain ⟨fd, hb, hF⟩ := F w mg fa _ KX G.T.g hmg
  obtain ⟨mm, hm, _⟩ := (G.T.seer hi).mods
  exact law_callG KX G.T.g G.T.b G.T.builtins G.T.nolimit ⟨mm, hm⟩ hg hobj hints (Nat.le_trans hlen hn2) hr hF hb (fun H hO hS => hsp w H a ns hlen hbits hO hS)
end HX

set_option maxRecDepth 100000
set_option maxHeartbeats 4000000
namespace HX
open PySem PySem.Spec PyProof.Rows L2
theorem Kp.mut {N : Addr → Prop} {H H' : Hp} {p : Addr} {o : HO} (k : Kp N H H') (h : H p = none) : Kp N H (upd H' p o) := fun b x e nb => by
  rw [upd_ne (ne_of_none e h)]
  exact k b x e nb
/-! ### data of tuples alone: no store turns it -/
def KT (H H' : Hp) : Prop := ∀ b xs, H b = some (.tup xs) → H' b = some (.tup xs)
theorem KT.refl (H : Hp) : KT H H := fun _ _ h => h
theorem KT.trans {H H1 H2 : Hp} (a : KT H H1) (b : KT H1 H2) : KT H H2 := fun c xs h => b c xs (a c xs h)
theorem KT.new {H : Hp} {p : Addr} {o : HO} (h : H p = none) : KT H (upd H p o) := fun b xs e => by
  rw [upd_ne (ne_of_none e h)]
  exact e
theorem KT.put {H : Hp} {p : Addr} {o : HO} {xs : List V} (h : H p = some (.lst xs)) : KT H (upd H p o) := fun b ys e => by
  rw [upd_ne (ne_of e h (fun z => by cases z))]
  exact e
theorem KT.same {H H' : Hp} (h : Same H H') : KT H H' := fun b xs e => h b _ e
theorem KT.kp {H H' : Hp} {p : Addr} {xs : List V} (h : H p = some (.lst xs)) (k : Kp (· = p) H H') : KT H H' := fun b ys e => k b _ e (ne_of e h (fun z => by cases z))
mutual
inductive Td (H : Hp) : V → PyData → Prop
  | non : Td H .non .none
  | bl (b : Bool) : Td H (.bl b) (.bool b)
  | int (i : Int) : Td H (.int i) (.int i)
  | str (x : Str) : Td H (.str x) (.str x)
  | tup {a : Addr} {xs : List V} {ds : List PyData} : H a = some (.tup xs) → TdAll H xs ds → Td H (.ref a) (.tuple ds)
inductive TdAll (H : Hp) : List V → List PyData → Prop
  | nil : TdAll H [] []
  | cons {v : V} {vs : List V} {d : PyData} {ds : List PyData} : Td H v d → TdAll H vs ds → TdAll H (v :: vs) (d :: ds)
end
mutual
theorem Td.mono {H H' : Hp} (k : KT H H') : ∀ (d : PyData) (v : V), Td H v d → Td H' v d
  | .none, _, h => by cases h; exact .non
  | .bool b, _, h => by cases h; exact .bl b
  | .int i, _, h => by cases h; exact .int i
  | .str x, _, h => by cases h; exact .str x
  | .tuple ds, _, h => by
    cases h with
    | tup e ha => exact .tup (k _ _ e) (TdAll.mono k ds _ ha)
  | .list _, _, h => by cases h
  | .dict _, _, h => by cases h
theorem TdAll.mono {H H' : Hp} (k : KT H H') : ∀ (ds : List PyData) (vs : List V), TdAll H vs ds → TdAll H' vs ds
  | [], _, h => by cases h; exact .nil
  | d :: ds, _, h => by
    cases h with
    | cons h1 h2 => exact .cons (Td.mono k d _ h1) (TdAll.mono k ds _ h2)
end
mutual
theorem Td.da {N : Addr → Prop} {H : Hp} (hn : ∀ a xs, H a = some (.tup xs) → ¬ N a) : ∀ (d : PyData) (v : V), Td H v d → Da N H v d
  | .none, _, h => by cases h; exact .non
  | .bool b, _, h => by cases h; exact .bl b
  | .int i, _, h => by cases h; exact .int i
  | .str x, _, h => by cases h; exact .str x
  | .tuple ds, _, h => by
    cases h with
    | tup e ha => exact .tup e (hn _ _ e) (TdAll.da hn ds _ ha)
  | .list _, _, h => by cases h
  | .dict _, _, h => by cases h
theorem TdAll.da {N : Addr → Prop} {H : Hp} (hn : ∀ a xs, H a = some (.tup xs) → ¬ N a) : ∀ (ds : List PyData) (vs : List V), TdAll H vs ds → DaAll N H vs ds
  | [], _, h => by cases h; exact .nil
  | d :: ds, _, h => by
    cases h with
    | cons h1 h2 => exact .cons (Td.da hn d _ h1) (TdAll.da hn ds _ h2)
end
theorem TdAll.len {H : Hp} : ∀ {vs : List V} {ds : List PyData}, TdAll H vs ds → vs.length = ds.length
  | _, _, .nil => rfl
  | _, _, .cons _ t => by rw [List.length_cons, List.length_cons, TdAll.len t]
theorem TdAll.get {H : Hp} : ∀ {vs : List V} {ds : List PyData} {i : Nat} {v : V}, TdAll H vs ds → vs[i]? = some v → ∃ d, ds[i]? = some d ∧ Td H v d
  | _, _, _, _, .nil, e => by simp at e
  | _, _, 0, _, .cons h _, e => by
    have e' := Option.some.inj e
    exact ⟨_, rfl, e' ▸ h⟩
  | _, _, i + 1, _, .cons _ t, e => by
    obtain ⟨d, h1, h2⟩ := TdAll.get (i := i) t (by simpa using e)
    exact ⟨d, by simpa using h1, h2⟩
theorem TdAll.at {H : Hp} : ∀ {vs : List V} {ds : List PyData} {i : Nat} {d : PyData}, TdAll H vs ds → ds[i]? = some d → ∃ v, vs[i]? = some v ∧ Td H v d
  | _, _, _, _, .nil, e => by simp at e
  | _, _, 0, _, .cons h _, e => by
    have e' := Option.some.inj e
    exact ⟨_, rfl, e' ▸ h⟩
  | _, _, i + 1, _, .cons _ t, e => by
    obtain ⟨v, h1, h2⟩ := TdAll.at (i := i) t (by simpa using e)
    exact ⟨v, by simpa using h1, h2⟩
theorem TdAll.append {H : Hp} : ∀ {vs us : List V} {ds es : List PyData}, TdAll H vs ds → TdAll H us es → TdAll H (vs ++ us) (ds ++ es)
  | _, _, _, _, .nil, s => s
  | _, _, _, _, .cons r t, s => .cons r (TdAll.append t s)
theorem TdAll.snoc {H : Hp} {vs : List V} {ds : List PyData} {v : V} {d : PyData} (h : TdAll H vs ds) (g : Td H v d) : TdAll H (vs ++ [v]) (ds ++ [d]) := h.append (.cons g .nil)
theorem TdAll.ints {H : Hp} : ∀ ns : List Int, TdAll H (ns.map V.int) (ns.map PyData.int)
  | [] => .nil
  | n :: ns => .cons (.int n) (TdAll.ints ns)
theorem Td.tupOf {H : Hp} {v : V} {ds : List PyData} (h : Td H v (.tuple ds)) : ∃ a xs, v = .ref a ∧ H a = some (.tup xs) ∧ TdAll H xs ds := by
  cases h with
  | tup e ha => exact ⟨_, _, rfl, e, ha⟩
theorem Td.intOf {H : Hp} {v : V} {i : Int} (h : Td H v (.int i)) : v = .int i := by
  cases h
  rfl
theorem Td.new {H : Hp} {p : Addr} {xs : List V} {ds : List PyData} (hp : H p = none) (h : TdAll H xs ds) : Td (upd H p (.tup xs)) (.ref p) (.tuple ds) := .tup upd_same (TdAll.mono (KT.new hp) _ _ h)
/-! ### boards, moments, rows as plain lists -/
def stepD (es : List Int) : PyData := .tuple (es.map PyData.int)
def wheelD (w : List (List Int)) : PyData := .tuple (w.map stepD)
def wheelsD (ws : List (List (List Int))) : PyData := .tuple (ws.map wheelD)
def boardD (ws : List (List (List Int))) (c : Int) : PyData := .tuple [wheelsD ws, .int c]
def EndsOk (n : Int) (s : List Int) : Prop := s.length ≤ 3 ∧ ∀ e ∈ s, 0 ≤ e ∧ e < n
def WheelOk (n : Int) (w : List (List Int)) : Prop := 1 ≤ w.length ∧ w.length ≤ 4 ∧ ∀ s ∈ w, EndsOk n s
structure BoardOk (ws : List (List (List Int))) (c : Int) : Prop where
  w1 : 1 ≤ ws.length
  w6 : ws.length ≤ 6
  c0 : 0 ≤ c
  c4 : c ≤ 4
  wheels : ∀ w ∈ ws, WheelOk ((ws.length : Int) + c) w
end HX

set_option maxRecDepth 100000
set_option maxHeartbeats 4000000
namespace HX
open PySem PySem.Spec PyProof.Rows L2
/-! ### written data -/
def Fr (N : Addr → Prop) (H : Hp) : Prop := ∀ H1, Same H H1 → ∀ p, H1 p = none → ¬ N p
theorem Fr.none (H : Hp) : Fr (fun _ => False) H := fun _ _ _ _ z => z
theorem Fr.one {H : Hp} {a : Addr} {o : HO} (h : H a = some o) : Fr (· = a) H := fun H1 s p hp z => by
  rw [z, s _ _ h] at hp
  cases hp
def EvD (N : Addr → Prop) (te : TE) (σ : L2.St) (H : Hp) (d : PyData) : Prop := ∀ H1, Same H H1 → ∀ Q : VK, (∀ v H2, Same H1 H2 → Da N H2 v d → Q v H2) → te σ H1 Q
def EvDs (N : Addr → Prop) (ta : TA) (σ : L2.St) (H : Hp) (ds : List PyData) : Prop := ∀ H1, Same H H1 → ∀ Q : List V → Hp → Prop, (∀ vs H2, Same H1 H2 → DaAll N H2 vs ds → Q vs H2) → ta σ H1 Q
section
variable {N : Addr → Prop} {σ : L2.St} {H : Hp} {te : TE} {ta : TA} {d : PyData} {ds : List PyData}
theorem ed_non : EvD N (tC .non) σ H .none := fun H1 _ Q q => q _ H1 (Same.refl H1) .non
theorem ed_bl {b : Bool} : EvD N (tC (.bl b)) σ H (.bool b) := fun H1 _ Q q => q _ H1 (Same.refl H1) (.bl b)
theorem ed_int {i : Int} : EvD N (tC (.int i)) σ H (.int i) := fun H1 _ Q q => q _ H1 (Same.refl H1) (.int i)
theorem ed_str {x : Str} : EvD N (tC (.str x)) σ H (.str x) := fun H1 _ Q q => q _ H1 (Same.refl H1) (.str x)
theorem ed_neg {i : Int} : EvD N (tUn (rU fun i => .int (-i)) (tC (.int i))) σ H (.int (-i)) := fun H1 _ Q q => ⟨i, rfl, q _ H1 (Same.refl H1) (.int (-i))⟩
theorem ed_pow {i j z : Int} (hz : i ^ j.toNat = z := by decide +kernel) (h : CPow i j := by exact ⟨by decide, by decide, by decide⟩) : EvD N (tOp (rI CPow fun i j => .int (i ^ j.toNat)) (tC (.int i)) (tC (.int j))) σ H (.int z) := fun H1 _ Q q =>
  ⟨i, j, rfl, rfl, h, by
    show Q (.int (i ^ j.toNat)) H1
    rw [hz]
    exact q _ H1 (Same.refl H1) (.int z)⟩
theorem ed_nil : EvDs N tNil σ H [] := fun H1 _ Q q => q [] H1 (Same.refl H1) .nil
theorem ed_cons (h : EvD N te σ H d) (hr : EvDs N ta σ H ds) : EvDs N (tCons te ta) σ H (d :: ds) := fun H1 s1 Q q =>
  h H1 s1 _ fun v H2 s2 hd => hr H2 (s1.trans s2) _ fun vs H3 s3 hds => q (v :: vs) H3 (s2.trans s3) (.cons (Da.mono (Kp.of s3) _ _ hd) hds)
theorem ed_tup (f : Fr N H) (h : EvDs N ta σ H ds) (hl : ds.length ≤ 1000 := by decide) : EvD N (tTup ta) σ H (.tuple ds) := fun H1 s1 Q q =>
  h H1 s1 _ fun vs H2 s2 hds => ⟨by rw [hds.len]; exact Nat.le_of_lt (small1000 hl), fun p hp => q (.ref p) _ (s2.trans (Same.new hp)) (.tup upd_same (f H2 (s1.trans s2) p hp) (DaAll.mono (Kp.new hp) _ _ hds))⟩
theorem ed_lst (f : Fr N H) (h : EvDs N ta σ H ds) (hl : ds.length ≤ 1000 := by decide) : EvD N (tLst ta) σ H (.list ds) := fun H1 s1 Q q =>
  h H1 s1 _ fun vs H2 s2 hds => ⟨by rw [hds.len]; exact Nat.le_of_lt (small1000 hl), fun p hp => q (.ref p) _ (s2.trans (Same.new hp)) (.lst upd_same (f H2 (s1.trans s2) p hp) (DaAll.mono (Kp.new hp) _ _ hds))⟩
theorem ed_dict0 (f : Fr N H) : EvD N tDNewK σ H (.dict []) := fun H1 s1 Q q p hp => q (.ref p) _ (Same.new hp) (.dct upd_same (f H1 s1 p hp) .nil .nil)
theorem ed_dict1 {x : Str} {i : Int} (f : Fr N H) : EvD N (tDisp [(tC (.str x), tC (.int i))]) σ H (.dict [(.str x, .int i)]) := fun H1 s1 Q q p hp => by
  refine ⟨upd_same, [(.inr x, .int i)], rfl, by show 1 ≤ 15; decide, ?_⟩
  rw [upd_upd]
  refine q (.ref p) _ (Same.new hp) (.dct upd_same (f H1 s1 p hp) ?_ ?_)
  · exact .cons (.str x) .nil
  · exact .cons (.int i) .nil
theorem flat_rep {N : Addr → Prop} {H : Hp} {vs : List V} {ds : List PyData} (h : DaAll N H vs ds) : ∀ n : Nat, DaAll N H (List.replicate n vs).flatten (List.replicate n ds).flatten
  | 0 => .nil
  | n + 1 => by
    rw [List.replicate_succ, List.replicate_succ, List.flatten_cons, List.flatten_cons]
    exact h.append (flat_rep h n)
theorem ed_rep {K : PySem.W.Frag} {n : Int} (f : Fr N H) (h : EvD N te σ H (.tuple ds)) (h2 : 2 ≤ n := by decide) (h9 : n ≤ 1000 := by decide) (hz : ds ≠ [] := by simp) (hl : ds.length ≤ 1000 := by decide) :
    EvD N (tOp (rRepT K) te (tC (.int n))) σ H (.tuple (List.replicate n.toNat ds).flatten) := fun H1 s1 Q q =>
  h H1 s1 _ fun v H2 s2 hd => by
    obtain ⟨a, xs, rfl, e, _, ha⟩ := hd.tupOf
    refine ⟨a, n, xs, rfl, rfl, SqT.of e, fun z => hz ?_, h2, h9, ?_, fun p hp => ?_⟩
    · have := ha.len
      rw [z] at this
      exact List.eq_nil_of_length_eq_zero this.symm
    · rw [ha.len]
      exact hl
    · exact q (.ref p) _ (s2.trans (Same.new hp)) (.tup upd_same (f H2 (s1.trans s2) p hp) (DaAll.mono (Kp.new hp) _ _ (flat_rep ha n.toNat)))
end
/-! ### slices and sums of tuples, whichever object they come to -/
theorem rd_slice {K : PySem.W.Frag} {H : Hp} {Q : VK} {a : Addr} {xs : List V} {lo hi : Option Int} (hx : H a = some (.tup xs)) (q : ∀ p H', Same H H' → H' p = some (.tup (cutV xs lo hi)) → Q (.ref p) H') : rSlA K (.ref a) lo hi H Q := by
  refine ⟨a, xs, rfl, SqT.of hx, fun h => q a H (Same.refl H) ?_, fun _ p hp => q p _ (Same.new hp) upd_same⟩
  rw [hx]
  unfold cutV
  rw [h.1, h.2]
  show some (HO.tup xs) = some (.tup ((xs.drop 0).take (xs.length - 0)))
  rw [List.drop_zero, Nat.sub_zero, List.take_length]
theorem np {σ : L2.St} {H : Hp} {Q : Option Int → Hp → Prop} (h : Q none H) : tNoPart σ H Q := h
theorem rd_cat {K : PySem.W.Frag} {H : Hp} {Q : VK} {a b : Addr} {xs ys : List V} (hx : H a = some (.tup xs)) (hy : H b = some (.tup ys)) (hz : xs.length + ys.length ≤ sizeLine) (q : ∀ p H', Same H H' → H' p = some (.tup (xs ++ ys)) → Q (.ref p) H') : rCatA K (.ref a) (.ref b) H Q := by
  refine ⟨a, b, xs, ys, rfl, rfl, SqT.of hx, SqT.of hy, hz, fun e => q b H (Same.refl H) ?_, fun _ e => q a H (Same.refl H) ?_, fun _ _ p hp => q p _ (Same.new hp) upd_same⟩
  · rw [hy, e]
    rfl
  · rw [hx, e, List.append_nil]
theorem cut_to (xs : List V) (n : Nat) (h : n ≤ xs.length) : cutV xs none (some (n : Int)) = xs.take n := by
  unfold cutV
  rw [HT.sIx_none, HT.sIx_nat, List.drop_zero, Nat.min_eq_left h, Nat.sub_zero]
theorem cut_from (xs : List V) (n : Nat) (h : n ≤ xs.length) : cutV xs (some (n : Int)) none = xs.drop n := by
  unfold cutV
  rw [HT.sIx_none, HT.sIx_nat, Nat.min_eq_left h]
  exact List.take_of_length_le (by rw [List.length_drop]; omega)
theorem cut_one (xs : List V) (n : Nat) (h : n < xs.length) : cutV xs (some (n : Int)) (some ((n : Int) + 1)) = (xs.drop n).take 1 := by
  unfold cutV
  have e : (n : Int) + 1 = ((n + 1 : Nat) : Int) := by omega
  rw [e, HT.sIx_nat, HT.sIx_nat, Nat.min_eq_left (by omega), Nat.min_eq_left (by omega)]
  congr 1
  omega
/-! ### weights, bounds, depths of parts -/
theorem wtAll_append : ∀ xs ys : List PyData, wtAll (xs ++ ys) = wtAll xs + wtAll ys
  | [], ys => by simp [wtAll]
  | x :: xs, ys => by
    rw [List.cons_append]
    simp only [wtAll]
    rw [wtAll_append xs ys]
    omega
theorem withinAll_append {b : Int} : ∀ xs ys : List PyData, withinAll b (xs ++ ys) ↔ withinAll b xs ∧ withinAll b ys
  | [], ys => by simp [withinAll]
  | x :: xs, ys => by
    rw [List.cons_append]
    simp only [withinAll]
    rw [withinAll_append xs ys, and_assoc]
theorem depthAll_append : ∀ xs ys : List PyData, PyData.depthAll (xs ++ ys) = max (PyData.depthAll xs) (PyData.depthAll ys)
  | [], ys => by simp [PyData.depthAll]
  | x :: xs, ys => by
    rw [List.cons_append]
    simp only [PyData.depthAll]
    rw [depthAll_append xs ys]
    omega
mutual
theorem within_up {b c : Int} (h : b ≤ c) : ∀ d : PyData, within b d → within c d
  | .none, _ => by simp only [within]
  | .bool _, _ => by simp only [within]
  | .int i, q => by
    simp only [within] at q ⊢
    omega
  | .str _, _ => by simp only [within]
  | .list ds, q => by
    simp only [within] at q ⊢
    exact withinAll_up h ds q
  | .tuple ds, q => by
    simp only [within] at q ⊢
    exact withinAll_up h ds q
  | .dict ds, q => by
    simp only [within] at q ⊢
    exact withinKv_up h ds q
theorem withinAll_up {b c : Int} (h : b ≤ c) : ∀ ds : List PyData, withinAll b ds → withinAll c ds
  | [], _ => by simp only [withinAll]
  | d :: ds, q => by
    simp only [withinAll] at q ⊢
    exact ⟨within_up h d q.1, withinAll_up h ds q.2⟩
theorem withinKv_up {b c : Int} (h : b ≤ c) : ∀ ds : List (PyData × PyData), withinKv b ds → withinKv c ds
  | [], _ => by simp only [withinKv]
  | (x, y) :: ds, q => by
    simp only [withinKv] at q ⊢
    exact ⟨within_up h x q.1, within_up h y q.2.1, withinKv_up h ds q.2.2⟩
end
theorem split_at {α : Type} (xs : List α) (n : Nat) (x : α) (h : xs[n]? = some x) : xs = xs.take n ++ (x :: xs.drop (n + 1)) := by
  obtain ⟨hn, e⟩ := List.getElem?_eq_some_iff.mp h
  rw [← e, List.getElem_cons_drop, List.take_append_drop]
theorem wtAll_len : ∀ ds : List PyData, 2 * ds.length ≤ wtAll ds
  | [] => by simp [wtAll]
  | d :: ds => by
    have := wtAll_len ds
    simp only [wtAll, List.length_cons]
    omega
theorem wtAll_reverse : ∀ ds : List PyData, wtAll ds.reverse = wtAll ds
  | [] => rfl
  | d :: ds => by
    rw [List.reverse_cons, wtAll_append, wtAll_reverse ds]
    simp only [wtAll]
    omega
theorem withinAll_reverse {b : Int} : ∀ ds : List PyData, withinAll b ds → withinAll b ds.reverse
  | [], h => h
  | d :: ds, h => by
    rw [List.reverse_cons, withinAll_append]
    simp only [withinAll] at h ⊢
    exact ⟨withinAll_reverse ds h.2, h.1, trivial⟩
theorem depthAll_reverse : ∀ ds : List PyData, PyData.depthAll ds.reverse = PyData.depthAll ds
  | [] => rfl
  | d :: ds => by
    rw [List.reverse_cons, depthAll_append, depthAll_reverse ds]
    simp only [PyData.depthAll]
    omega
/-- a statement, then the rest, shown once from what stands between them -/
def tCut (t u : TS) : TS := fun D σ H => ∃ Mid : L2.St → Hp → Prop, t { D with nx := Mid } σ H ∧ ∀ σ' H', Mid σ' H' → u D σ' H'
theorem pss_cut {X : Cx} {st : Stmt} {rest : List Stmt} {t u : TS} (h1 : PS X st t) (h2 : PSs X rest u) : PSs X (st :: rest) (tCut t u) := by
  refine ⟨fun pins s σ H D I h => ?_⟩
  obtain ⟨Mid, hm, hu⟩ := h
  refine wpAny_execs_cons (thn (h1.run pins s σ H { D with nx := Mid } I hm) fun f s1 q => ?_)
  cases f with
  | ret v => exact q
  | brk => exact q
  | cont => exact q
  | next =>
    obtain ⟨σ', H', I', q'⟩ := q
    exact h2.run pins s1 σ' H' D I' (hu σ' H' q')
theorem s_next {D : Ends} {σ : L2.St} {H : Hp} (h : D.nx σ H) : tNext D σ H := h
theorem s_ret {te : TE} {D : Ends} {σ : L2.St} {H : Hp} (h : te σ H D.rt) : tRet te D σ H := h
theorem s_asg {te : TE} {u : TS} {D : Ends} {σ : L2.St} {H : Hp} {i : Nat} (h : te σ H fun x H1 => u D (σ.set i (some x)) H1) : tSeq (tAsg te (gName i)) u D σ H := h
theorem Da.lstOf {N : Addr → Prop} {H : Hp} {v : V} {ds : List PyData} (h : Da N H v (.list ds)) : ∃ a xs, v = .ref a ∧ H a = some (.lst xs) ∧ ¬ N a ∧ DaAll N H xs ds := by
  cases h with
  | lst e n ha => exact ⟨_, _, rfl, e, n, ha⟩
theorem entx_of {P : Program} {w : World} {K : PySem.W.Frag} {mg : Str → Option Value} {base : Heap} {N : List Str} {qual : Str} {scope : Scope} {f : Addr} {cdv : Value} {A : Around} {outer : List Env} {s : Shared} {H : Hp} {E : XK} (en : Ent A s H) :
    EntX (cxOf CX0 P w K mg base N qual scope f cdv A outer s H E).nox := ⟨en.gu, en.sm, en.hm, fun z => absurd (show sysModules ∈ ([] : List Addr) from z) (by simp)⟩
theorem hu150 {A : Around} {k : Nat} (hr : Room k A) : A.units + 150 < cLine := by
  have := hr.un
  omega
theorem def_mk {K : PySem.W.Frag} {mg : Str → Option Value} {h : Heap} {x : Str} {st : Stmt} {ps : List Str} {f : Addr} {od an : Option Addr} {sl : Array (Option Value)} {oc kV dc pm cd ct : Value} (X : K.In h) (G : h.Ns mainGlobals mg)
    (a : PySem.W.nsIn K mainGlobals x = some (some (.ref f))) (l : K.lookup f = some ⟨oc, od, .func (PySem.W.fnOf x x (defArgs st) (defBody st) (defScope st) .none kV dc pm an cd ct), sl⟩) (c : PySem.W.codeIn K cd x = true) (k : PySem.W.keepIn K (.ref f) = true)
    (hb : ∀ (kV doc pm : Value) (an : Option Addr) (cdv ct : Value) (us : List Value), us.length = ps.length → bindArgs (PySem.W.fnOf x x (defArgs st) (defBody st) (defScope st) .none kV doc pm an cdv ct) ⟨us, []⟩ = pure (ps.zip us)) : Def K mg x st ps :=
  ⟨f, _, fun_mk l c k, PySem.W.mg_of X G a, (fun_mk l c k).binds hb⟩
/-- all([e for x in t]), t any expression that gives a tuple -/
theorem read_allE {K : PySem.W.Frag} {N : Addr → Prop} {σ : L2.St} {H : Hp} {Q : VK} {j : Nat} {tl te : TE} {a : Addr} {xs : List V} {ds : List PyData} (p : PyData → Bool)
    (hs : ∀ Q' : VK, Q' (.ref a) H → tl σ H Q') (hx : H a = some (.tup xs)) (hd : DaAll N H xs ds) (hz : ds.length ≤ 1000)
    (ht : ∀ (x : V) (d : PyData) (H' : Hp), Same H H' → Da N H' x d → ∀ Q' : VK, (∀ H2, Same H' H2 → Q' (.bl (p d)) H2) → te ((wipe σ [j]).set j (some x)) H' Q')
    (q : ∀ H', Same H H' → Q (.bl (ds.all p)) H') : tCB (rAll K) (tCons (tLc (iTup K tl) (gName j) tYes te [j]) tNil) σ H Q := by
  refine hs _ ⟨a, rfl, ⟨xs, .inl (.inl hx)⟩, fun D hD => ?_⟩
  have hlen : xs.length = ds.length := hd.len
  refine lc_tup (xs := xs) (fun i H' => Same H H' ∧ H' D = some (.lst ((ds.take i).map fun d => V.bl (p d)))) ⟨Same.new hD, ?_⟩ (fun i H' _ h => .inl (.inl (h.1 _ _ hx))) (fun i x H' hi h => ?_) (fun H' h => ?_)
  · rw [upd_same]
    rfl
  · obtain ⟨d, e1, e2⟩ := (DaAll.mono (Kp.of h.1) _ _ hd).get hi
    refine ⟨wipe1 x, tYes_eq (iteT (ht x d H' h.1 e2 _ fun H2 s2 => ?_))⟩
    refine ⟨_, s2 _ _ h.2, ?_, fun b o e => ?_, ?_⟩
    · rw [List.length_map, List.length_take]
      exact small1000 (by omega)
    · rw [upd_ne (ne_of_none e hD)]
      exact s2 _ _ (h.1 _ _ e)
    · rw [upd_same, List.take_add_one, e1, List.map_append]
      rfl
  · refine ⟨D, ds.map p, rfl, .inl (.inl ?_), ?_⟩
    · rw [h.2, hlen, List.take_length, List.map_map]
      rfl
    · rw [List.all_map]
      exact q H' h.1
/-! rules for within a comprehension: the written part said -/
theorem ix_tupK {X : Cx} {K : PySem.W.Frag} (h : X.K = K := by rfl) : IxR X (rIxT K) := by
  subst h
  exact ix_tup
theorem ix_listK {X : Cx} {K : PySem.W.Frag} (h : X.K = K := by rfl) : IxR X (rIxL K) := by
  subst h
  exact ix_list
def rLenK (K : PySem.W.Frag) : List V → Hp → VK → Prop := fun xs H Q => ∃ p ys, xs = [.ref p] ∧ (SqL K H p ys ∨ SqT K H p ys) ∧ Q (.int ys.length) H
theorem call_len_seqK {X : Cx} {K : PySem.W.Frag} (h : X.K = K := by rfl) : CallR X (.builtin "len") (rLenK K) := by
  subst h
  exact call_len_seq
theorem call_isi_K {X : Cx} {K : PySem.W.Frag} (h : X.K = K := by rfl) : CallR X (.builtin "isinstance") (rIsi K) := by
  subst h
  exact call_isi
def rListK (K : PySem.W.Frag) : List V → Hp → VK → Prop := fun xs H Q => ∃ p ys, xs = [.ref p] ∧ (SqL K H p ys ∨ SqT K H p ys) ∧ ∀ l, H l = none → Q (.ref l) (upd H l (.lst ys))
theorem call_list_ofK {X : Cx} {K : PySem.W.Frag} (h : X.K = K := by rfl) : CallR X (.type "list") (rListK K) := by
  subst h
  exact call_list_of
theorem gint_mk {K : PySem.W.Frag} {mg : Str → Option Value} {h : Heap} {x : Str} {i : Int} {t : Tok} (X : K.In h) (G : h.Ns mainGlobals mg) (a : PySem.W.nsIn K mainGlobals x = some (some (.int i t))) : ∃ t, mg x = some (.int i t) := ⟨t, PySem.W.mg_of X G a⟩
theorem def_cut {C : Prop} {K : PySem.W.Frag} {mg : Str → Option Value} {h : Heap} {x : Str} {st : Stmt} {ps : List Str} {f : Addr} {od an : Option Addr} {sl : Array (Option Value)} {oc kV dc pm cd ct : Value} (X : K.In h) (G : h.Ns mainGlobals mg)
    (a : PySem.W.nsIn K mainGlobals x = some (some (.ref f))) (l : K.lookup f = some ⟨oc, od, .func (PySem.W.fnOf x x (defArgs st) (defBody st) (defScope st) .none kV dc pm an cd ct), sl⟩) (c : PySem.W.codeIn K cd x = true) (k : PySem.W.keepIn K (.ref f) = true)
    (hb : ∀ (kV doc pm : Value) (an : Option Addr) (cdv ct : Value) (us : List Value), us.length = ps.length → bindArgs (PySem.W.fnOf x x (defArgs st) (defBody st) (defScope st) .none kV doc pm an cdv ct) ⟨us, []⟩ = pure (ps.zip us)) (z : Def K mg x st ps → C) : C :=
  z (def_mk X G a l c k hb)
/-- parts of a list of data -/
structure Pt (b : Int) (w e : Nat) (ds : List PyData) : Prop where
  iw : withinAll b ds
  wn : wtAll ds ≤ w
  dp : PyData.depthAll ds ≤ e
theorem Pt.append {b : Int} {w1 w2 e : Nat} {xs ys : List PyData} (h : Pt b w1 e xs) (g : Pt b w2 e ys) : Pt b (w1 + w2) e (xs ++ ys) := by
  refine ⟨(withinAll_append _ _).mpr ⟨h.iw, g.iw⟩, ?_, ?_⟩
  · rw [wtAll_append]
    exact Nat.add_le_add h.wn g.wn
  · rw [depthAll_append]
    exact Nat.max_le.mpr ⟨h.dp, g.dp⟩
theorem Pt.one {b : Int} {w e : Nat} {d : PyData} (h1 : within b d) (h2 : wt d ≤ w) (h3 : d.depth ≤ e) : Pt b (w + 2) e [d] := by
  refine ⟨?_, ?_, ?_⟩
  · simp only [withinAll]
    exact ⟨h1, trivial⟩
  · simp only [wtAll]
    omega
  · simp only [PyData.depthAll]
    omega
theorem Pt.le {b : Int} {w w' e : Nat} {xs : List PyData} (h : Pt b w e xs) (hw : w ≤ w') : Pt b w' e xs := ⟨h.iw, Nat.le_trans h.wn hw, h.dp⟩
theorem Pt.up {b c : Int} {w e : Nat} {xs : List PyData} (h : Pt b w e xs) (hc : b ≤ c) : Pt c w e xs := ⟨withinAll_up hc _ h.iw, h.wn, h.dp⟩
theorem Pt.cut {b : Int} {w e : Nat} {xs : List PyData} (h : Pt b w e xs) (n : Nat) : ∃ w1 w2, Pt b w1 e (xs.take n) ∧ Pt b w2 e (xs.drop n) ∧ w1 + w2 ≤ w := by
  obtain ⟨h1, h2, h3⟩ := h
  have q1 := (withinAll_append (xs.take n) (xs.drop n)).mp (by rw [List.take_append_drop]; exact h1)
  have q2 := wtAll_append (xs.take n) (xs.drop n)
  rw [List.take_append_drop] at q2
  have q3 := depthAll_append (xs.take n) (xs.drop n)
  rw [List.take_append_drop] at q3
  exact ⟨_, _, ⟨q1.1, Nat.le_refl _, by omega⟩, ⟨q1.2, Nat.le_refl _, by omega⟩, by omega⟩
end HX

set_option maxRecDepth 100000
set_option maxHeartbeats 4000000
namespace K01
open PySem PySem.Spec PyProof.Rows L2 HX
def topS (i : Nat) : Stmt := PySem.Challenge.pw_marblefall_k01_boards_known.main.body.getD i (.Pass ⟨0, 0, 0, 0⟩)
abbrev s_is_whole : Stmt := topS 5
theorem sc_is_whole : FnScope ["thing"] ["thing"] (defScope s_is_whole) := ⟨rfl, rfl, rfl, by decide +kernel, rfl, by decide +kernel, by decide +kernel⟩
abbrev s_is_within : Stmt := topS 6
theorem sc_is_within : FnScope ["thing", "least", "most"] ["thing", "least", "most"] (defScope s_is_within) := ⟨rfl, rfl, rfl, by decide +kernel, rfl, by decide +kernel, by decide +kernel⟩
abbrev s_has_parts : Stmt := topS 7
theorem sc_has_parts : FnScope ["thing", "least", "most"] ["thing", "least", "most"] (defScope s_has_parts) := ⟨rfl, rfl, rfl, by decide +kernel, rfl, by decide +kernel, by decide +kernel⟩
abbrev s_is_step : Stmt := topS 8
theorem sc_is_step : FnScope ["thing", "ends", "end"] ["thing", "ends"] (defScope s_is_step) := ⟨rfl, rfl, rfl, by decide +kernel, rfl, by decide +kernel, by decide +kernel⟩
abbrev s_is_wheel : Stmt := topS 9
theorem sc_is_wheel : FnScope ["thing", "ends", "step"] ["thing", "ends"] (defScope s_is_wheel) := ⟨rfl, rfl, rfl, by decide +kernel, rfl, by decide +kernel, by decide +kernel⟩
abbrev s_is_board : Stmt := topS 10
theorem sc_is_board : FnScope ["thing", "wheels", "cups", "ends", "wheel"] ["thing"] (defScope s_is_board) := ⟨rfl, rfl, rfl, by decide +kernel, rfl, by decide +kernel, by decide +kernel⟩
/-! ### the mathematics -/
def wholeB : PyData → Bool
  | .int _ => true
  | _ => false
def withinB (d : PyData) (lo hi : Int) : Bool := match d with
  | .int i => decide (lo ≤ i) && decide (i ≤ hi)
  | _ => false
def partsB (d : PyData) (lo hi : Int) : Bool := match d with
  | .tuple ds => decide (lo ≤ (ds.length : Int)) && decide ((ds.length : Int) ≤ hi)
  | _ => false
def itemsD : PyData → List PyData
  | .tuple ds => ds
  | _ => []
def stepB (d : PyData) (ends : Int) : Bool := partsB d 0 3 && (itemsD d).all fun e => withinB e 0 (ends - 1)
def wheelB (d : PyData) (ends : Int) : Bool := partsB d 1 4 && (itemsD d).all fun e => stepB e ends
def boardB (d : PyData) : Bool := match d with
  | .tuple [w, .int c] => partsB w 1 6 && withinB (.int c) 0 4 && (itemsD w).all fun e => wheelB e (((itemsD w).length : Int) + c)
  | _ => false
theorem kit_int (d : PyData) : kitB (tyN d) "int" = some (wholeB d || (match d with | .bool _ => true | _ => false)) := by
  cases d
  · exact (by decide +kernel : kitB "NoneType" "int" = some false)
  · exact (by decide +kernel : kitB "bool" "int" = some true)
  · exact (by decide +kernel : kitB "int" "int" = some true)
  · exact (by decide +kernel : kitB "str" "int" = some false)
  · exact (by decide +kernel : kitB "list" "int" = some false)
  · exact (by decide +kernel : kitB "tuple" "int" = some false)
  · exact (by decide +kernel : kitB "dict" "int" = some false)

theorem kit_bool (d : PyData) : kitB (tyN d) "bool" = some (match d with | .bool _ => true | _ => false) := by
  cases d
  · exact (by decide +kernel : kitB "NoneType" "bool" = some false)
  · exact (by decide +kernel : kitB "bool" "bool" = some true)
  · exact (by decide +kernel : kitB "int" "bool" = some false)
  · exact (by decide +kernel : kitB "str" "bool" = some false)
  · exact (by decide +kernel : kitB "list" "bool" = some false)
  · exact (by decide +kernel : kitB "tuple" "bool" = some false)
  · exact (by decide +kernel : kitB "dict" "bool" = some false)
theorem kit_tuple (d : PyData) : kitB (tyN d) "tuple" = some (match d with | .tuple _ => true | _ => false) := by
  cases d
  · exact (by decide +kernel : kitB "NoneType" "tuple" = some false)
  · exact (by decide +kernel : kitB "bool" "tuple" = some false)
  · exact (by decide +kernel : kitB "int" "tuple" = some false)
  · exact (by decide +kernel : kitB "str" "tuple" = some false)
  · exact (by decide +kernel : kitB "list" "tuple" = some false)
  · exact (by decide +kernel : kitB "tuple" "tuple" = some true)
  · exact (by decide +kernel : kitB "dict" "tuple" = some false)
section
variable {P : Program} {w : World} {K : PySem.W.Frag} {mg : Str → Option Value} {base : Heap} {k : Nat}
/-! ### is_whole, is_within, has_parts -/
def spWhole : Sp := fun vs H Q _ => ∃ (N : Addr → Prop) (v : V) (d : PyData), vs = [v] ∧ Da N H v d ∧ Q (.bl (wholeB d)) H
theorem ok_is_whole (D : Def K mg "is_whole" s_is_whole ["thing"]) (B : Bi mg) : Cal P w K mg base (k + 1) "is_whole" ["thing"] spWhole := by
  refine D.ok sc_is_whole (fun vs H Q E h => ?_) (fun f cdv A outer s H vs Q E hr h => ?_)
  · obtain ⟨N, v, d, rfl, _⟩ := h
    rfl
  · obtain ⟨N, v, d, rfl, hd, q⟩ := h
    refine ⟨_, (pss_one (ps_ret (pe_and (pe_callB call_isi rfl B.isinstance_ (by decide +kernel) (pa_cons (pv 0) (pa_cons (pe_bltn (v := .ty "int") (u := .type "int") rfl B.int_ (by decide +kernel) rfl) pa_nil))) (pe_one (pe_not (pe_callB call_isi rfl B.isinstance_ (by decide +kernel) (pa_cons (pv 0) (pa_cons (pe_bltn (v := .ty "bool") (u := .type "bool") rfl B.bool_ (by decide +kernel) rfl) pa_nil)))))))), ?_⟩
    refine ⟨v, rfl, v, .ty "int", _, .type "int", _, rfl, .ty "int", hd.ty, kit_ty (kit_int d), _, rfl, ?_⟩
    cases d with
    | int i => exact iteT ⟨v, rfl, v, .ty "bool", _, .type "bool", _, rfl, .ty "bool", hd.ty, kit_ty (kit_bool _), _, rfl, q⟩
    | bool b => exact iteT ⟨v, rfl, v, .ty "bool", _, .type "bool", _, rfl, .ty "bool", hd.ty, kit_ty (kit_bool _), _, rfl, q⟩
    | none => exact iteF q
    | str x => exact iteF q
    | list ds => exact iteF q
    | tuple ds => exact iteF q
    | dict ds => exact iteF q
def spWithin : Sp := fun vs H Q _ => ∃ (N : Addr → Prop) (v : V) (d : PyData) (lo hi : Int), vs = [v, .int lo, .int hi] ∧ Da N H v d ∧ Q (.bl (withinB d lo hi)) H
theorem ok_is_within (D : Def K mg "is_within" s_is_within ["thing", "least", "most"]) (c_is_whole : Cal P w K mg base k "is_whole" ["thing"] spWhole) : Cal P w K mg base (k + 1) "is_within" ["thing", "least", "most"] spWithin := by
  refine D.ok sc_is_within (fun vs H Q E h => ?_) (fun f cdv A outer s H vs Q E hr h => ?_)
  · obtain ⟨N, v, d, lo, hi, rfl, _⟩ := h
    rfl
  · obtain ⟨N, v, d, lo, hi, rfl, hd, q⟩ := h
    refine ⟨_, (pss_one (ps_ret (pe_and (pe_cal c_is_whole hr rfl (pa_cons (pv 0) pa_nil)) (pe_one (pe_chain op_le op_le (pv 1) (pv 0) (pv 2)))))), ?_⟩
    refine ⟨v, rfl, N, v, d, rfl, hd, _, rfl, ?_⟩
    cases d with
    | int i =>
      cases hd
      refine iteT ⟨.int lo, rfl, .int i, rfl, lo, i, rfl, rfl, _, rfl, ?_⟩
      have q' : Q (.bl (decide (lo ≤ i) && decide (i ≤ hi))) H := q
      cases e : decide (lo ≤ i) with
      | true =>
        rw [e] at q'
        exact iteT ⟨.int hi, rfl, i, hi, rfl, rfl, q'⟩
      | false =>
        rw [e] at q'
        exact iteF q'
    | bool b => exact iteF q
    | none => exact iteF q
    | str x => exact iteF q
    | list ds => exact iteF q
    | tuple ds => exact iteF q
    | dict ds => exact iteF q
def spParts : Sp := fun vs H Q _ => ∃ (N : Addr → Prop) (v : V) (d : PyData) (lo hi : Int), vs = [v, .int lo, .int hi] ∧ Da N H v d ∧ Q (.bl (partsB d lo hi)) H
theorem ok_has_parts (D : Def K mg "has_parts" s_has_parts ["thing", "least", "most"]) (B : Bi mg) : Cal P w K mg base (k + 1) "has_parts" ["thing", "least", "most"] spParts := by
  refine D.ok sc_has_parts (fun vs H Q E h => ?_) (fun f cdv A outer s H vs Q E hr h => ?_)
  · obtain ⟨N, v, d, lo, hi, rfl, _⟩ := h
    rfl
  · obtain ⟨N, v, d, lo, hi, rfl, hd, q⟩ := h
    refine ⟨_, (pss_one (ps_ret (pe_and (pe_callB call_isi rfl B.isinstance_ (by decide +kernel) (pa_cons (pv 0) (pa_cons (pe_bltn (v := .ty "tuple") (u := .type "tuple") rfl B.tuple_ (by decide +kernel) rfl) pa_nil))) (pe_one (pe_chain op_le op_le (pv 1) (pe_callB call_len_seq rfl B.len_ (by decide +kernel) (pa_cons (pv 0) pa_nil)) (pv 2)))))), ?_⟩
    refine ⟨v, rfl, v, .ty "tuple", _, .type "tuple", _, rfl, .ty "tuple", hd.ty, kit_ty (kit_tuple d), _, rfl, ?_⟩
    cases d with
    | tuple ds =>
      obtain ⟨a, xs, rfl, e, _, ha⟩ := hd.tupOf
      refine iteT ⟨.int lo, rfl, .ref a, rfl, a, xs, rfl, .inr (SqT.of e), lo, xs.length, rfl, rfl, _, rfl, ?_⟩
      have q' : Q (.bl (decide (lo ≤ (ds.length : Int)) && decide ((ds.length : Int) ≤ hi))) H := q
      rw [← ha.len] at q'
      cases e : decide (lo ≤ (xs.length : Int)) with
      | true =>
        rw [e] at q'
        exact iteT ⟨.int hi, rfl, xs.length, hi, rfl, rfl, q'⟩
      | false =>
        rw [e] at q'
        exact iteF q'
    | bool b => exact iteF q
    | none => exact iteF q
    | str x => exact iteF q
    | list ds => exact iteF q
    | int i => exact iteF q
    | dict ds => exact iteF q
theorem parts_tup {d : PyData} {lo hi : Int} (h : partsB d lo hi = true) : ∃ ds, d = .tuple ds ∧ lo ≤ (ds.length : Int) ∧ (ds.length : Int) ≤ hi := by
  cases d with
  | tuple ds =>
    have h' : (decide (lo ≤ (ds.length : Int)) && decide ((ds.length : Int) ≤ hi)) = true := h
    simp only [Bool.and_eq_true, decide_eq_true_eq] at h'
    exact ⟨ds, rfl, h'.1, h'.2⟩
  | bool b => cases h
  | none => cases h
  | str x => cases h
  | list ds => cases h
  | int i => cases h
  | dict ds => cases h
/-! ### is_step, is_wheel, is_board -/
def spEnds (p : PyData → Int → Bool) : Sp := fun vs H Q _ => ∃ (N : Addr → Prop) (v : V) (d : PyData) (ends : Int), vs = [v, .int ends] ∧ Da N H v d ∧ ∀ H', Same H H' → Q (.bl (p d ends)) H'
theorem ok_is_step {t3 : Tok} (D : Def K mg "is_step" s_is_step ["thing", "ends"]) (B : Bi mg) (g_MOST_ENDS : mg "MOST_ENDS" = some (.int 3 t3)) (c_is_within : Cal P w K mg base k "is_within" ["thing", "least", "most"] spWithin)
    (c_has_parts : Cal P w K mg base k "has_parts" ["thing", "least", "most"] spParts) : Cal P w K mg base (k + 1) "is_step" ["thing", "ends"] (spEnds stepB) := by
  refine D.ok sc_is_step (fun vs H Q E h => ?_) (fun f cdv A outer s H vs Q E hr h => ?_)
  · obtain ⟨N, v, d, ends, rfl, _⟩ := h
    rfl
  · obtain ⟨N, v, d, ends, rfl, hd, q⟩ := h
    refine ⟨_, (pss_one (ps_ret (pe_and (pe_cal c_has_parts hr rfl (pa_cons (pv 0) (pa_cons pe_int (pa_cons (pe_gint rfl g_MOST_ENDS) pa_nil)))) (pe_one (pe_callB (cr_all rfl) rfl B.all_ (by decide +kernel) (pa_cons (pe_lc (own := [("end", 2)]) rfl sc_is_step.nd (pi_tup (pv 0)) (blkOk_by (N := ["thing", "ends", "end"]) (sc := defScope s_is_step) (by decide +kernel)) (fun _ _ _ _ _ => (pg_name (i := 2) sc_is_step.nd rfl (Or.inl rfl))) (fun _ _ _ _ _ => pts_nil) (fun _ _ _ _ _ => (pe_cal c_is_within hr rfl (pa_cons (pv 2) (pa_cons pe_int (pa_cons (pe_op op_sub (pv 1) pe_int) pa_nil)))))) pa_nil)))))), ?_⟩
    refine ⟨v, rfl, N, v, d, 0, 3, rfl, hd, _, rfl, ?_⟩
    cases e : partsB d 0 3 with
    | false =>
      refine iteF ?_
      have q' := q H (Same.refl H)
      unfold stepB at q'
      rw [e] at q'
      exact q'
    | true =>
      obtain ⟨ds, rfl, _, h3⟩ := parts_tup e
      obtain ⟨a, xs, rfl, ea, _, ha⟩ := hd.tupOf
      refine iteT (read_all (N := N) (ds := ds) (fun e => withinB e 0 (ends - 1)) rfl ea ha (by omega) (fun x d H' s' hx Q' q' => ?_) fun H' s' => ?_)
      · exact ⟨x, rfl, .int ends, rfl, ends, 1, rfl, rfl, N, x, d, 0, ends - 1, rfl, hx, q' H' (Same.refl H')⟩
      · have q' := q H' s'
        unfold stepB at q'
        rw [e] at q'
        exact q'
theorem ok_is_wheel {t4 : Tok} (D : Def K mg "is_wheel" s_is_wheel ["thing", "ends"]) (B : Bi mg) (g_MOST_STEPS : mg "MOST_STEPS" = some (.int 4 t4)) (c_is_step : Cal P w K mg base k "is_step" ["thing", "ends"] (spEnds stepB))
    (c_has_parts : Cal P w K mg base k "has_parts" ["thing", "least", "most"] spParts) : Cal P w K mg base (k + 1) "is_wheel" ["thing", "ends"] (spEnds wheelB) := by
  refine D.ok sc_is_wheel (fun vs H Q E h => ?_) (fun f cdv A outer s H vs Q E hr h => ?_)
  · obtain ⟨N, v, d, ends, rfl, _⟩ := h
    rfl
  · obtain ⟨N, v, d, ends, rfl, hd, q⟩ := h
    refine ⟨_, (pss_one (ps_ret (pe_and (pe_cal c_has_parts hr rfl (pa_cons (pv 0) (pa_cons pe_int (pa_cons (pe_gint rfl g_MOST_STEPS) pa_nil)))) (pe_one (pe_callB (cr_all rfl) rfl B.all_ (by decide +kernel) (pa_cons (pe_lc (own := [("step", 2)]) rfl sc_is_wheel.nd (pi_tup (pv 0)) (blkOk_by (N := ["thing", "ends", "step"]) (sc := defScope s_is_wheel) (by decide +kernel)) (fun _ _ _ _ _ => (pg_name (i := 2) sc_is_wheel.nd rfl (Or.inl rfl))) (fun _ _ _ _ _ => pts_nil) (fun _ _ _ _ _ => (pe_cal c_is_step hr rfl (pa_cons (pv 2) (pa_cons (pv 1) pa_nil))))) pa_nil)))))), ?_⟩
    refine ⟨v, rfl, N, v, d, 1, 4, rfl, hd, _, rfl, ?_⟩
    cases e : partsB d 1 4 with
    | false =>
      refine iteF ?_
      have q' := q H (Same.refl H)
      unfold wheelB at q'
      rw [e] at q'
      exact q'
    | true =>
      obtain ⟨ds, rfl, _, h3⟩ := parts_tup e
      obtain ⟨a, xs, rfl, ea, _, ha⟩ := hd.tupOf
      refine iteT (read_all (N := N) (ds := ds) (fun e => stepB e ends) rfl ea ha (by omega) (fun x d H' s' hx Q' q' => ?_) fun H' s' => ?_)
      · exact ⟨x, rfl, .int ends, rfl, N, x, d, ends, rfl, hx, q'⟩
      · have q' := q H' s'
        unfold wheelB at q'
        rw [e] at q'
        exact q'
def spThing (p : PyData → Bool) : Sp := fun vs H Q _ => ∃ (N : Addr → Prop) (v : V) (d : PyData), vs = [v] ∧ Da N H v d ∧ ∀ H', Same H H' → Q (.bl (p d)) H'
theorem boardB_no {d : PyData} (h : partsB d 2 2 = false) : boardB d = false := by
  unfold boardB
  split
  · cases h
  · rfl
theorem boardB_two {w c : PyData} : boardB (.tuple [w, c]) = (partsB w 1 6 && withinB c 0 4 && (itemsD w).all fun e => wheelB e (((itemsD w).length : Int) + (match c with | .int i => i | _ => 0))) := by
  cases c with
  | int i => rfl
  | bool b => simp [boardB, withinB]
  | none => simp [boardB, withinB]
  | str x => simp [boardB, withinB]
  | list ds => simp [boardB, withinB]
  | tuple ds => simp [boardB, withinB]
  | dict ds => simp [boardB, withinB]
theorem within_int {d : PyData} {lo hi : Int} (h : withinB d lo hi = true) : ∃ i, d = .int i ∧ lo ≤ i ∧ i ≤ hi := by
  cases d with
  | int i =>
    have h' : (decide (lo ≤ i) && decide (i ≤ hi)) = true := h
    simp only [Bool.and_eq_true, decide_eq_true_eq] at h'
    exact ⟨i, rfl, h'.1, h'.2⟩
  | bool b => cases h
  | none => cases h
  | str x => cases h
  | list ds => cases h
  | tuple i => cases h
  | dict ds => cases h
theorem ok_is_board {t6 t4 : Tok} (D : Def K mg "is_board" s_is_board ["thing"]) (B : Bi mg) (g_MOST_WHEELS : mg "MOST_WHEELS" = some (.int 6 t6)) (g_MOST_CUPS : mg "MOST_CUPS" = some (.int 4 t4)) (c_is_wheel : Cal P w K mg base k "is_wheel" ["thing", "ends"] (spEnds wheelB))
    (c_is_within : Cal P w K mg base k "is_within" ["thing", "least", "most"] spWithin) (c_has_parts : Cal P w K mg base k "has_parts" ["thing", "least", "most"] spParts) : Cal P w K mg base (k + 1) "is_board" ["thing"] (spThing boardB) := by
  refine D.ok sc_is_board (fun vs H Q E h => ?_) (fun f cdv A outer s H vs Q E hr h => ?_)
  · obtain ⟨N, v, d, rfl, _⟩ := h
    rfl
  · obtain ⟨N, v, d, rfl, hd, q⟩ := h
    refine ⟨_, (pss_cons (ps_if (pt_not (pt_val (pe_cal c_has_parts hr rfl (pa_cons (pv 0) (pa_cons pe_int (pa_cons pe_int pa_nil))))))
  (pss_one (ps_ret pe_bl))
  pss_nil)
  (pss_cons (ps_asg (pv 0) (pg_tup rfl (pgs_cons (pg_name (i := 1) sc_is_board.nd rfl (Or.inl rfl)) (pgs_cons (pg_name (i := 2) sc_is_board.nd rfl (Or.inl rfl)) pgs_nil))))
  (pss_cons (ps_if (PW.pt (pw_or (pt_not (pt_val (pe_cal c_has_parts hr rfl (pa_cons (pv 1) (pa_cons pe_int (pa_cons (pe_gint rfl g_MOST_WHEELS) pa_nil)))))) (pw_or1 (pt_not (pt_val (pe_cal c_is_within hr rfl (pa_cons (pv 2) (pa_cons pe_int (pa_cons (pe_gint rfl g_MOST_CUPS) pa_nil)))))))))
  (pss_one (ps_ret pe_bl))
  pss_nil)
  (pss_cons (ps_set (i := 3) sc_is_board.nd rfl (Or.inr rfl) (pe_op op_add (pe_callB call_len_seq rfl B.len_ (by decide +kernel) (pa_cons (pv 1) pa_nil)) (pv 2)))
  (pss_one (ps_ret (pe_callB (cr_all rfl) rfl B.all_ (by decide +kernel) (pa_cons (pe_lc (own := [("wheel", 4)]) rfl sc_is_board.nd (pi_tup (pv 1)) (blkOk_by (N := ["thing", "wheels", "cups", "ends", "wheel"]) (sc := defScope s_is_board) (by decide +kernel)) (fun _ _ _ _ _ => (pg_name (i := 4) sc_is_board.nd rfl (Or.inl rfl))) (fun _ _ _ _ _ => pts_nil) (fun _ _ _ _ _ => (pe_cal c_is_wheel hr rfl (pa_cons (pv 4) (pa_cons (pv 3) pa_nil))))) pa_nil)))))))), ?_⟩
    refine ⟨v, rfl, N, v, d, 2, 2, rfl, hd, _, rfl, ?_⟩
    cases e : partsB d 2 2 with
    | false =>
      refine iteT ?_
      have q' := q H (Same.refl H)
      rw [boardB_no e] at q'
      exact q'
    | true =>
      refine iteF ?_
      obtain ⟨ds, rfl, h2, h3⟩ := parts_tup e
      obtain ⟨a, xs, rfl, ea, _, ha⟩ := hd.tupOf
      obtain ⟨dw, dc, rfl⟩ : ∃ dw dc, ds = [dw, dc] := by
        match ds, h2, h3 with
        | [x, y], _, _ => exact ⟨x, y, rfl⟩
        | [], h, _ => simp at h
        | [x], h, _ => simp at h
        | x :: y :: z :: r, _, h => simp at h; omega
      cases ha with
      | @cons vw vs1 _ _ hw hr1 =>
      cases hr1 with
      | @cons vc vs2 _ _ hc hr2 =>
      cases hr2
      -- wheels, cups = thing
      refine ⟨.ref a, rfl, a, [vw, vc], rfl, SqT.of ea, rfl, vw, [vc], rfl, vc, [], rfl, rfl, ?_⟩
      -- the test
      refine ⟨vw, rfl, N, vw, dw, 1, 6, rfl, hw, _, rfl, ?_⟩
      rw [boardB_two] at q
      cases e1 : partsB dw 1 6 with
      | false =>
        rw [e1] at q
        exact iteT (iteT (q H (Same.refl H)))
      | true =>
        refine iteF ⟨vc, rfl, N, vc, dc, 0, 4, rfl, hc, _, rfl, ?_⟩
        rw [e1] at q
        cases e2 : withinB dc 0 4 with
        | false =>
          rw [e2] at q
          exact iteT (q H (Same.refl H))
        | true =>
          rw [e2] at q
          refine iteF ?_
          obtain ⟨c, rfl, c0, c4⟩ := within_int e2
          obtain ⟨ws, rfl, w1, w6⟩ := parts_tup e1
          obtain ⟨b, ys, rfl, eb, _, hb⟩ := hw.tupOf
          cases hc
          -- ends = len(wheels) + cups
          refine ⟨.ref b, rfl, b, ys, rfl, .inr (SqT.of eb), .int c, rfl, ys.length, c, rfl, rfl, ?_⟩
          refine read_all (N := N) (ds := ws) (fun e => wheelB e ((ys.length : Int) + c)) rfl eb hb (by omega) (fun x d H' s' hx Q' q' => ?_) fun H' s' => ?_
          · exact ⟨x, rfl, .int ((ys.length : Int) + c), rfl, N, x, d, (ys.length : Int) + c, rfl, hx, q'⟩
          · rw [hb.len]
            exact q H' s'
end
end K01

set_option maxRecDepth 100000
set_option maxHeartbeats 4000000
namespace K01
open PySem PySem.Spec PyProof.Rows L2 HX
abbrev s__law_cell_at : Stmt := topS 12
theorem sc__law_cell_at : FnScope ["_law_script", "_law_k"] ["_law_script", "_law_k"] (defScope s__law_cell_at) := ⟨rfl, rfl, rfl, by decide +kernel, rfl, by decide +kernel, by decide +kernel⟩
abbrev s__law_pen : Stmt := topS 13
theorem sc__law_pen : FnScope ["_law_cell"] ["_law_cell"] (defScope s__law_pen) := ⟨rfl, rfl, rfl, by decide +kernel, rfl, by decide +kernel, by decide +kernel⟩
abbrev s__law_draw : Stmt := topS 14
theorem sc__law_draw : FnScope ["_law_pen_here", "_law_many", "_law_digit", "_law_stir"] ["_law_pen_here", "_law_many"] (defScope s__law_draw) := ⟨rfl, rfl, rfl, by decide +kernel, rfl, by decide +kernel, by decide +kernel⟩
abbrev s__law_whole : Stmt := topS 15
theorem sc__law_whole : FnScope ["_law_thing"] ["_law_thing"] (defScope s__law_whole) := ⟨rfl, rfl, rfl, by decide +kernel, rfl, by decide +kernel, by decide +kernel⟩
abbrev s__law_within : Stmt := topS 16
theorem sc__law_within : FnScope ["_law_thing", "_law_low", "_law_high"] ["_law_thing", "_law_low", "_law_high"] (defScope s__law_within) := ⟨rfl, rfl, rfl, by decide +kernel, rfl, by decide +kernel, by decide +kernel⟩
/-- the pen: what is left of the cell's digits, its rest, how often it was stirred; m draws are left -/
def PenAt (H : Hp) (pn : Addr) (m : Nat) : Prop := ∃ p0 p1 p2 : Int, H pn = some (.lst [.int p0, .int p1, .int p2]) ∧ 0 ≤ p0 ∧ 0 ≤ p1 ∧ p1 < 1000000007 ∧ 0 ≤ p2 ∧ p2 + (m : Int) ≤ 1000000000
theorem PenAt.less {H : Hp} {pn : Addr} {m n : Nat} (h : PenAt H pn m) (hn : n ≤ m) : PenAt H pn n := by
  obtain ⟨p0, p1, p2, e, h0, h1, h2, h3, h4⟩ := h
  exact ⟨p0, p1, p2, e, h0, h1, h2, h3, by omega⟩
section
variable {P : Program} {w : World} {K : PySem.W.Frag} {mg : Str → Option Value} {base : Heap} {k : Nat}
/-! ### the script's cell, the pen -/
def spCell (K : PySem.W.Frag) : Sp := fun vs H Q _ => ∃ (a : Addr) (ns : List Int) (i : Nat), vs = [.ref a, .int i] ∧ SqL K H a (ns.map V.int) ∧ ∀ c, Q (.int c) H
theorem ok_cell_at (D : Def K mg "_law_cell_at" s__law_cell_at ["_law_script", "_law_k"]) (B : Bi mg) : Cal P w K mg base (k + 1) "_law_cell_at" ["_law_script", "_law_k"] (spCell K) := by
  refine D.ok sc__law_cell_at (fun vs H Q E h => ?_) (fun f cdv A outer s H vs Q E hr h => ?_)
  · obtain ⟨a, ns, i, rfl, _⟩ := h
    rfl
  · obtain ⟨a, ns, i, rfl, hS, q⟩ := h
    refine ⟨_, (pss_cons (ps_if (pt_cmpR op_lt (pv 1) (pe_callB call_len_seq rfl B.len_ (by decide +kernel) (pa_cons (pv 0) pa_nil)) (nomark _))
  (pss_one (ps_ret (pe_ix ix_list (pv 0) (pv 1) (fun _ _ => rfl))))
  pss_nil)
  (pss_one (ps_ret pe_int))), ?_⟩
    refine ⟨.int i, rfl, .ref a, rfl, a, ns.map V.int, rfl, .inl hS, i, _, rfl, rfl, _, rfl, ite2 (fun e => ?_) (fun e => ?_)⟩
    · have hl : i < ns.length := by
        have e' := of_decide_eq_true e
        rw [List.length_map] at e'
        omega
      refine ⟨.ref a, rfl, .int i, rfl, a, _, i, .int ns[i], rfl, rfl, hS, atI_nat ?_, q _⟩
      rw [List.getElem?_map, List.getElem?_eq_getElem hl]
      rfl
    · exact q 0
def spPen : Sp := fun vs H Q _ => ∃ c : Int, vs = [.int c] ∧ ∀ pn H', H pn = none → Same H H' → PenAt H' pn 1000000000 → Q (.ref pn) H'
theorem ok_pen (D : Def K mg "_law_pen" s__law_pen ["_law_cell"]) (B : Bi mg) : Cal P w K mg base (k + 1) "_law_pen" ["_law_cell"] spPen := by
  refine D.ok sc__law_pen (fun vs H Q E h => ?_) (fun f cdv A outer s H vs Q E hr h => ?_)
  · obtain ⟨c, rfl, _⟩ := h
    rfl
  · obtain ⟨c, rfl, q⟩ := h
    refine ⟨_, (pss_one (ps_ret (pe_lst (pa_cons (pe_callB (call_max2 rfl) rfl B.max_ (by decide +kernel) (pa_cons pe_int (pa_cons (pe_op op_sub (pv 0) (pe_op op_pow pe_int pe_int)) pa_nil))) (pa_cons (pe_op op_mod (pv 0) pe_int) (pa_cons pe_int pa_nil)))))), ?_⟩
    refine ⟨.int c, rfl, 10, 18, rfl, rfl, ⟨by decide, by decide, by decide⟩, c, _, rfl, rfl, 0, _, rfl, .int c, rfl, c, 1000000007, rfl, rfl, (by show (0 : Int) < 1000000007; decide), (by show 3 ≤ sizeLine; decide), fun p hp => ?_⟩
    refine q p _ hp (Same.new hp) ⟨_, _, 0, upd_same, ?_, ?_, ?_, by decide, by decide⟩
    · split <;> omega
    · exact Int.emod_nonneg _ (by decide)
    · exact Int.emod_lt_of_pos _ (by decide)
/-! ### a draw -/
def spDraw : Sp := fun vs H Q _ => ∃ (pn : Addr) (many : Int) (m : Nat), vs = [.ref pn, .int many] ∧ 0 < many ∧ many ≤ 1000000 ∧ PenAt H pn (m + 1) ∧
  ∀ (r : Int) (H' : Hp), 0 ≤ r → r < many → Kp (· = pn) H H' → PenAt H' pn m → Q (.int r) H'
theorem mulW_small {i j : Int} (hi : i.natAbs < 2 ^ 100) (hj : j.natAbs < 2 ^ 100) : CMulW i j := wide_mul hi hj (by decide) (by decide) (by decide)
theorem divW_small {i j : Int} (h0 : 0 < j) (hj : j ≤ 1000000) : CDivW i j := wide_div (b := 100) h0 (by omega) (by decide) (by decide)
theorem ok_draw (D : Def K mg "_law_draw" s__law_draw ["_law_pen_here", "_law_many"]) (B : Bi mg) : Cal P w K mg base (k + 1) "_law_draw" ["_law_pen_here", "_law_many"] spDraw := by
  refine D.ok sc__law_draw (fun vs H Q E h => ?_) (fun f cdv A outer s H vs Q E hr h => ?_)
  · obtain ⟨pn, many, m, rfl, _⟩ := h
    rfl
  · obtain ⟨pn, many, m, rfl, h0, h1, ⟨p0, p1, p2, e, hp0, hp1, hp1', hp2, hm⟩, q⟩ := h
    refine ⟨_, (pss_cons (ps_if (pt_cmpR op_gt (pe_ix ix_list (pv 0) pe_int (fun _ _ => rfl)) pe_int (nomark _))
  (pss_cons (ps_set (i := 2) sc__law_draw.nd rfl (Or.inl rfl) (pe_op op_mod (pe_ix ix_list (pv 0) pe_int (fun _ _ => rfl)) (pv 1)))
  (pss_cons (ps_asg (pe_op op_fdivW (pe_ix ix_list (pv 0) pe_int (fun _ _ => rfl)) (pv 1)) (pg_sub (pv 0) pe_int set_list))
  (pss_one (ps_ret (pv 2)))))
  pss_nil)
  (pss_cons (ps_asg (pe_op op_add (pe_ix ix_list (pv 0) pe_int (fun _ _ => rfl)) pe_int) (pg_sub (pv 0) pe_int set_list))
  (pss_cons (ps_set (i := 3) sc__law_draw.nd rfl (Or.inl rfl) (pe_op op_mod (pe_op op_mulW (pe_op op_add (pe_ix ix_list (pv 0) pe_int (fun _ _ => rfl)) (pe_op op_mulW pe_int (pe_ix ix_list (pv 0) pe_int (fun _ _ => rfl)))) (pe_op op_add pe_int (pe_op op_mulW pe_int (pe_ix ix_list (pv 0) pe_int (fun _ _ => rfl))))) pe_int))
  (pss_cons (ps_set (i := 3) sc__law_draw.nd rfl (Or.inl rfl) (pe_op op_mod (pe_op op_add (pe_op op_add (pe_op op_mulW (pv 3) (pv 3)) (pe_op op_mulW pe_int (pe_ix ix_list (pv 0) pe_int (fun _ _ => rfl)))) pe_int) pe_int))
  (pss_one (ps_ret (pe_op op_mod (pe_op op_fdivW (pe_op op_mod (pe_op op_mulW (pv 3) pe_int) pe_int) pe_int) (pv 1)))))))), ?_⟩
    refine ⟨.ref pn, rfl, pn, _, 0, _, rfl, rfl, SqL.of e, atI_nat (j := 0) rfl, p0, 0, rfl, rfl, _, rfl, ite2 (fun g => ?_) (fun g => ?_)⟩
    · have g' : 0 < p0 := of_decide_eq_true g
      refine ⟨.ref pn, rfl, pn, _, 0, _, rfl, rfl, SqL.of e, atI_nat (j := 0) rfl, .int many, rfl, p0, many, rfl, rfl, h0, ?_⟩
      refine ⟨.ref pn, rfl, pn, _, 0, _, rfl, rfl, SqL.of e, atI_nat (j := 0) rfl, .int many, rfl, p0, many, rfl, rfl, divW_small h0 h1, .ref pn, rfl, pn, _, 0, 0, rfl, rfl, e, rfl, ?_⟩
      refine ⟨.int (p0 % many), rfl, q _ _ (Int.emod_nonneg _ (by omega)) (Int.emod_lt_of_pos _ h0) (Kp.put rfl) ?_⟩
      exact ⟨_, p1, p2, upd_same, Int.ediv_nonneg hp0 (by omega), hp1, hp1', hp2, by omega⟩
    · refine ⟨.ref pn, rfl, pn, _, 2, _, rfl, rfl, SqL.of e, atI_nat (j := 2) rfl, p2, 1, rfl, rfl, .ref pn, rfl, pn, _, 2, 2, rfl, rfl, e, rfl, ?_⟩
      have e' : upd H pn (.lst ([V.int p0, .int p1, .int p2].set 2 (.int (p2 + 1)))) pn = some (.lst [V.int p0, .int p1, .int (p2 + 1)]) := upd_same
      generalize hH : upd H pn (.lst ([V.int p0, .int p1, .int p2].set 2 (.int (p2 + 1)))) = H1 at e'
      have k1 : Kp (· = pn) H H1 := by
        rw [← hH]
        exact Kp.put rfl
      refine ⟨.ref pn, rfl, pn, _, 1, _, rfl, rfl, SqL.of e', atI_nat (j := 1) rfl, .ref pn, rfl, pn, _, 2, _, rfl, rfl, SqL.of e', atI_nat (j := 2) rfl, 17, p2 + 1, rfl, rfl, mulW_small (by decide) (by omega), p1, _, rfl, rfl,
        .ref pn, rfl, pn, _, 2, _, rfl, rfl, SqL.of e', atI_nat (j := 2) rfl, 2, p2 + 1, rfl, rfl, mulW_small (by decide) (by omega), 69621, _, rfl, rfl, _, _, rfl, rfl, mulW_small (by omega) (by omega), _, 2147483647, rfl, rfl, (by show (0 : Int) < 2147483647; decide), ?_⟩
      show tSeq _ _ _ (List.set _ 3 (some (V.int ((p1 + 17 * (p2 + 1)) * (69621 + 2 * (p2 + 1)) % 2147483647)))) H1
      generalize hz : (p1 + 17 * (p2 + 1)) * (69621 + 2 * (p2 + 1)) % 2147483647 = z
      have z0 : 0 ≤ z := by
        rw [← hz]
        exact Int.emod_nonneg _ (by decide)
      have z1 : z < 2147483647 := by
        rw [← hz]
        exact Int.emod_lt_of_pos _ (by decide)
      have zz : z * z ≤ 2147483647 * 2147483647 := Int.mul_le_mul (by omega) (by omega) z0 (by decide)
      have zz0 : 0 ≤ z * z := Int.mul_nonneg z0 z0
      refine ⟨.int z, rfl, .int z, rfl, z, z, rfl, rfl, mulW_small (by omega) (by omega), .ref pn, rfl, pn, _, 2, _, rfl, rfl, SqL.of e', atI_nat (j := 2) rfl, 40503, p2 + 1, rfl, rfl, mulW_small (by decide) (by omega), _, _, rfl, rfl, _, 5, rfl, rfl, _, 2147483629, rfl, rfl, (by show (0 : Int) < 2147483629; decide), ?_⟩
      show gName 3 (V.int ((z * z + 40503 * (p2 + 1) + 5) % 2147483629)) _ H1 _
      generalize hy : (z * z + 40503 * (p2 + 1) + 5) % 2147483629 = y
      have y0 : 0 ≤ y := by
        rw [← hy]
        exact Int.emod_nonneg _ (by decide)
      have y1 : y < 2147483629 := by
        rw [← hy]
        exact Int.emod_lt_of_pos _ (by decide)
      refine ⟨.int y, rfl, y, 48271, rfl, rfl, mulW_small (by omega) (by decide), _, 2147483647, rfl, rfl, (by show (0 : Int) < 2147483647; decide), _, 32, rfl, rfl, divW_small (by decide) (by decide), .int many, rfl, _, many, rfl, rfl, h0, ?_⟩
      refine q _ _ (Int.emod_nonneg _ (by omega)) (Int.emod_lt_of_pos _ h0) k1 ?_
      exact ⟨p0, p1, p2 + 1, e', hp0, hp1, hp1', by omega, by omega⟩
theorem ok_whole (D : Def K mg "_law_whole" s__law_whole ["_law_thing"]) (B : Bi mg) : Cal P w K mg base (k + 1) "_law_whole" ["_law_thing"] spWhole := by
  refine D.ok sc__law_whole (fun vs H Q E h => ?_) (fun f cdv A outer s H vs Q E hr h => ?_)
  · obtain ⟨N, v, d, rfl, _⟩ := h
    rfl
  · obtain ⟨N, v, d, rfl, hd, q⟩ := h
    refine ⟨_, (pss_one (ps_ret (pe_and (pe_callB call_isi rfl B.isinstance_ (by decide +kernel) (pa_cons (pv 0) (pa_cons (pe_bltn (v := .ty "int") (u := .type "int") rfl B.int_ (by decide +kernel) rfl) pa_nil))) (pe_one (pe_not (pe_callB call_isi rfl B.isinstance_ (by decide +kernel) (pa_cons (pv 0) (pa_cons (pe_bltn (v := .ty "bool") (u := .type "bool") rfl B.bool_ (by decide +kernel) rfl) pa_nil)))))))), ?_⟩
    refine ⟨v, rfl, v, .ty "int", _, .type "int", _, rfl, .ty "int", hd.ty, kit_ty (kit_int d), _, rfl, ?_⟩
    cases d with
    | int i => exact iteT ⟨v, rfl, v, .ty "bool", _, .type "bool", _, rfl, .ty "bool", hd.ty, kit_ty (kit_bool _), _, rfl, q⟩
    | bool b => exact iteT ⟨v, rfl, v, .ty "bool", _, .type "bool", _, rfl, .ty "bool", hd.ty, kit_ty (kit_bool _), _, rfl, q⟩
    | none => exact iteF q
    | str x => exact iteF q
    | list ds => exact iteF q
    | tuple ds => exact iteF q
    | dict ds => exact iteF q
theorem ok_within (D : Def K mg "_law_within" s__law_within ["_law_thing", "_law_low", "_law_high"]) (c__law_whole : Cal P w K mg base k "_law_whole" ["_law_thing"] spWhole) : Cal P w K mg base (k + 1) "_law_within" ["_law_thing", "_law_low", "_law_high"] spWithin := by
  refine D.ok sc__law_within (fun vs H Q E h => ?_) (fun f cdv A outer s H vs Q E hr h => ?_)
  · obtain ⟨N, v, d, lo, hi, rfl, _⟩ := h
    rfl
  · obtain ⟨N, v, d, lo, hi, rfl, hd, q⟩ := h
    refine ⟨_, (pss_one (ps_ret (pe_and (pe_cal c__law_whole hr rfl (pa_cons (pv 0) pa_nil)) (pe_one (pe_chain op_le op_le (pv 1) (pv 0) (pv 2)))))), ?_⟩
    refine ⟨v, rfl, N, v, d, rfl, hd, _, rfl, ?_⟩
    cases d with
    | int i =>
      cases hd
      refine iteT ⟨.int lo, rfl, .int i, rfl, lo, i, rfl, rfl, _, rfl, ?_⟩
      have q' : Q (.bl (decide (lo ≤ i) && decide (i ≤ hi))) H := q
      cases e : decide (lo ≤ i) with
      | true =>
        rw [e] at q'
        exact iteT ⟨.int hi, rfl, i, hi, rfl, rfl, q'⟩
      | false =>
        rw [e] at q'
        exact iteF q'
    | bool b => exact iteF q
    | none => exact iteF q
    | str x => exact iteF q
    | list ds => exact iteF q
    | tuple ds => exact iteF q
    | dict ds => exact iteF q
end
end K01

set_option maxRecDepth 100000
set_option maxHeartbeats 4000000
namespace K01
open PySem PySem.Spec PyProof.Rows L2 HX
abbrev s__law_odd : Stmt := topS 17
theorem sc__law_odd : FnScope ["_law_pen_here", "_law_some"] ["_law_pen_here"] (defScope s__law_odd) := ⟨rfl, rfl, rfl, by decide +kernel, rfl, by decide +kernel, by decide +kernel⟩
abbrev s__law_board : Stmt := topS 18
theorem sc__law_board : FnScope ["_law_pen_here", "_law_most", "_law_many", "_law_cups", "_law_wheels", "_law_wheel", "_law_steps", "_law_turn", "_law_ends", "_law_lap", "_law_far"] ["_law_pen_here", "_law_most"] (defScope s__law_board) := ⟨rfl, rfl, rfl, by decide +kernel, rfl, by decide +kernel, by decide +kernel⟩
theorem PenAt.list {H : Hp} {pn : Addr} {m : Nat} (h : PenAt H pn m) : ∃ xs, H pn = some (.lst xs) := by
  obtain ⟨p0, p1, p2, e, _⟩ := h
  exact ⟨_, e⟩
theorem PenAt.new {H : Hp} {pn p : Addr} {m : Nat} {o : HO} (h : PenAt H pn m) (hp : H p = none) : PenAt (upd H p o) pn m := by
  obtain ⟨p0, p1, p2, e, r⟩ := h
  exact ⟨p0, p1, p2, by rw [upd_ne (ne_of_none e hp)]; exact e, r⟩
theorem PenAt.ne {H : Hp} {pn p : Addr} {m : Nat} (h : PenAt H pn m) (hp : H p = none) : p ≠ pn := by
  obtain ⟨xs, e⟩ := h.list
  exact (ne_of_none e hp).symm
theorem PenAt.put {H : Hp} {pn p : Addr} {m : Nat} {o : HO} (h : PenAt H pn m) (hp : p ≠ pn) : PenAt (upd H p o) pn m := by
  obtain ⟨p0, p1, p2, e, r⟩ := h
  exact ⟨p0, p1, p2, by rw [upd_ne hp.symm]; exact e, r⟩
theorem PenAt.kt {H H' : Hp} {pn : Addr} {m : Nat} (h : PenAt H pn m) (k : Kp (· = pn) H H') : KT H H' := by
  obtain ⟨xs, e⟩ := h.list
  exact KT.kp e k
section
variable {P : Program} {w : World} {K : PySem.W.Frag} {mg : Str → Option Value} {base : Heap} {k : Nat}
/-! ### a board is drawn -/
def spBoard : Sp := fun vs H Q _ => ∃ (pn : Addr) (most : Int) (m : Nat), vs = [.ref pn, .int most] ∧ 1 ≤ most ∧ most ≤ 6 ∧ PenAt H pn (m + 200) ∧
  ∀ (v : V) (ws : List (List (List Int))) (c : Int) (H' : Hp), BoardOk ws c → (ws.length : Int) ≤ most → c ≤ 3 → Td H' v (boardD ws c) → Kp (· = pn) H H' → PenAt H' pn m → Q v H'
theorem ok_board (D : Def K mg "_law_board" s__law_board ["_law_pen_here", "_law_most"]) (B : Bi mg) (c__law_draw : Cal P w K mg base k "_law_draw" ["_law_pen_here", "_law_many"] spDraw) : Cal P w K mg base (k + 1) "_law_board" ["_law_pen_here", "_law_most"] spBoard := by
  refine D.ok sc__law_board (fun vs H Q E h => ?_) (fun f cdv A outer s H vs Q E hr h => ?_)
  · obtain ⟨pn, most, m, rfl, _⟩ := h
    rfl
  · obtain ⟨pn, most, m, rfl, h1, h6, pen, q⟩ := h
    refine ⟨_, (pss_cons (ps_par (i := 2) (j := 3) (by rfl) sc__law_board.nd rfl rfl (by decide) rfl rfl (pa_cons (pe_op op_add pe_int (pe_cal c__law_draw hr rfl (pa_cons (pv 0) (pa_cons (pv 1) pa_nil)))) (pa_cons (pe_cal c__law_draw hr rfl (pa_cons (pv 0) (pa_cons pe_int pa_nil))) pa_nil)) (by rfl))
  (pss_cons (ps_set (i := 4) sc__law_board.nd rfl (Or.inl rfl) (pe_lst pa_nil))
  (pss_cons (ps_for PassesOwn.never rfl (pi_range1 rfl B.range_ (pa_cons (pv 2) pa_nil)) (pg_name (i := 5) sc__law_board.nd rfl (Or.inl rfl))
  (pss_cons (ps_set (i := 6) sc__law_board.nd rfl (Or.inl rfl) (pe_lst pa_nil))
  (pss_cons (ps_for PassesOwn.never rfl (pi_range1 rfl B.range_ (pa_cons (pe_op op_add pe_int (pe_cal c__law_draw hr rfl (pa_cons (pv 0) (pa_cons pe_int pa_nil)))) pa_nil)) (pg_name (i := 7) sc__law_board.nd rfl (Or.inl rfl))
  (pss_cons (ps_set (i := 8) sc__law_board.nd rfl (Or.inl rfl) (pe_lst pa_nil))
  (pss_cons (ps_for PassesOwn.never rfl (pi_range1 rfl B.range_ (pa_cons (pe_ix ix_list (pe_lst (pa_cons pe_int (pa_cons pe_int (pa_cons pe_int (pa_cons pe_int (pa_cons pe_int pa_nil)))))) (pe_cal c__law_draw hr rfl (pa_cons (pv 0) (pa_cons pe_int pa_nil))) (fun _ _ => rfl)) pa_nil)) (pg_name (i := 9) sc__law_board.nd rfl (Or.inl rfl))
  (pss_cons (ps_set (i := 10) sc__law_board.nd rfl (Or.inl rfl) (pe_ifExp (pt_cmpR op_gt (pe_cal c__law_draw hr rfl (pa_cons (pv 0) (pa_cons pe_int pa_nil))) pe_int (nomark _)) (pe_op op_add (pe_op op_add (pv 5) pe_int) (pe_cal c__law_draw hr rfl (pa_cons (pv 0) (pa_cons pe_int pa_nil)))) (pe_cal c__law_draw hr rfl (pa_cons (pv 0) (pa_cons (pe_op op_add (pv 2) (pv 3)) pa_nil)))))
  (pss_one (ps_expr (pe_bm PySem.F.plainAttrs_list PySem.F.slot_list_append PySem.F.type_list_append mt_append (pv 8) (pa_cons (pe_callB (call_min2 rfl) rfl B.min_ (by decide +kernel) (pa_cons (pv 10) (pa_cons (pe_callB (call_max2 rfl) rfl B.max_ (by decide +kernel) (pa_cons pe_int (pa_cons (pe_op op_sub (pe_op op_add (pv 2) (pv 3)) pe_int) pa_nil))) pa_nil))) pa_nil))))))
  (pss_one (ps_expr (pe_bm PySem.F.plainAttrs_list PySem.F.slot_list_append PySem.F.type_list_append mt_append (pv 6) (pa_cons (pe_callTy call_tuple_of rfl B.tuple_ (by decide +kernel) (pa_cons (pv 8) pa_nil)) pa_nil)))))))
  (pss_one (ps_expr (pe_bm PySem.F.plainAttrs_list PySem.F.slot_list_append PySem.F.type_list_append mt_append (pv 4) (pa_cons (pe_callTy call_tuple_of rfl B.tuple_ (by decide +kernel) (pa_cons (pv 6) pa_nil)) pa_nil)))))))
  (pss_one (ps_ret (pe_tup (pa_cons (pe_callTy call_tuple_of rfl B.tuple_ (by decide +kernel) (pa_cons (pv 4) pa_nil)) (pa_cons (pv 3) pa_nil)))))))), ?_⟩
    -- many, cups
    refine ⟨.ref pn, rfl, .int most, rfl, pn, most, m + 199, rfl, by omega, by omega, pen, fun r1 H1 r10 r11 k1 pen1 => ⟨1, r1, rfl, rfl, .ref pn, rfl, pn, 4, m + 198, rfl, by decide, by decide, pen1, fun c H2 c0 c4 k2 pen2 => ⟨_, _, rfl, ?_⟩⟩⟩
    have k02 := k1.trans k2
    -- wheels = []
    refine ⟨by show 0 ≤ sizeLine; decide, fun Lw nw => ?_⟩
    have nwp := pen2.ne nw
    have nw0 : H Lw = none ∨ Lw = pn := by
      cases e : H Lw with
      | none => exact .inl rfl
      | some o =>
        by_cases z : Lw = pn
        · exact .inr z
        · rw [k02 _ _ e z] at nw
          cases nw
    have nwH : H Lw = none := nw0.resolve_right nwp
    -- the wheels
    refine ⟨.int (1 + r1), rfl, 1 + r1, rfl, by omega, by omega, for_range (n := (1 + r1).toNat) (fun i σ H' => ∃ (xs : List V) (ws : List (List (List Int))) (y5 y6 y7 y8 y9 y10 : Option V),
      σ = [some (.ref pn), some (.int most), some (.int (1 + r1)), some (.int c), some (.ref Lw), y5, y6, y7, y8, y9, y10] ∧ Kp (· = pn) H H' ∧ PenAt H' pn (m + 29 * (6 - i)) ∧ H' Lw = some (.lst xs) ∧ TdAll H' xs (ws.map wheelD) ∧ ws.length = i ∧
      ∀ w ∈ ws, WheelOk (1 + r1 + c) w) ?_ (fun i σ H3 hi p => ?_) (fun σ H3 p => ?_)⟩
    · exact ⟨[], [], none, none, none, none, none, none, rfl, k02.mut nwH, (pen2.new nw).less (by omega), upd_same, .nil, rfl, fun w hw => nomatch hw⟩
    · obtain ⟨xs, ws, y5, y6, y7, y8, y9, y10, rfl, k3, pen3, eLw, tws, hlen, hok⟩ := p
      -- steps = []
      refine ⟨by show 0 ≤ sizeLine; decide, fun Ls ns => ?_⟩
      have nsp := pen3.ne ns
      have nsw : Ls ≠ Lw := (ne_of_none eLw ns).symm
      have pen4 := pen3.new (o := .lst []) ns
      have nsH : H Ls = none := by
        cases e : H Ls with
        | none => rfl
        | some o =>
          rw [k3 _ _ e nsp] at ns
          cases ns
      -- how many steps
      refine ⟨.ref pn, rfl, pn, 4, m + 29 * (5 - i) + 28, rfl, by decide, by decide, pen4.less (by omega), fun r2 H5 r20 r21 k5 pen5 => ?_⟩
      have eLs5 : H5 Ls = some (.lst []) := k5 _ _ upd_same nsp
      have eLw5 : H5 Lw = some (.lst xs) := k5 _ _ (by rw [upd_ne nsw.symm]; exact eLw) nwp
      have tws5 : TdAll H5 xs (ws.map wheelD) := TdAll.mono ((KT.new ns).trans (pen4.kt k5)) _ _ tws
      have k05 : Kp (· = pn) H H5 := (k3.mut nsH).trans k5
      refine ⟨1, r2, rfl, rfl, 1 + r2, rfl, by omega, by omega, for_range (n := (1 + r2).toNat) (fun j σ H' => ∃ (zs : List V) (ss : List (List Int)) (y7 y8 y9 y10 : Option V),
        σ = [some (.ref pn), some (.int most), some (.int (1 + r1)), some (.int c), some (.ref Lw), some (.int (0 + (i : Int))), some (.ref Ls), y7, y8, y9, y10] ∧ Kp (· = pn) H H' ∧ PenAt H' pn (m + 29 * (5 - i) + 7 * (4 - j)) ∧ H' Lw = some (.lst xs) ∧ TdAll H' xs (ws.map wheelD) ∧
        H' Ls = some (.lst zs) ∧ TdAll H' zs (ss.map stepD) ∧ ss.length = j ∧ ∀ s ∈ ss, EndsOk (1 + r1 + c) s) ?_ (fun j σ H6 hj p => ?_) (fun σ H6 p => ?_)⟩
      · exact ⟨[], [], y7, y8, y9, y10, rfl, k05, pen5.less (by omega), eLw5, tws5, eLs5, .nil, rfl, fun s hs => nomatch hs⟩
      · obtain ⟨zs, ss, y7, y8, y9, y10, rfl, k6, pen6, eLw6, tws6, eLs6, tss6, slen, sok⟩ := p
        -- ends = []
        refine ⟨by show 0 ≤ sizeLine; decide, fun Le ne => ?_⟩
        have nep := pen6.ne ne
        have newL : Le ≠ Lw := (ne_of_none eLw6 ne).symm
        have nesL : Le ≠ Ls := (ne_of_none eLs6 ne).symm
        have pen7 := pen6.new (o := .lst []) ne
        have neH : H Le = none := by
          cases e : H Le with
          | none => rfl
          | some o =>
            rw [k6 _ _ e nep] at ne
            cases ne
        -- how many ends: the written list, the draw
        refine ⟨by show 5 ≤ sizeLine; decide, fun Lx nx => ?_⟩
        have nxp := pen7.ne nx
        have pen8 := pen7.new (o := .lst [V.int 0, .int 1, .int 1, .int 2, .int 3]) nx
        have nxe : Lx ≠ Le := (ne_of_none upd_same nx).symm
        have nxw : Lx ≠ Lw := fun z => by
          rw [z, upd_ne newL.symm, eLw6] at nx
          cases nx
        have nxs : Lx ≠ Ls := fun z => by
          rw [z, upd_ne nesL.symm, eLs6] at nx
          cases nx
        refine ⟨.ref pn, rfl, pn, 5, m + 29 * (5 - i) + 7 * (3 - j) + 6, rfl, by decide, by decide, pen8.less (by omega), fun r3 H9 r30 r31 k9 pen9 => ?_⟩
        have eLx9 : H9 Lx = some (.lst [V.int 0, .int 1, .int 1, .int 2, .int 3]) := k9 _ _ upd_same nxp
        have eLe9 : H9 Le = some (.lst []) := k9 _ _ (by rw [upd_ne nxe.symm]; exact upd_same) nep
        have eLw9 : H9 Lw = some (.lst xs) := k9 _ _ (by rw [upd_ne nxw.symm, upd_ne newL.symm]; exact eLw6) nwp
        have eLs9 : H9 Ls = some (.lst zs) := k9 _ _ (by rw [upd_ne nxs.symm, upd_ne nesL.symm]; exact eLs6) nsp
        have kt9 : KT H6 H9 := ((KT.new ne).trans (KT.new nx)).trans (pen8.kt k9)
        have nxH : H Lx = none := by
          cases e : H Lx with
          | none => rfl
          | some o =>
            rw [(k6.mut neH) _ _ e nxp] at nx
            cases nx
        have k09 : Kp (· = pn) H H9 := ((k6.mut neH).mut nxH).trans k9
        obtain ⟨cnt, hcnt, c30, c33⟩ : ∃ cnt : Int, atI [V.int 0, .int 1, .int 1, .int 2, .int 3] r3 = some (.int cnt) ∧ 0 ≤ cnt ∧ cnt ≤ 3 := by
          obtain ⟨n, rfl⟩ : ∃ n : Nat, r3 = (n : Int) := ⟨r3.toNat, by omega⟩
          match n, r31 with
          | 0, _ => exact ⟨0, atI_nat (j := 0) rfl, by decide, by decide⟩
          | 1, _ => exact ⟨1, atI_nat (j := 1) rfl, by decide, by decide⟩
          | 2, _ => exact ⟨1, atI_nat (j := 2) rfl, by decide, by decide⟩
          | 3, _ => exact ⟨2, atI_nat (j := 3) rfl, by decide, by decide⟩
          | 4, _ => exact ⟨3, atI_nat (j := 4) rfl, by decide, by decide⟩
          | n + 5, h => exact absurd h (by omega)
        refine ⟨Lx, _, r3, .int cnt, rfl, rfl, SqL.of eLx9, hcnt, cnt, rfl, by omega, by omega, for_range (n := cnt.toNat) (fun l σ H' => ∃ (es : List Int) (y9 y10 : Option V),
          σ = [some (.ref pn), some (.int most), some (.int (1 + r1)), some (.int c), some (.ref Lw), some (.int (0 + (i : Int))), some (.ref Ls), some (.int (0 + (j : Int))), some (.ref Le), y9, y10] ∧ Kp (· = pn) H H' ∧
          PenAt H' pn (m + 29 * (5 - i) + 7 * (3 - j) + 2 * (3 - l)) ∧ H' Lw = some (.lst xs) ∧ TdAll H' xs (ws.map wheelD) ∧ H' Ls = some (.lst zs) ∧ TdAll H' zs (ss.map stepD) ∧ H' Le = some (.lst (es.map V.int)) ∧ es.length = l ∧ ∀ e ∈ es, 0 ≤ e ∧ e < 1 + r1 + c) ?_ (fun l σ H10 hl p => ?_) (fun σ H10 p => ?_)⟩
        · exact ⟨[], y9, y10, rfl, k09, pen9.less (by omega), eLw9, TdAll.mono kt9 _ _ tws6, eLs9, TdAll.mono kt9 _ _ tss6, eLe9, rfl, fun e he => nomatch he⟩
        · obtain ⟨es, y9, y10, rfl, k10, pen10, eLw10, tws10, eLs10, tss10, eLe10, elen, eok⟩ := p
          -- far
          refine ⟨.ref pn, rfl, pn, 4, m + 29 * (5 - i) + 7 * (3 - j) + 2 * (2 - l) + 1, rfl, by decide, by decide, pen10.less (by omega), fun r4 H11 r40 r41 k11 pen11 => ?_⟩
          have fin : ∀ (far : Int) (H12 : Hp), 0 ≤ far → Kp (· = pn) H11 H12 → PenAt H12 pn (m + 29 * (5 - i) + 7 * (3 - j) + 2 * (2 - l)) →
              ∃ (es' : List Int) (y9 y10 : Option V), [some (V.ref pn), some (.int most), some (.int (1 + r1)), some (.int c), some (.ref Lw), some (.int (0 + (i : Int))), some (.ref Ls), some (.int (0 + (j : Int))), some (.ref Le), some (.int (0 + (l : Int))), some (.int far)] =
                [some (.ref pn), some (.int most), some (.int (1 + r1)), some (.int c), some (.ref Lw), some (.int (0 + (i : Int))), some (.ref Ls), some (.int (0 + (j : Int))), some (.ref Le), y9, y10] ∧
                Kp (· = pn) H (upd H12 Le (.lst (es.map V.int ++ [.int (if (if (1 + r1 + c - 1 : Int) > 0 then 1 + r1 + c - 1 else 0) < far then (if (1 + r1 + c - 1 : Int) > 0 then 1 + r1 + c - 1 else 0) else far)]))) ∧
                PenAt (upd H12 Le (.lst (es.map V.int ++ [.int (if (if (1 + r1 + c - 1 : Int) > 0 then 1 + r1 + c - 1 else 0) < far then (if (1 + r1 + c - 1 : Int) > 0 then 1 + r1 + c - 1 else 0) else far)]))) pn (m + 29 * (5 - i) + 7 * (3 - j) + 2 * (3 - (l + 1))) ∧
                upd H12 Le (.lst (es.map V.int ++ [.int (if (if (1 + r1 + c - 1 : Int) > 0 then 1 + r1 + c - 1 else 0) < far then (if (1 + r1 + c - 1 : Int) > 0 then 1 + r1 + c - 1 else 0) else far)])) Lw = some (.lst xs) ∧
                TdAll (upd H12 Le (.lst (es.map V.int ++ [.int (if (if (1 + r1 + c - 1 : Int) > 0 then 1 + r1 + c - 1 else 0) < far then (if (1 + r1 + c - 1 : Int) > 0 then 1 + r1 + c - 1 else 0) else far)]))) xs (ws.map wheelD) ∧
                upd H12 Le (.lst (es.map V.int ++ [.int (if (if (1 + r1 + c - 1 : Int) > 0 then 1 + r1 + c - 1 else 0) < far then (if (1 + r1 + c - 1 : Int) > 0 then 1 + r1 + c - 1 else 0) else far)])) Ls = some (.lst zs) ∧
                TdAll (upd H12 Le (.lst (es.map V.int ++ [.int (if (if (1 + r1 + c - 1 : Int) > 0 then 1 + r1 + c - 1 else 0) < far then (if (1 + r1 + c - 1 : Int) > 0 then 1 + r1 + c - 1 else 0) else far)]))) zs (ss.map stepD) ∧
                upd H12 Le (.lst (es.map V.int ++ [.int (if (if (1 + r1 + c - 1 : Int) > 0 then 1 + r1 + c - 1 else 0) < far then (if (1 + r1 + c - 1 : Int) > 0 then 1 + r1 + c - 1 else 0) else far)])) Le = some (.lst (es'.map V.int)) ∧ es'.length = l + 1 ∧ ∀ e ∈ es', 0 ≤ e ∧ e < 1 + r1 + c := by
            intro far H12 f0 k12 pen12
            generalize hz : (if (if (1 + r1 + c - 1 : Int) > 0 then 1 + r1 + c - 1 else 0) < far then (if (1 + r1 + c - 1 : Int) > 0 then 1 + r1 + c - 1 else 0) else far) = z
            have z0 : 0 ≤ z ∧ z < 1 + r1 + c := by
              rw [← hz]
              split <;> split <;> omega
            have k1112 := k11.trans k12
            have eLe12 := k1112 _ _ eLe10 nep
            have kt12 : KT H10 (upd H12 Le (.lst (es.map V.int ++ [.int z]))) := (pen10.kt k1112).trans (KT.put eLe12)
            refine ⟨es ++ [z], some (.int (0 + (l : Int))), some (.int far), rfl, (k10.trans k1112).mut neH, (pen12.put nep).less (by omega), ?_, TdAll.mono kt12 _ _ tws10, ?_, TdAll.mono kt12 _ _ tss10, ?_, ?_, fun e he => ?_⟩
            · rw [upd_ne newL.symm]
              exact k1112 _ _ eLw10 nwp
            · rw [upd_ne nesL.symm]
              exact k1112 _ _ eLs10 nsp
            · rw [upd_same, List.map_append]
              rfl
            · rw [List.length_append, elen]
              rfl
            · rcases List.mem_append.mp he with he | he
              · exact eok e he
              · rw [List.mem_singleton.mp he]
                exact z0
          have small : (es.map V.int).length < sizeLine := by
            rw [List.length_map]
            exact small1000 (by omega)
          refine ⟨r4, 0, rfl, rfl, _, rfl, ite2 (fun g => ?_) (fun g => ?_)⟩
          · refine ⟨.int (0 + (i : Int)), rfl, _, 1, rfl, rfl, .ref pn, rfl, pn, 3, _, rfl, by decide, by decide, pen11, fun r5 H12 r50 r51 k12 pen12 => ⟨_, r5, rfl, rfl, ?_⟩⟩
            have eLe12 := (k11.trans k12) _ _ eLe10 nep
            refine ⟨.ref Le, rfl, .inl ⟨rfl, _, SqL.of eLe12⟩, _, rfl, .int (1 + r1), rfl, .int c, rfl, _, c, rfl, rfl, _, 1, rfl, rfl, 0, _, rfl, _, _, rfl, Le, _, _, rfl, rfl, eLe12, small, ?_⟩
            exact fin _ H12 (by omega) k12 pen12
          · refine ⟨.ref pn, rfl, .int (1 + r1), rfl, .int c, rfl, _, c, rfl, rfl, pn, _, _, rfl, (by show (0 : Int) < 1 + r1 + c; omega), (by show 1 + r1 + c ≤ (1000000 : Int); omega), pen11, fun r5 H12 r50 r51 k12 pen12 => ?_⟩
            have eLe12 := (k11.trans k12) _ _ eLe10 nep
            refine ⟨.ref Le, rfl, .inl ⟨rfl, _, SqL.of eLe12⟩, _, rfl, .int (1 + r1), rfl, .int c, rfl, _, c, rfl, rfl, _, 1, rfl, rfl, 0, _, rfl, _, _, rfl, Le, _, _, rfl, rfl, eLe12, small, ?_⟩
            exact fin _ H12 r50 k12 pen12
        · -- steps.append(tuple(ends))
          obtain ⟨es, y9, y10, rfl, k10, pen10, eLw10, tws10, eLs10, tss10, eLe10, elen, eok⟩ := p
          have small : zs.length < sizeLine := by
            rw [tss6.len, List.length_map]
            exact small1000 (by omega)
          refine ⟨.ref Ls, rfl, .inl ⟨rfl, _, SqL.of eLs10⟩, .ref Le, rfl, Le, _, rfl, .inl ⟨SqL.of eLe10, fun T nT => ⟨Ls, zs, .ref T, rfl, rfl, ?_, small, ?_⟩⟩⟩
          · rw [upd_ne (ne_of_none eLs10 nT)]
            exact eLs10
          · have nTp := pen10.ne nT
            have nTs : Ls ≠ T := ne_of_none eLs10 nT
            have nTw : Lw ≠ T := ne_of_none eLw10 nT
            have nTH : H T = none := by
              cases e : H T with
              | none => rfl
              | some o =>
                rw [k10 _ _ e nTp] at nT
                cases nT
            have eLsT : (upd H10 T (.tup (es.map V.int))) Ls = some (.lst zs) := by
              rw [upd_ne nTs]
              exact eLs10
            have ktT : KT H10 (upd (upd H10 T (.tup (es.map V.int))) Ls (.lst (zs ++ [.ref T]))) := (KT.new nT).trans (KT.put eLsT)
            refine ⟨zs ++ [.ref T], ss ++ [es], some (.int (0 + (j : Int))), some (.ref Le), y9, y10, rfl, (k10.mut nTH).mut nsH, ((pen10.new nT).put nsp).less (by omega), ?_, TdAll.mono ktT _ _ tws10, upd_same, ?_, ?_, fun s hs => ?_⟩
            · rw [upd_ne nsw.symm, upd_ne nTw]
              exact eLw10
            · rw [List.map_append]
              exact (TdAll.mono ktT _ _ tss10).snoc (Td.mono (KT.put eLsT) _ _ (Td.new nT (TdAll.ints es)))
            · rw [List.length_append, slen]
              rfl
            · rcases List.mem_append.mp hs with hs | hs
              · exact sok s hs
              · rw [List.mem_singleton.mp hs]
                exact ⟨by omega, eok⟩
      · -- wheels.append(tuple(steps))
        obtain ⟨zs, ss, y7, y8, y9, y10, rfl, k6, pen6, eLw6, tws6, eLs6, tss6, slen, sok⟩ := p
        have small : xs.length < sizeLine := by
          rw [tws.len, List.length_map]
          exact small1000 (by omega)
        refine ⟨.ref Lw, rfl, .inl ⟨rfl, _, SqL.of eLw6⟩, .ref Ls, rfl, Ls, _, rfl, .inl ⟨SqL.of eLs6, fun T nT => ⟨Lw, xs, .ref T, rfl, rfl, ?_, small, ?_⟩⟩⟩
        · rw [upd_ne (ne_of_none eLw6 nT)]
          exact eLw6
        · have nTp := pen6.ne nT
          have nTw : Lw ≠ T := ne_of_none eLw6 nT
          have nTH : H T = none := by
            cases e : H T with
            | none => rfl
            | some o =>
              rw [k6 _ _ e nTp] at nT
              cases nT
          have eLwT : (upd H6 T (.tup zs)) Lw = some (.lst xs) := by
            rw [upd_ne nTw]
            exact eLw6
          have ktT : KT H6 (upd (upd H6 T (.tup zs)) Lw (.lst (xs ++ [.ref T]))) := (KT.new nT).trans (KT.put eLwT)
          refine ⟨xs ++ [.ref T], ws ++ [ss], some (.int (0 + (i : Int))), some (.ref Ls), y7, y8, y9, y10, rfl, (k6.mut nTH).mut nwH, ((pen6.new nT).put nwp).less (by omega), upd_same, ?_, ?_, fun w hw => ?_⟩
          · rw [List.map_append]
            exact (TdAll.mono ktT _ _ tws6).snoc (Td.mono (KT.put eLwT) _ _ (Td.new nT tss6))
          · rw [List.length_append, hlen]
            rfl
          · rcases List.mem_append.mp hw with hw | hw
            · exact hok w hw
            · rw [List.mem_singleton.mp hw]
              exact ⟨by omega, by omega, sok⟩
    · -- (tuple(wheels), cups)
      obtain ⟨xs, ws, y5, y6, y7, y8, y9, y10, rfl, k3, pen3, eLw, tws, hlen, hok⟩ := p
      refine ⟨.ref Lw, rfl, Lw, _, rfl, .inl ⟨SqL.of eLw, fun T nT => ⟨.int c, rfl, by show 2 ≤ sizeLine; decide, fun U nU => ?_⟩⟩⟩
      have nTp := pen3.ne nT
      have pen4 := pen3.new (o := .tup xs) nT
      have nUp := pen4.ne nU
      have nTH : H T = none := by
        cases e : H T with
        | none => rfl
        | some o =>
          rw [k3 _ _ e nTp] at nT
          cases nT
      have nUH : H U = none := by
        cases e : H U with
        | none => rfl
        | some o =>
          rw [(k3.mut nTH) _ _ e nUp] at nU
          cases nU
      have el : (ws.length : Int) = 1 + r1 := by omega
      refine q (.ref U) ws c _ ⟨by omega, by omega, c0, by omega, fun w hw => ?_⟩ (by omega) (by omega) ?_ ((k3.mut nTH).mut nUH) ((pen4.new nU).less (by omega))
      · rw [el]
        exact hok w hw
      · exact Td.new nU (.cons (Td.new nT tws) (.cons (.int c) .nil))
end
end K01

set_option maxRecDepth 100000
set_option maxHeartbeats 1000000
namespace K01
open PySem PySem.Spec PyProof.Rows L2 HX
abbrev s__law_bent : Stmt := topS 19
theorem sc__law_bent : FnScope ["_law_pen_here", "_law_thing", "_law_deep", "_law_at", "_law_way", "_law_twice"] ["_law_pen_here", "_law_thing", "_law_deep"] (defScope s__law_bent) := ⟨rfl, rfl, rfl, by decide +kernel, rfl, by decide +kernel, by decide +kernel⟩
def oddL : List PyData := [.none, .bool true, .bool false, .int (-1), .int 1000000000000, .str "", .str "wheel", .str "-", .tuple [], .list [], .dict [], .tuple [.int 0], .list [.int 0], .tuple [.tuple []], .dict [(.str "a", .int 0)], .int 7]
theorem oddL_ok : ∀ d ∈ oddL, within 1000000000000 d ∧ wt d ≤ 150 ∧ d.depth ≤ 2 := by
  intro d hd
  simp only [oddL, List.mem_cons, List.not_mem_nil, or_false] at hd
  rcases hd with h | h | h | h | h | h | h | h | h | h | h | h | h | h | h | h <;> subst h <;>
    (refine ⟨?_, ?_, ?_⟩ <;> first | decide +kernel | (simp only [within, withinAll, withinKv]; done) | (simp only [within, withinAll, withinKv]; omega) | (simp only [within, withinAll, withinKv]; decide))
theorem PenAt.same {H H' : Hp} {pn : Addr} {m : Nat} (h : PenAt H pn m) (s : Same H H') : PenAt H' pn m := by
  obtain ⟨p0, p1, p2, e, r⟩ := h
  exact ⟨p0, p1, p2, s _ _ e, r⟩
theorem PenAt.netup {H : Hp} {pn p : Addr} {m : Nat} {xs : List V} (h : PenAt H pn m) (e : H p = some (.tup xs)) : ¬ (p = pn) := by
  obtain ⟨ys, e'⟩ := h.list
  exact ne_of e e' (fun z => by cases z)
section
variable {P : Program} {w : World} {K : PySem.W.Frag} {mg : Str → Option Value} {base : Heap} {k : Nat}
/-! ### an odd thing -/
def spOdd : Sp := fun vs H Q _ => ∃ (pn : Addr) (m : Nat), vs = [.ref pn] ∧ PenAt H pn (m + 1) ∧ ∀ (v : V) (d : PyData) (H' : Hp), d ∈ oddL → Da (· = pn) H' v d → Kp (· = pn) H H' → PenAt H' pn m → Q v H'
theorem ok_odd (D : Def K mg "_law_odd" s__law_odd ["_law_pen_here"]) (B : Bi mg) (c__law_draw : Cal P w K mg base k "_law_draw" ["_law_pen_here", "_law_many"] spDraw) : Cal P w K mg base (k + 1) "_law_odd" ["_law_pen_here"] spOdd := by
  refine D.ok sc__law_odd (fun vs H Q E h => ?_) (fun f cdv A outer s H vs Q E hr h => ?_)
  · obtain ⟨pn, m, rfl, _⟩ := h
    rfl
  · obtain ⟨pn, m, rfl, pen, q⟩ := h
    refine ⟨_, (pss_cons (ps_set (i := 1) sc__law_odd.nd rfl (Or.inl rfl) (pe_lst (pa_cons pe_non (pa_cons pe_bl (pa_cons pe_bl (pa_cons (pe_un un_neg pe_int) (pa_cons (pe_op op_pow pe_int pe_int) (pa_cons pe_str (pa_cons pe_str (pa_cons pe_str (pa_cons (pe_tup pa_nil) (pa_cons (pe_lst pa_nil) (pa_cons pe_dnewK (pa_cons (pe_tup (pa_cons pe_int pa_nil)) (pa_cons (pe_lst (pa_cons pe_int pa_nil)) (pa_cons (pe_tup (pa_cons (pe_tup pa_nil) pa_nil)) (pa_cons (pe_disp (pps_cons pe_str pe_int pps_nil) (by rfl) (by rfl) (fun z => by cases z) (by decide)) (pa_cons pe_int pa_nil))))))))))))))))))
  (pss_one (ps_ret (pe_ix ix_list (pv 1) (pe_cal c__law_draw hr rfl (pa_cons (pv 0) (pa_cons pe_int pa_nil))) (fun _ _ => rfl))))), ?_⟩
    obtain ⟨ys, ep⟩ := pen.list
    have fr : Fr (· = pn) H := Fr.one ep
    refine s_asg ((ed_lst fr (ed_cons ed_non (ed_cons ed_bl (ed_cons ed_bl (ed_cons ed_neg (ed_cons (ed_pow (i := 10) (j := 12) (z := 1000000000000)) (ed_cons ed_str (ed_cons ed_str (ed_cons ed_str (ed_cons (ed_tup fr ed_nil) (ed_cons (ed_lst fr ed_nil) (ed_cons (ed_dict0 fr) (ed_cons (ed_tup fr (ed_cons ed_int ed_nil)) (ed_cons (ed_lst fr (ed_cons ed_int ed_nil)) (ed_cons (ed_tup fr (ed_cons (ed_tup fr ed_nil) ed_nil)) (ed_cons (ed_dict1 fr) (ed_cons ed_int ed_nil))))))))))))))))) H (Same.refl H) _ (fun v H2 s2 hd => ?_))
    obtain ⟨L, xs, rfl, eL, nL, hx⟩ := (show Da (· = pn) H2 v (.list oddL) from hd).lstOf
    refine ⟨.ref L, rfl, .ref pn, rfl, pn, 16, m, rfl, by decide, by decide, pen.same s2, fun r H3 r0 r1 k3 pen3 => ?_⟩
    obtain ⟨n, rfl⟩ : ∃ n : Nat, r = (n : Int) := ⟨r.toNat, by omega⟩
    have hl : xs.length = 16 := hx.len
    have hn : n < xs.length := by omega
    obtain ⟨d, e1, e2⟩ := hx.get (List.getElem?_eq_getElem hn)
    exact ⟨L, xs, n, xs[n], rfl, rfl, SqL.of (k3 _ _ eL nL), atI_nat (List.getElem?_eq_getElem hn), q _ d _ (List.mem_of_getElem? e1) (Da.mono k3 _ _ e2) ((Kp.of s2).trans k3) pen3⟩
/-! ### a thing with one part otherwise -/
def spBent (n : Nat) : Sp := fun vs H Q _ => ∃ (pn : Addr) (v : V) (d : PyData) (m : Nat) (b : Int) (W e : Nat), vs = [.ref pn, v, .int n] ∧ Da (· = pn) H v d ∧ 1000000000000 ≤ b ∧ within b d ∧ wt d ≤ W ∧ W ≤ 100000 ∧ d.depth ≤ e ∧ n + 3 ≤ e ∧ PenAt H pn (m + 6 * (n + 1)) ∧
  ∀ (v' : V) (d' : PyData) (H' : Hp), Da (· = pn) H' v' d' → within (b + 4) d' → wt d' ≤ 2 * W + 300 → d'.depth ≤ e → Kp (· = pn) H H' → PenAt H' pn m → Q v' H'
theorem ok_bent (n : Nat) {spR : Sp} (hR : ∀ n', n = n' + 1 → ∀ vs H Q E, spBent n' vs H Q E → spR vs H Q E) (D : Def K mg "_law_bent" s__law_bent ["_law_pen_here", "_law_thing", "_law_deep"]) (B : Bi mg)
    (c__law_draw : Cal P w K mg base k "_law_draw" ["_law_pen_here", "_law_many"] spDraw) (c__law_odd : Cal P w K mg base k "_law_odd" ["_law_pen_here"] spOdd) (c__law_whole : Cal P w K mg base k "_law_whole" ["_law_thing"] spWhole)
    (c__law_bent : Cal P w K mg base k "_law_bent" ["_law_pen_here", "_law_thing", "_law_deep"] spR) : Cal P w K mg base (k + 1) "_law_bent" ["_law_pen_here", "_law_thing", "_law_deep"] (spBent n) := by
  refine D.ok sc__law_bent (fun vs H Q E h => ?_) (fun f cdv A outer s H vs Q E hr h => ?_)
  · obtain ⟨pn, v, d, m, b, W, e, rfl, _⟩ := h
    rfl
  · obtain ⟨pn, v, d, m, b, W, e, rfl, hd, hb, hwi, hwt, hW, hdp, hne, pen, q⟩ := h
    refine ⟨_, (pss_cut (ps_if (PW.pt (pw_and (pt_val (pe_cal c__law_whole hr rfl (pa_cons (pv 1) pa_nil))) (pw_and1 (pt_cmpR op_gt (pe_cal c__law_draw hr rfl (pa_cons (pv 0) (pa_cons pe_int pa_nil))) pe_int (nomark _)))))
  (pss_one (ps_ret (pe_ix ix_list (pe_lst (pa_cons (pe_op op_add (pv 1) pe_int) (pa_cons (pe_op op_sub (pv 1) pe_int) (pa_cons pe_int (pa_cons pe_int (pa_cons pe_bl (pa_cons (pe_op op_add (pv 1) pe_int) pa_nil))))))) (pe_cal c__law_draw hr rfl (pa_cons (pv 0) (pa_cons pe_int pa_nil))) (fun _ _ => rfl))))
  pss_nil)
  (pss_cons (ps_if (PW.pt (pw_or (pt_not (pt_val (pe_callB call_isi rfl B.isinstance_ (by decide +kernel) (pa_cons (pv 1) (pa_cons (pe_bltn (v := .ty "tuple") (u := .type "tuple") rfl B.tuple_ (by decide +kernel) rfl) pa_nil))))) (pw_or (pt_cmpR (op_eqE hr.units0) (pv 1) (pe_tup pa_nil) (nomark _)) (pw_or1 (pt_cmpR op_eq (pv 2) pe_int (nomark _))))))
  (pss_one (ps_ret (pe_cal c__law_odd hr rfl (pa_cons (pv 0) pa_nil))))
  pss_nil)
  (pss_cons (ps_par (i := 3) (j := 4) (by rfl) sc__law_bent.nd rfl rfl (by decide) rfl rfl (pa_cons (pe_cal c__law_draw hr rfl (pa_cons (pv 0) (pa_cons (pe_callB call_len_seq rfl B.len_ (by decide +kernel) (pa_cons (pv 1) pa_nil)) pa_nil))) (pa_cons (pe_cal c__law_draw hr rfl (pa_cons (pv 0) (pa_cons pe_int pa_nil))) pa_nil)) (by rfl))
  (pss_cons (ps_if (pt_cmpR op_eq (pv 4) pe_int (nomark _))
  (pss_one (ps_ret (pe_op op_catA (pe_op op_catA (pe_slice sl_tupA (pv 1) po_none (po_some (pv 3))) (pe_tup (pa_cons (pe_cal c__law_odd hr rfl (pa_cons (pv 0) pa_nil)) pa_nil))) (pe_slice sl_tupA (pv 1) (po_some (pv 3)) po_none))))
  pss_nil)
  (pss_cons (ps_if (pt_cmpR op_eq (pv 4) pe_int (nomark _))
  (pss_one (ps_ret (pe_op op_catA (pe_slice sl_tupA (pv 1) po_none (po_some (pv 3))) (pe_slice sl_tupA (pv 1) (po_some (pe_op op_add (pv 3) pe_int)) po_none))))
  pss_nil)
  (pss_cons (ps_if (pt_cmpR op_eq (pv 4) pe_int (nomark _))
  (pss_cons (ps_set (i := 5) sc__law_bent.nd rfl (Or.inl rfl) (pe_op op_catA (pe_op op_catA (pe_slice sl_tupA (pv 1) po_none (po_some (pv 3))) (pe_slice sl_tupA (pv 1) (po_some (pv 3)) (po_some (pe_op op_add (pv 3) pe_int)))) (pe_slice sl_tupA (pv 1) (po_some (pv 3)) po_none)))
  (pss_one (ps_ret (pe_ix ix_list (pe_lst (pa_cons (pe_callTy call_list_of rfl B.list_ (by decide +kernel) (pa_cons (pv 1) pa_nil)) (pa_cons (pe_revT (pv 1)) (pa_cons (pv 5) pa_nil)))) (pe_cal c__law_draw hr rfl (pa_cons (pv 0) (pa_cons pe_int pa_nil))) (fun _ _ => rfl)))))
  pss_nil)
  (pss_one (ps_ret (pe_op op_catA (pe_op op_catA (pe_slice sl_tupA (pv 1) po_none (po_some (pv 3))) (pe_tup (pa_cons (pe_cal c__law_bent hr rfl (pa_cons (pv 0) (pa_cons (pe_ix ix_tup (pv 1) (pv 3) (fun _ _ => rfl)) (pa_cons (pe_op op_sub (pv 2) pe_int) pa_nil)))) pa_nil))) (pe_slice sl_tupA (pv 1) (po_some (pe_op op_add (pv 3) pe_int)) po_none)))))))))), ?_⟩
    have oddgo : ∀ H1 : Hp, Kp (· = pn) H H1 → PenAt H1 pn (m + 1) → spOdd ([V.ref pn] ++ []) H1 Q E0 := fun H1 k1 pen1 =>
      ⟨pn, m, rfl, pen1, fun v' d' H' hm hda k' pen' => by
        obtain ⟨o1, o2, o3⟩ := oddL_ok d' hm
        exact q v' d' H' hda (within_up (by omega) _ o1) (by omega) (by omega) (k1.trans k') pen'⟩
    -- a whole number, otherwise
    refine ⟨fun σ' H' => σ' = [some (.ref pn), some v, some (.int n), none, none, none] ∧ Kp (· = pn) H H' ∧ PenAt H' pn (m + 6 * n + 5), ⟨v, rfl, (· = pn), v, d, rfl, hd, _, rfl, ?_⟩, fun σ' H0 hm => ?_⟩
    · cases ew : wholeB d with
      | false => exact iteF (iteF ⟨rfl, Kp.refl H, pen.less (by omega)⟩)
      | true =>
        obtain ⟨i, rfl⟩ : ∃ i, d = .int i := by
          cases d with
          | int i => exact ⟨i, rfl⟩
          | none => cases ew
          | bool _ => cases ew
          | str _ => cases ew
          | list _ => cases ew
          | tuple _ => cases ew
          | dict _ => cases ew
        obtain rfl := hd.intOf
        have hi : -b ≤ i ∧ i ≤ b := by simpa only [within] using hwi
        have hw130 : 130 ≤ W := by simpa only [wt] using hwt
        refine iteT ⟨.ref pn, rfl, pn, 3, m + 6 * n + 5, rfl, by decide, by decide, pen.less (by omega), fun r1 H1 r10 r11 k1 pen1 => ⟨r1, 0, rfl, rfl, _, rfl, ite2 (fun g => ?_) (fun g => ⟨rfl, k1, pen1⟩)⟩⟩
        refine ⟨.int i, rfl, i, 1, rfl, rfl, .int i, rfl, i, 1, rfl, rfl, .int i, rfl, i, 4, rfl, rfl, by show 6 ≤ sizeLine; decide, fun L nL => ?_⟩
        refine ⟨.ref pn, rfl, pn, 6, m, rfl, by decide, by decide, (pen1.new nL).less (by omega), fun r2 H2 r20 r21 k2 pen2 => ?_⟩
        have eL : H2 L = some (.lst [V.int (i + 1), .int (i - 1), .int 0, .int 9, .bl true, .int (i + 4)]) := k2 _ _ upd_same (pen1.ne nL)
        have kk : Kp (· = pn) H H2 := (k1.trans (Kp.new nL)).trans k2
        have num : ∀ j : Int, -(b + 4) ≤ j → j ≤ b + 4 → Q (.int j) H2 := fun j j0 j1 => q _ (.int j) H2 (.int j) (by simp only [within]; omega) (by simp only [wt]; omega) (by simp only [PyData.depth]; omega) kk pen2
        obtain ⟨t, rfl⟩ : ∃ t : Nat, r2 = (t : Int) := ⟨r2.toNat, by omega⟩
        match t, r21 with
        | 0, _ => exact ⟨L, _, 0, _, rfl, rfl, SqL.of eL, atI_nat (j := 0) rfl, num _ (by omega) (by omega)⟩
        | 1, _ => exact ⟨L, _, 1, _, rfl, rfl, SqL.of eL, atI_nat (j := 1) rfl, num _ (by omega) (by omega)⟩
        | 2, _ => exact ⟨L, _, 2, _, rfl, rfl, SqL.of eL, atI_nat (j := 2) rfl, num _ (by omega) (by omega)⟩
        | 3, _ => exact ⟨L, _, 3, _, rfl, rfl, SqL.of eL, atI_nat (j := 3) rfl, num _ (by omega) (by omega)⟩
        | 4, _ => exact ⟨L, _, 4, _, rfl, rfl, SqL.of eL, atI_nat (j := 4) rfl, q _ (.bool true) H2 (.bl true) (by simp only [within]) (by simp only [wt]; omega) (by simp only [PyData.depth]; omega) kk pen2⟩
        | 5, _ => exact ⟨L, _, 5, _, rfl, rfl, SqL.of eL, atI_nat (j := 5) rfl, num _ (by omega) (by omega)⟩
        | t + 6, h => exact absurd h (by omega)
    · obtain ⟨rfl, k0, pen0⟩ := hm
      have hd0 : Da (· = pn) H0 v d := Da.mono k0 _ _ hd
      -- no tuple, an empty one, deep enough
      refine ⟨v, rfl, v, .ty "tuple", _, .type "tuple", _, rfl, .ty "tuple", hd0.ty, kit_ty (kit_tuple d), _, rfl, ?_⟩
      by_cases ht : ∃ ds, d = .tuple ds
      · obtain ⟨ds, rfl⟩ := ht
        obtain ⟨a, xs, rfl, ea, na, hx⟩ := hd0.tupOf
        refine iteF ⟨.ref a, rfl, by show 0 ≤ sizeLine; decide, fun p0 np0 => ⟨a, p0, xs, rfl, rfl, SqT.of (by rw [upd_ne (ne_of_none ea np0)]; exact ea), SqT.of upd_same, _, rfl, ?_⟩⟩
        have k0' : Kp (· = pn) H (upd H0 p0 (.tup [])) := k0.trans (Kp.new np0)
        have pen0' := pen0.new (o := .tup []) np0
        have ea' : (upd H0 p0 (.tup [])) a = some (.tup xs) := by
          rw [upd_ne (ne_of_none ea np0)]
          exact ea
        have hx' : DaAll (· = pn) (upd H0 p0 (.tup [])) xs ds := DaAll.mono (Kp.new np0) _ _ hx
        generalize upd H0 p0 (.tup []) = H1 at k0' pen0' ea' hx' ⊢
        cases eE : xs.isEmpty with
        | true => exact iteT (iteT ⟨.ref pn, rfl, oddgo H1 k0' (pen0'.less (by omega))⟩)
        | false =>
          refine iteF ⟨.int n, rfl, rfl, _, rfl, ?_⟩
          by_cases hn0 : n = 0
          · have e1 : decide (V.int (n : Int) = V.int 0) = true := decide_eq_true (by rw [hn0]; rfl)
            rw [e1]
            exact iteT ⟨.ref pn, rfl, oddgo H1 k0' (pen0'.less (by omega))⟩
          · have e1 : decide (V.int (n : Int) = V.int 0) = false := decide_eq_false fun z => by
              have := V.int.inj z
              omega
            rw [e1]
            refine iteF ?_
            obtain ⟨n', rfl⟩ : ∃ n', n = n' + 1 := ⟨n - 1, by omega⟩
            have hxl : 0 < xs.length := by
              cases xs with
              | nil => cases eE
              | cons _ _ => exact Nat.succ_pos _
            have hlen := hx'.len
            have hWt : 3 + wtAll ds ≤ W := by simpa only [wt] using hwt
            have hwA : withinAll b ds := by simpa only [within] using hwi
            have hdA : PyData.depthAll ds + 1 ≤ e := by simpa only [PyData.depth] using hdp
            have hl2 := wtAll_len ds
            have pt : Pt b (wtAll ds) (e - 1) ds := ⟨hwA, Nat.le_refl _, by omega⟩
            have szz : ∀ x : Nat, x ≤ 400000 → x ≤ sizeLine := fun x hx => Nat.le_trans hx (by decide)
            -- at, way
            refine ⟨.ref pn, rfl, .ref a, rfl, a, xs, rfl, .inr (SqT.of ea'), pn, _, m + 6 * n' + 10, rfl, by omega, by omega, pen0'.less (by omega), fun r1 H2 r10 r11 k2 pen2 => ⟨.ref pn, rfl, pn, 9, m + 6 * n' + 9, rfl, by decide, by decide, pen2, fun way H3 _ _ k3 pen3 => ⟨_, _, rfl, ?_⟩⟩⟩
            obtain ⟨t, rfl⟩ : ∃ t : Nat, r1 = (t : Int) := ⟨r1.toNat, by omega⟩
            have htl : t < xs.length := by omega
            have ea3 : H3 a = some (.tup xs) := (k2.trans k3) _ _ ea' na
            have k03 : Kp (· = pn) H H3 := (k0'.trans k2).trans k3
            have hx3 : DaAll (· = pn) H3 xs ds := DaAll.mono (k2.trans k3) _ _ hx'
            obtain ⟨w1, w2, pt1, pt2, hw12⟩ := pt.cut t
            -- the end of all ways that make a tuple
            have fin : ∀ (p : Addr) (H' : Hp) (ys : List V) (es : List PyData) (w' : Nat), H' p = some (.tup ys) → DaAll (· = pn) H' ys es → Pt (b + 4) w' (e - 1) es → w' ≤ 2 * W + 297 → Kp (· = pn) H H' → PenAt H' pn m → Q (.ref p) H' := by
              intro p H' ys es w' ep hys hpt hw' kk pp
              refine q _ (.tuple es) H' (.tup ep (pp.netup ep) hys) (by simp only [within]; exact hpt.iw) ?_ ?_ kk pp
              · simp only [wt]
                have := hpt.wn
                omega
              · simp only [PyData.depth]
                have := hpt.dp
                omega
            -- way 0
            refine ⟨.int way, rfl, rfl, _, rfl, ite2 (fun _ => ?_) (fun _ => ?_)⟩
            · refine ⟨.ref a, rfl, .int t, rfl, t, rfl, rd_slice ea3 fun p1 H4 s4 e4 => ?_⟩
              rw [cut_to _ _ (by omega)] at e4
              refine ⟨.ref pn, rfl, pn, m, rfl, (pen3.same s4).less (by omega), fun v' d' H5 hm5 da5 k5 pen5 => ⟨by show 1 ≤ sizeLine; decide, fun p2 n2 => ?_⟩⟩
              have e45 : H5 p1 = some (.tup (xs.take t)) := k5 _ _ e4 ((pen3.same s4).netup e4)
              refine rd_cat (by rw [upd_ne (ne_of_none e45 n2)]; exact e45) upd_same (szz _ (by rw [List.length_take]; show min t xs.length + 1 ≤ 400000; omega)) fun p3 H6 s6 e6 => ?_
              have k46 : Kp (· = pn) H3 H6 := (((Kp.of s4).trans k5).trans (Kp.new n2)).trans (Kp.of s6)
              have pen6 : PenAt H6 pn m := (pen5.new n2).same s6
              refine ⟨.ref a, rfl, .int t, rfl, t, rfl, np (rd_slice (k46 _ _ ea3 na) fun p4 H7 s7 e7 => ?_)⟩
              rw [cut_from _ _ (by omega)] at e7
              refine rd_cat (s7 _ _ e6) e7 (szz _ (by rw [List.length_append, List.length_take, List.length_drop]; show min t xs.length + 1 + (xs.length - t) ≤ 400000; omega)) fun p5 H8 s8 e8 => ?_
              have k38 : Kp (· = pn) H3 H8 := (k46.trans (Kp.of s7)).trans (Kp.of s8)
              obtain ⟨o1, o2, o3⟩ := oddL_ok d' hm5
              have da8 : Da (· = pn) H8 v' d' := Da.mono (((Kp.new n2).trans (Kp.of s6)).trans ((Kp.of s7).trans (Kp.of s8))) _ _ da5
              have hx8 := DaAll.mono k38 _ _ hx3
              refine fin p5 H8 _ _ _ e8 (((hx8.take t).append (.cons da8 .nil)).append (hx8.drop t)) (((pt1.up (by omega)).append (Pt.one (w := 150) (within_up (by omega) _ o1) o2 (by omega))).append (pt2.up (by omega))) (by omega) (k03.trans k38) ((pen6.same s7).same s8)
            · -- way 1
              refine ⟨.int way, rfl, rfl, _, rfl, ite2 (fun _ => ?_) (fun _ => ?_)⟩
              · refine ⟨.ref a, rfl, .int t, rfl, t, rfl, rd_slice ea3 fun p1 H4 s4 e4 => ?_⟩
                rw [cut_to _ _ (by omega)] at e4
                refine ⟨.ref a, rfl, .int t, rfl, t, 1, rfl, rfl, _, rfl, np (rd_slice (s4 _ _ ea3) fun p2 H5 s5 e5 => ?_)⟩
                rw [show ((t : Int) + 1) = ((t + 1 : Nat) : Int) by omega, cut_from _ _ (by omega)] at e5
                refine rd_cat (s5 _ _ e4) e5 (szz _ (by rw [List.length_take, List.length_drop]; omega)) fun p3 H6 s6 e6 => ?_
                have s36 := (s4.trans s5).trans s6
                have hx6 := DaAll.mono (N := (· = pn)) (Kp.of s36) _ _ hx3
                obtain ⟨u1, u2, pu1, pu2, hu⟩ := pt.cut (t + 1)
                refine fin p3 H6 _ _ _ e6 ((hx6.take t).append (hx6.drop (t + 1))) ((pt1.up (by omega)).append (pu2.up (by omega))) (by omega) (k03.trans (Kp.of s36)) ((pen3.same s36).less (by omega))
              · -- way 2
                refine ⟨.int way, rfl, rfl, _, rfl, ite2 (fun _ => ?_) (fun _ => ?_)⟩
                · refine ⟨.ref a, rfl, .int t, rfl, t, rfl, rd_slice ea3 fun p1 H4 s4 e4 => ?_⟩
                  rw [cut_to _ _ (by omega)] at e4
                  refine ⟨.ref a, rfl, .int t, rfl, t, rfl, .int t, rfl, t, 1, rfl, rfl, _, rfl, rd_slice (s4 _ _ ea3) fun p2 H5 s5 e5 => ?_⟩
                  rw [cut_one _ _ htl] at e5
                  refine rd_cat (s5 _ _ e4) e5 (szz _ (by rw [List.length_take, List.length_take, List.length_drop]; omega)) fun p3 H6 s6 e6 => ?_
                  refine ⟨.ref a, rfl, .int t, rfl, t, rfl, np (rd_slice (((s4.trans s5).trans s6) _ _ ea3) fun p4 H7 s7 e7 => ?_)⟩
                  rw [cut_from _ _ (by omega)] at e7
                  refine rd_cat (s7 _ _ e6) e7 (szz _ (by rw [List.length_append, List.length_take, List.length_take, List.length_drop]; omega)) fun p5 H8 s8 e8 => ?_
                  have s38 := ((s4.trans s5).trans s6).trans (s7.trans s8)
                  have ea8 := s38 _ _ ea3
                  -- [list(thing), thing[::-1], twice]
                  refine ⟨.ref a, rfl, a, xs, rfl, .inr (SqT.of ea8), fun l nl => ⟨.ref a, rfl, a, xs, rfl, SqT.of (by rw [upd_ne (ne_of_none ea8 nl)]; exact ea8), fun r nr => ⟨.ref p5, rfl, by show 3 ≤ sizeLine; decide, fun L nL => ?_⟩⟩⟩
                  have pen8 : PenAt H8 pn m := (pen3.same s38).less (by omega)
                  have penA := pen8.new (o := .lst xs) nl
                  have penB := penA.new (o := .tup xs.reverse) nr
                  have pen9 : PenAt H8 pn (m + 1) := (pen3.same s38).less (by omega)
                  refine ⟨.ref pn, rfl, pn, 3, m, rfl, by decide, by decide, ((pen9.new nl).new nr).new nL, fun r2 H9 r20 r21 k9 pen9' => ?_⟩
                  have nLp := penB.ne nL
                  have eL : H9 L = some (.lst [V.ref l, .ref r, .ref p5]) := k9 _ _ upd_same nLp
                  have kall : Kp (· = pn) H8 H9 := ((Kp.new nl).trans (Kp.new nr)).trans ((Kp.new nL).trans k9)
                  have hlr : l ≠ r := fun z => by
                    rw [← z, upd_same] at nr
                    cases nr
                  have hlL : l ≠ L := fun z => by
                    rw [← z, upd_ne hlr, upd_same] at nL
                    cases nL
                  have el : H9 l = some (.lst xs) := k9 _ _ (by rw [upd_ne hlL, upd_ne hlr]; exact upd_same) (pen8.ne nl)
                  have er : H9 r = some (.tup xs.reverse) := k9 _ _ (by rw [upd_ne (fun z => by rw [z, upd_same] at nL; cases nL)]; exact upd_same) (penA.ne nr)
                  have hx9 := DaAll.mono ((Kp.of s38).trans kall) _ _ hx3
                  have k09 := k03.trans ((Kp.of s38).trans kall)
                  obtain ⟨u, rfl⟩ : ∃ u : Nat, r2 = (u : Int) := ⟨r2.toNat, by omega⟩
                  match u, r21 with
                  | 0, _ =>
                    refine ⟨L, _, 0, _, rfl, rfl, SqL.of eL, atI_nat (j := 0) rfl, q _ (.list ds) H9 (.lst el (pen8.ne nl) hx9) ?_ ?_ ?_ k09 pen9'⟩
                    · simp only [within]
                      exact withinAll_up (by omega) _ hwA
                    · simp only [wt]
                      omega
                    · simp only [PyData.depth]
                      omega
                  | 1, _ =>
                    refine ⟨L, _, 1, _, rfl, rfl, SqL.of eL, atI_nat (j := 1) rfl, fin r H9 _ _ (wtAll ds) er hx9.reverse ⟨withinAll_reverse _ (withinAll_up (by omega) _ hwA), by rw [wtAll_reverse]; exact Nat.le_refl _, by rw [depthAll_reverse]; omega⟩ (by omega) k09 pen9'⟩
                  | 2, _ =>
                    have e59 := kall _ _ e8 (pen8.netup e8)
                    obtain ⟨v1, v2, pv1, pv2, hv⟩ := pt2.cut 1
                    exact ⟨L, _, 2, _, rfl, rfl, SqL.of eL, atI_nat (j := 2) rfl, fin p5 H9 _ _ _ e59 (((hx9.take t).append ((hx9.drop t).take 1)).append (hx9.drop t)) (((pt1.up (by omega)).append (pv1.up (by omega))).append (pt2.up (by omega))) (by omega) k09 pen9'⟩
                  | u + 3, h => exact absurd h (by omega)
                · -- one part otherwise
                  refine ⟨.ref a, rfl, .int t, rfl, t, rfl, rd_slice ea3 fun p1 H4 s4 e4 => ?_⟩
                  rw [cut_to _ _ (by omega)] at e4
                  have ea4 := s4 _ _ ea3
                  have hx4 := DaAll.mono (N := (· = pn)) (Kp.of s4) _ _ hx3
                  obtain ⟨dx, edx, hdx⟩ := hx4.get (List.getElem?_eq_getElem htl)
                  have hsp := split_at ds t dx edx
                  have hw' : wtAll ds = wtAll (ds.take t) + (wt dx + 2 + wtAll (ds.drop (t + 1))) := by
                    conv => lhs; rw [hsp]
                    rw [wtAll_append]
                    simp only [wtAll]
                  have hi' : within b dx := by
                    have z := hwA
                    rw [hsp, withinAll_append] at z
                    simp only [withinAll] at z
                    exact z.2.1
                  have hp' : dx.depth ≤ e - 1 := by
                    have z := hdA
                    rw [hsp, depthAll_append] at z
                    simp only [PyData.depthAll] at z
                    omega
                  refine ⟨.ref pn, rfl, .ref a, rfl, .int t, rfl, a, xs, t, _, rfl, rfl, SqT.of ea4, atI_nat (List.getElem?_eq_getElem htl), .int ((n' + 1 : Nat) : Int), rfl, _, 1, rfl, rfl, ?_⟩
                  refine hR n' rfl _ _ _ _ ⟨pn, _, dx, m, b, wt dx, e - 1, ?_, hdx, hb, hi', Nat.le_refl _, by omega, hp', by omega, (pen3.same s4).less (by omega), fun v' d' H5 da5 w5 wt5 dp5 k5 pen5 => ⟨by show 1 ≤ sizeLine; decide, fun p2 n2 => ?_⟩⟩
                  · show [V.ref pn, xs[t], V.int (((n' + 1 : Nat) : Int) - 1)] ++ [] = _
                    rw [List.append_nil, show (((n' + 1 : Nat) : Int) - 1) = (n' : Int) by omega]
                  have e45 : H5 p1 = some (.tup (xs.take t)) := k5 _ _ e4 ((pen3.same s4).netup e4)
                  refine rd_cat (by rw [upd_ne (ne_of_none e45 n2)]; exact e45) upd_same (szz _ (by rw [List.length_take]; show min t xs.length + 1 ≤ 400000; omega)) fun p3 H6 s6 e6 => ?_
                  have k46 : Kp (· = pn) H3 H6 := (((Kp.of s4).trans k5).trans (Kp.new n2)).trans (Kp.of s6)
                  have pen6 : PenAt H6 pn m := (pen5.new n2).same s6
                  refine ⟨.ref a, rfl, .int t, rfl, t, 1, rfl, rfl, _, rfl, np (rd_slice (k46 _ _ ea3 na) fun p4 H7 s7 e7 => ?_)⟩
                  rw [show ((t : Int) + 1) = ((t + 1 : Nat) : Int) by omega, cut_from _ _ (by omega)] at e7
                  refine rd_cat (s7 _ _ e6) e7 (szz _ (by rw [List.length_append, List.length_take, List.length_drop]; show min t xs.length + 1 + (xs.length - (t + 1)) ≤ 400000; omega)) fun p5 H8 s8 e8 => ?_
                  have k38 : Kp (· = pn) H3 H8 := (k46.trans (Kp.of s7)).trans (Kp.of s8)
                  have da8 : Da (· = pn) H8 v' d' := Da.mono (((Kp.new n2).trans (Kp.of s6)).trans ((Kp.of s7).trans (Kp.of s8))) _ _ da5
                  have hx8 := DaAll.mono k38 _ _ hx3
                  have pr : Pt b (wtAll (ds.drop (t + 1))) (e - 1) (ds.drop (t + 1)) := by
                    obtain ⟨u1, u2, pu1, pu2, hu⟩ := pt.cut (t + 1)
                    exact ⟨pu2.iw, Nat.le_refl _, pu2.dp⟩
                  have pl : Pt b (wtAll (ds.take t)) (e - 1) (ds.take t) := ⟨pt1.iw, Nat.le_refl _, pt1.dp⟩
                  exact fin p5 H8 _ _ _ e8 (((hx8.take t).append (.cons da8 .nil)).append (hx8.drop (t + 1))) (((pl.up (by omega)).append (Pt.one w5 wt5 dp5)).append (pr.up (by omega))) (by omega) (k03.trans k38) ((pen6.same s7).same s8)
      · cases d with
        | tuple ds => exact absurd ⟨ds, rfl⟩ ht
        | none => exact iteT (iteT ⟨.ref pn, rfl, oddgo H0 k0 (pen0.less (by omega))⟩)
        | bool _ => exact iteT (iteT ⟨.ref pn, rfl, oddgo H0 k0 (pen0.less (by omega))⟩)
        | int _ => exact iteT (iteT ⟨.ref pn, rfl, oddgo H0 k0 (pen0.less (by omega))⟩)
        | str _ => exact iteT (iteT ⟨.ref pn, rfl, oddgo H0 k0 (pen0.less (by omega))⟩)
        | list _ => exact iteT (iteT ⟨.ref pn, rfl, oddgo H0 k0 (pen0.less (by omega))⟩)
        | dict _ => exact iteT (iteT ⟨.ref pn, rfl, oddgo H0 k0 (pen0.less (by omega))⟩)
end
end K01

set_option maxRecDepth 100000
set_option maxHeartbeats 1000000
namespace K01
open PySem PySem.Spec PyProof.Rows L2 HX
abbrev s__law_is_wheel : Stmt := topS 20
theorem sc__law_is_wheel : FnScope ["_law_thing", "_law_ends", "_law_step", "_law_end"] ["_law_thing", "_law_ends"] (defScope s__law_is_wheel) := ⟨rfl, rfl, rfl, by decide +kernel, rfl, by decide +kernel, by decide +kernel⟩
abbrev s__law_is_board : Stmt := topS 21
theorem sc__law_is_board : FnScope ["_law_thing", "_law_wheel"] ["_law_thing"] (defScope s__law_is_board) := ⟨rfl, rfl, rfl, by decide +kernel, rfl, by decide +kernel, by decide +kernel⟩
abbrev s__law_fixed : Stmt := topS 22
theorem sc__law_fixed : FnScope ["_law_some"] [] (defScope s__law_fixed) := ⟨rfl, rfl, rfl, by decide +kernel, rfl, by decide +kernel, by decide +kernel⟩
theorem wheelB_no {d : PyData} {ends : Int} (h : partsB d 1 4 = false) : wheelB d ends = false := by
  unfold wheelB
  rw [h]
  rfl
theorem all_false {ds : List PyData} {p : PyData → Bool} {d : PyData} {i : Nat} (h : ds[i]? = some d) (e : p d = false) : ds.all p = false := by
  rw [List.all_eq_false]
  exact ⟨d, List.mem_of_getElem? h, by rw [e]; exact Bool.false_ne_true⟩
theorem all_take {ds : List PyData} {p : PyData → Bool} {d : PyData} {i : Nat} (h : ds[i]? = some d) (e : p d = true) (g : (ds.take i).all p = true) : (ds.take (i + 1)).all p = true := by
  rw [List.take_add_one, h, List.all_append, g]
  show (true && (p d && true)) = true
  rw [e]
  rfl
section
variable {P : Program} {w : World} {K : PySem.W.Frag} {mg : Str → Option Value} {base : Heap} {k : Nat}
theorem ok_is_wheel' (D : Def K mg "_law_is_wheel" s__law_is_wheel ["_law_thing", "_law_ends"]) (B : Bi mg) (c__law_within : Cal P w K mg base k "_law_within" ["_law_thing", "_law_low", "_law_high"] spWithin) :
    Cal P w K mg base (k + 1) "_law_is_wheel" ["_law_thing", "_law_ends"] (spEnds wheelB) := by
  refine D.ok sc__law_is_wheel (fun vs H Q E h => ?_) (fun f cdv A outer s H vs Q E hr h => ?_)
  · obtain ⟨N, v, d, ends, rfl, _⟩ := h
    rfl
  · obtain ⟨N, v, d, ends, rfl, hd, q⟩ := h
    refine ⟨_, (pss_cons (ps_if (PW.pt (pw_or (pt_not (pt_val (pe_callB call_isi rfl B.isinstance_ (by decide +kernel) (pa_cons (pv 0) (pa_cons (pe_bltn (v := .ty "tuple") (u := .type "tuple") rfl B.tuple_ (by decide +kernel) rfl) pa_nil))))) (pw_or1 (pt_not (pt_chain op_le op_le pe_int (pe_callB call_len_seq rfl B.len_ (by decide +kernel) (pa_cons (pv 0) pa_nil)) pe_int)))))
  (pss_one (ps_ret pe_bl))
  pss_nil)
  (pss_cons (ps_for PassesOwn.never rfl (pi_tup (pv 0)) (pg_name (i := 2) sc__law_is_wheel.nd rfl (Or.inl rfl))
  (pss_one (ps_if (PW.pt (pw_or (pt_not (pt_val (pe_callB call_isi rfl B.isinstance_ (by decide +kernel) (pa_cons (pv 2) (pa_cons (pe_bltn (v := .ty "tuple") (u := .type "tuple") rfl B.tuple_ (by decide +kernel) rfl) pa_nil))))) (pw_or (pt_cmpR op_gt (pe_callB call_len_seq rfl B.len_ (by decide +kernel) (pa_cons (pv 2) pa_nil)) pe_int (nomark _)) (pw_or1 (pt_not (pt_val (pe_callB (cr_all rfl) rfl B.all_ (by decide +kernel) (pa_cons (pe_lc (own := [("_law_end", 3)]) rfl sc__law_is_wheel.nd (pi_tup (pv 2)) (blkOk_by (N := ["_law_thing", "_law_ends", "_law_step", "_law_end"]) (sc := defScope s__law_is_wheel) (by decide +kernel)) (fun _ _ _ _ _ => (pg_name (i := 3) sc__law_is_wheel.nd rfl (Or.inl rfl))) (fun _ _ _ _ _ => pts_nil) (fun _ _ _ _ _ => (pe_cal c__law_within hr rfl (pa_cons (pv 3) (pa_cons pe_int (pa_cons (pe_op op_sub (pv 1) pe_int) pa_nil)))))) pa_nil))))))))
  (pss_one (ps_ret pe_bl))
  pss_nil)))
  (pss_one (ps_ret pe_bl)))), ?_⟩
    refine ⟨v, rfl, v, .ty "tuple", _, .type "tuple", _, rfl, .ty "tuple", hd.ty, kit_ty (kit_tuple d), _, rfl, ?_⟩
    by_cases ht : ∃ ds, d = .tuple ds
    · obtain ⟨ds, rfl⟩ := ht
      obtain ⟨a, xs, rfl, ea, na, hx⟩ := hd.tupOf
      have hlen := hx.len
      refine iteF ⟨.ref a, rfl, a, xs, rfl, .inr (SqT.of ea), 1, _, rfl, rfl, _, rfl, ?_⟩
      cases e1 : decide ((1 : Int) ≤ (xs.length : Int)) with
      | false =>
        have hp : partsB (.tuple ds) 1 4 = false := by
          show (decide ((1 : Int) ≤ (ds.length : Int)) && _) = false
          rw [← hlen, e1]
          rfl
        have q' := q H (Same.refl H)
        rw [wheelB_no hp] at q'
        exact iteF ⟨_, rfl, iteT q'⟩
      | true =>
        refine iteT ⟨_, 4, rfl, rfl, _, rfl, ?_⟩
        cases e2 : decide ((xs.length : Int) ≤ 4) with
        | false =>
          have hp : partsB (.tuple ds) 1 4 = false := by
            show (decide ((1 : Int) ≤ (ds.length : Int)) && decide ((ds.length : Int) ≤ 4)) = false
            rw [← hlen, e1, e2]
            rfl
          have q' := q H (Same.refl H)
          rw [wheelB_no hp] at q'
          exact iteT q'
        | true =>
          have hp : partsB (.tuple ds) 1 4 = true := by
            show (decide ((1 : Int) ≤ (ds.length : Int)) && decide ((ds.length : Int) ≤ 4)) = true
            rw [← hlen, e1, e2]
            rfl
          have hw : wheelB (.tuple ds) ends = ds.all fun e => stepB e ends := by
            unfold wheelB
            rw [hp]
            rfl
          rw [hw] at q
          refine iteF ⟨.ref a, rfl, a, rfl, ⟨xs, SqT.of ea⟩, for_tup (xs := xs) (fun i σ H' => ∃ y2 y3 : Option V, σ = [some (.ref a), some (.int ends), y2, y3] ∧ Same H H' ∧ (ds.take i).all (fun e => stepB e ends) = true) ⟨none, none, rfl, Same.refl H, rfl⟩
            (fun i σ H' _ p => ?_) (fun i x σ H' hi p => ?_) (fun σ H' p => ?_)⟩
          · obtain ⟨y2, y3, _, s', _⟩ := p
            exact SqT.of (s' _ _ ea)
          · obtain ⟨y2, y3, rfl, s', hall⟩ := p
            obtain ⟨d', ed, hd'⟩ := (DaAll.mono (Kp.of s') _ _ hx).get hi
            refine ⟨x, rfl, x, .ty "tuple", _, .type "tuple", _, rfl, .ty "tuple", hd'.ty, kit_ty (kit_tuple d'), _, rfl, ?_⟩
            have no : stepB d' ends = false → Q (.bl false) H' := fun e => by
              have q' := q H' s'
              rw [all_false (p := fun e => stepB e ends) ed e] at q'
              exact q'
            by_cases ht' : ∃ es, d' = .tuple es
            · obtain ⟨es, rfl⟩ := ht'
              obtain ⟨a', zs, rfl, ea', na', hz⟩ := hd'.tupOf
              have hzl := hz.len
              refine iteF ⟨.ref a', rfl, a', zs, rfl, .inr (SqT.of ea'), _, 3, rfl, rfl, _, rfl, ?_⟩
              cases e3 : decide ((3 : Int) < (zs.length : Int)) with
              | true =>
                have h3 := of_decide_eq_true e3
                refine iteT (iteT (no ?_))
                show ((decide ((0 : Int) ≤ (es.length : Int)) && decide ((es.length : Int) ≤ 3)) && _) = false
                rw [decide_eq_false (show ¬ ((es.length : Int) ≤ 3) by omega), Bool.and_false]
                rfl
              | false =>
                have h3 := of_decide_eq_false e3
                have hs : stepB (.tuple es) ends = es.all fun e => withinB e 0 (ends - 1) := by
                  show ((decide ((0 : Int) ≤ (es.length : Int)) && decide ((es.length : Int) ≤ 3)) && _) = _
                  rw [decide_eq_true (show (0 : Int) ≤ (es.length : Int) by omega), decide_eq_true (show (es.length : Int) ≤ 3 by omega)]
                  rfl
                refine iteF (read_all (N := N) (ds := es) (fun e => withinB e 0 (ends - 1)) rfl ea' hz (by omega) (fun x d H2 s2 hx2 Q' q' => ?_) fun H2 s2 => ⟨_, rfl, ?_⟩)
                · exact ⟨x, rfl, .int ends, rfl, ends, 1, rfl, rfl, N, x, d, 0, ends - 1, rfl, hx2, q' H2 (Same.refl H2)⟩
                · cases e4 : es.all fun e => withinB e 0 (ends - 1) with
                  | false =>
                    have q' := q H2 (s'.trans s2)
                    rw [all_false (p := fun e => stepB e ends) ed (hs.trans e4)] at q'
                    exact iteT q'
                  | true => exact iteF ⟨some (.ref a'), y3, rfl, s'.trans s2, all_take ed (hs.trans e4) hall⟩
            · cases d' with
              | tuple es => exact absurd ⟨es, rfl⟩ ht'
              | none => exact iteT (iteT (no rfl))
              | bool _ => exact iteT (iteT (no rfl))
              | int _ => exact iteT (iteT (no rfl))
              | str _ => exact iteT (iteT (no rfl))
              | list _ => exact iteT (iteT (no rfl))
              | dict _ => exact iteT (iteT (no rfl))
          · obtain ⟨y2, y3, rfl, s', hall⟩ := p
            rw [hlen, List.take_length] at hall
            have q' := q H' s'
            rw [hall] at q'
            exact q'
    · cases d with
      | tuple es => exact absurd ⟨es, rfl⟩ ht
      | none => exact iteT (iteT (q H (Same.refl H)))
      | bool _ => exact iteT (iteT (q H (Same.refl H)))
      | int _ => exact iteT (iteT (q H (Same.refl H)))
      | str _ => exact iteT (iteT (q H (Same.refl H)))
      | list _ => exact iteT (iteT (q H (Same.refl H)))
      | dict _ => exact iteT (iteT (q H (Same.refl H)))
theorem ok_is_board' (D : Def K mg "_law_is_board" s__law_is_board ["_law_thing"]) (B : Bi mg) (c__law_is_wheel : Cal P w K mg base k "_law_is_wheel" ["_law_thing", "_law_ends"] (spEnds wheelB))
    (c__law_within : Cal P w K mg base k "_law_within" ["_law_thing", "_law_low", "_law_high"] spWithin) : Cal P w K mg base (k + 1) "_law_is_board" ["_law_thing"] (spThing boardB) := by
  refine D.ok sc__law_is_board (fun vs H Q E h => ?_) (fun f cdv A outer s H vs Q E hr h => ?_)
  · obtain ⟨N, v, d, rfl, _⟩ := h
    rfl
  · obtain ⟨N, v, d, rfl, hd, q⟩ := h
    refine ⟨_, (pss_cons (ps_if (PW.pt (pw_or (pt_not (pt_val (pe_callB call_isi rfl B.isinstance_ (by decide +kernel) (pa_cons (pv 0) (pa_cons (pe_bltn (v := .ty "tuple") (u := .type "tuple") rfl B.tuple_ (by decide +kernel) rfl) pa_nil))))) (pw_or (pt_cmpR op_ne (pe_callB call_len_seq rfl B.len_ (by decide +kernel) (pa_cons (pv 0) pa_nil)) pe_int (nomark _)) (pw_or1 (pt_not (pt_val (pe_callB call_isi rfl B.isinstance_ (by decide +kernel) (pa_cons (pe_ix ix_tup (pv 0) pe_int (fun _ _ => rfl)) (pa_cons (pe_bltn (v := .ty "tuple") (u := .type "tuple") rfl B.tuple_ (by decide +kernel) rfl) pa_nil)))))))))
  (pss_one (ps_ret pe_bl))
  pss_nil)
  (pss_cons (ps_if (PW.pt (pw_or (pt_not (pt_chain op_le op_le pe_int (pe_callB call_len_seq rfl B.len_ (by decide +kernel) (pa_cons (pe_ix ix_tup (pv 0) pe_int (fun _ _ => rfl)) pa_nil)) pe_int)) (pw_or1 (pt_not (pt_val (pe_cal c__law_within hr rfl (pa_cons (pe_ix ix_tup (pv 0) pe_int (fun _ _ => rfl)) (pa_cons pe_int (pa_cons pe_int pa_nil)))))))))
  (pss_one (ps_ret pe_bl))
  pss_nil)
  (pss_one (ps_ret (pe_callB (cr_all rfl) rfl B.all_ (by decide +kernel) (pa_cons (pe_lc (own := [("_law_wheel", 1)]) rfl sc__law_is_board.nd (pi_tup (pe_ix ix_tup (pv 0) pe_int (fun _ _ => rfl))) (blkOk_by (N := ["_law_thing", "_law_wheel"]) (sc := defScope s__law_is_board) (by decide +kernel)) (fun _ _ _ _ _ => (pg_name (i := 1) sc__law_is_board.nd rfl (Or.inl rfl))) (fun _ _ _ _ _ => pts_nil) (fun _ _ _ _ _ => (pe_cal c__law_is_wheel hr rfl (pa_cons (pv 1) (pa_cons (pe_op op_add (pe_callB (id := "len") (call_len_seqK (K := K)) rfl B.len_ (by decide +kernel) (pa_cons (pe_ix (ix_tupK (K := K)) (pv 0) pe_int (fun _ _ => rfl)) pa_nil)) (pe_ix (ix_tupK (K := K)) (pv 0) pe_int (fun _ _ => rfl))) pa_nil))))) pa_nil)))))), ?_⟩
    refine ⟨v, rfl, v, .ty "tuple", _, .type "tuple", _, rfl, .ty "tuple", hd.ty, kit_ty (kit_tuple d), _, rfl, ?_⟩
    by_cases ht : ∃ ds, d = .tuple ds
    · obtain ⟨ds, rfl⟩ := ht
      obtain ⟨a, xs, rfl, ea, na, hx⟩ := hd.tupOf
      have hlen := hx.len
      refine iteF ⟨.ref a, rfl, a, xs, rfl, .inr (SqT.of ea), rfl, _, rfl, ?_⟩
      by_cases h2 : xs.length = 2
      · have e2 : (!decide (V.int (xs.length : Int) = V.int 2)) = false := by
          rw [h2]
          rfl
        rw [e2]
        obtain ⟨dw, dc, rfl⟩ : ∃ dw dc, ds = [dw, dc] := by
          match ds, hlen.symm.trans h2 with
          | [x, y], _ => exact ⟨x, y, rfl⟩
        cases hx with
        | @cons vw vs1 _ _ hw hr1 =>
        cases hr1 with
        | @cons vc vs2 _ _ hc hr2 =>
        cases hr2
        rw [boardB_two] at q
        refine iteF ⟨.ref a, rfl, a, _, 0, vw, rfl, rfl, SqT.of ea, atI_nat (j := 0) rfl, vw, .ty "tuple", _, .type "tuple", _, rfl, .ty "tuple", hw.ty, kit_ty (kit_tuple dw), _, rfl, ?_⟩
        by_cases ht' : ∃ ws, dw = .tuple ws
        · obtain ⟨ws, rfl⟩ := ht'
          obtain ⟨b, ys, rfl, eb, nb, hb⟩ := hw.tupOf
          have hbl := hb.len
          have hpw : partsB (.tuple ws) 1 6 = (decide ((1 : Int) ≤ (ys.length : Int)) && decide ((ys.length : Int) ≤ 6)) := by
            rw [hbl]
            rfl
          refine iteF ⟨.ref a, rfl, a, _, 0, _, rfl, rfl, SqT.of ea, atI_nat (j := 0) rfl, b, ys, rfl, .inr (SqT.of eb), 1, _, rfl, rfl, _, rfl, ?_⟩
          cases e3 : decide ((1 : Int) ≤ (ys.length : Int)) with
          | false =>
            rw [hpw, e3] at q
            exact iteF ⟨_, rfl, iteT (iteT (q H (Same.refl H)))⟩
          | true =>
            refine iteT ⟨_, 6, rfl, rfl, _, rfl, ?_⟩
            cases e4 : decide ((ys.length : Int) ≤ 6) with
            | false =>
              rw [hpw, e3, e4] at q
              exact iteT (iteT (q H (Same.refl H)))
            | true =>
              rw [hpw, e3, e4] at q
              refine iteF ⟨.ref a, rfl, a, _, 1, vc, rfl, rfl, SqT.of ea, atI_nat (j := 1) rfl, N, vc, dc, 0, 4, rfl, hc, _, rfl, ?_⟩
              cases e5 : withinB dc 0 4 with
              | false =>
                rw [e5] at q
                exact iteT (q H (Same.refl H))
              | true =>
                rw [e5] at q
                obtain ⟨c, rfl, c0, c4⟩ := within_int e5
                cases hc
                have h6 := of_decide_eq_true e4
                refine iteF (s_next ?_)
                dsimp only
                refine s_ret ?_
                refine (read_allE (N := N) (a := b) (ds := ws) (fun e => wheelB e ((ys.length : Int) + c)) (fun Q' q' => ⟨.ref a, rfl, a, _, 0, _, rfl, rfl, SqT.of ea, atI_nat (j := 0) rfl, q'⟩) eb hb (by omega) (fun x d H' s' hx' Q' q' => ?_) fun H' s' => ?_)
                · exact ⟨x, rfl, .ref a, rfl, a, _, 0, _, rfl, rfl, SqT.of (s' _ _ ea), atI_nat (j := 0) rfl, b, ys, rfl, .inr (SqT.of (s' _ _ eb)), .ref a, rfl, a, _, 1, _, rfl, rfl, SqT.of (s' _ _ ea), atI_nat (j := 1) rfl, _, c, rfl, rfl, N, x, d, (ys.length : Int) + c, rfl, hx', q'⟩
                · rw [hbl]
                  exact q H' s'
        · cases dw with
          | tuple es => exact absurd ⟨es, rfl⟩ ht'
          | none => exact iteT (q H (Same.refl H))
          | bool _ => exact iteT (q H (Same.refl H))
          | int _ => exact iteT (q H (Same.refl H))
          | str _ => exact iteT (q H (Same.refl H))
          | list _ => exact iteT (q H (Same.refl H))
          | dict _ => exact iteT (q H (Same.refl H))
      · have e2 : (!decide (V.int (xs.length : Int) = V.int 2)) = true := by
          rw [decide_eq_false (fun z => h2 (by have := V.int.inj z; omega))]
          rfl
        rw [e2]
        have hp : partsB (.tuple ds) 2 2 = false := by
          cases e : partsB (.tuple ds) 2 2 with
          | false => rfl
          | true =>
            obtain ⟨ds', e', a1, a2⟩ := parts_tup e
            cases e'
            omega
        have q' := q H (Same.refl H)
        rw [boardB_no hp] at q'
        exact iteT (iteT q')
    · cases d with
      | tuple es => exact absurd ⟨es, rfl⟩ ht
      | none => exact iteT (iteT (q H (Same.refl H)))
      | bool _ => exact iteT (iteT (q H (Same.refl H)))
      | int _ => exact iteT (iteT (q H (Same.refl H)))
      | str _ => exact iteT (iteT (q H (Same.refl H)))
      | list _ => exact iteT (iteT (q H (Same.refl H)))
      | dict _ => exact iteT (iteT (q H (Same.refl H)))
/-! ### the written ones -/
def fx0 : List PyData := [.tuple [.tuple [.tuple [.tuple []], .tuple [.tuple []], .tuple [.tuple []], .tuple [.tuple []], .tuple [.tuple []], .tuple [.tuple []]], .int 4], .tuple [.tuple [.tuple [.tuple []], .tuple [.tuple []], .tuple [.tuple []], .tuple [.tuple []], .tuple [.tuple []], .tuple [.tuple []], .tuple [.tuple []]], .int 4], .tuple [.tuple [.tuple [.tuple []]], .int 5], .tuple [.tuple [.tuple [.tuple [], .tuple [], .tuple [], .tuple []]], .int 0], .tuple [.tuple [.tuple [.tuple [], .tuple [], .tuple [], .tuple [], .tuple []]], .int 0]]
def fx1 : List PyData := [.tuple [.tuple [.tuple [.tuple [.int 1, .int 1, .int 1]]], .int 1], .tuple [.tuple [.tuple [.tuple [.int 1, .int 1, .int 1, .int 1]]], .int 1], .tuple [.tuple [.tuple [.tuple [.int 2]]], .int 1], .tuple [.tuple [.tuple [.tuple [.int 0]]], .int 0], .tuple [.tuple [.tuple [.tuple [.int 1]]], .int 0]]
def fx2 : List PyData := [.tuple [.tuple [], .int 1], .tuple [.tuple [.tuple []], .int 1], .tuple [.tuple [.tuple [.tuple [.bool true]]], .int 1], .tuple [.tuple [.tuple [.tuple [.int 0]]], .bool true], .tuple [.tuple [.tuple [.list [.int 0]]], .int 1], .tuple [.tuple [.tuple [.tuple [.int 0]]], .int (-1)]]
def fx3 : List PyData := [.tuple [.list [.tuple [.tuple [.int 0]]], .int 0], .tuple [.tuple [.tuple [.tuple [.int 0], .tuple [.int (-1)]]], .int 1], .tuple [.tuple [.tuple [.tuple []]], .none], .tuple [.tuple [.tuple [.tuple [.int 0]]], .int 0, .int 0]]
def spFixed : Sp := fun vs H Q _ => vs = [] ∧ ∀ (p : Addr) (xs : List V) (ds : List PyData) (H' : Hp), Same H H' → H' p = some (.lst xs) → DaAll (fun _ => False) H' xs ds → Q (.ref p) H'
theorem ok_fixed (D : Def K mg "_law_fixed" s__law_fixed []) (B : Bi mg) : Cal P w K mg base (k + 1) "_law_fixed" [] spFixed := by
  refine D.ok sc__law_fixed (fun vs H Q E h => ?_) (fun f cdv A outer s H vs Q E hr h => ?_)
  · obtain ⟨rfl, _⟩ := h
    rfl
  · obtain ⟨rfl, q⟩ := h
    refine ⟨_, (pss_cons (ps_set (i := 0) sc__law_fixed.nd rfl (Or.inl rfl) (pe_lst (pa_cons (pe_tup (pa_cons (pe_op op_repT (pe_tup (pa_cons (pe_tup (pa_cons (pe_tup pa_nil) pa_nil)) pa_nil)) pe_int) (pa_cons pe_int pa_nil))) (pa_cons (pe_tup (pa_cons (pe_op op_repT (pe_tup (pa_cons (pe_tup (pa_cons (pe_tup pa_nil) pa_nil)) pa_nil)) pe_int) (pa_cons pe_int pa_nil))) (pa_cons (pe_tup (pa_cons (pe_tup (pa_cons (pe_tup (pa_cons (pe_tup pa_nil) pa_nil)) pa_nil)) (pa_cons pe_int pa_nil))) (pa_cons (pe_tup (pa_cons (pe_tup (pa_cons (pe_op op_repT (pe_tup (pa_cons (pe_tup pa_nil) pa_nil)) pe_int) pa_nil)) (pa_cons pe_int pa_nil))) (pa_cons (pe_tup (pa_cons (pe_tup (pa_cons (pe_op op_repT (pe_tup (pa_cons (pe_tup pa_nil) pa_nil)) pe_int) pa_nil)) (pa_cons pe_int pa_nil))) pa_nil)))))))
  (pss_cons (ps_set (i := 0) sc__law_fixed.nd rfl (Or.inl rfl) (pe_op op_cat (pv 0) (pe_lst (pa_cons (pe_tup (pa_cons (pe_tup (pa_cons (pe_tup (pa_cons (pe_tup (pa_cons pe_int (pa_cons pe_int (pa_cons pe_int pa_nil)))) pa_nil)) pa_nil)) (pa_cons pe_int pa_nil))) (pa_cons (pe_tup (pa_cons (pe_tup (pa_cons (pe_tup (pa_cons (pe_tup (pa_cons pe_int (pa_cons pe_int (pa_cons pe_int (pa_cons pe_int pa_nil))))) pa_nil)) pa_nil)) (pa_cons pe_int pa_nil))) (pa_cons (pe_tup (pa_cons (pe_tup (pa_cons (pe_tup (pa_cons (pe_tup (pa_cons pe_int pa_nil)) pa_nil)) pa_nil)) (pa_cons pe_int pa_nil))) (pa_cons (pe_tup (pa_cons (pe_tup (pa_cons (pe_tup (pa_cons (pe_tup (pa_cons pe_int pa_nil)) pa_nil)) pa_nil)) (pa_cons pe_int pa_nil))) (pa_cons (pe_tup (pa_cons (pe_tup (pa_cons (pe_tup (pa_cons (pe_tup (pa_cons pe_int pa_nil)) pa_nil)) pa_nil)) (pa_cons pe_int pa_nil))) pa_nil))))))))
  (pss_cons (ps_set (i := 0) sc__law_fixed.nd rfl (Or.inl rfl) (pe_op op_cat (pv 0) (pe_lst (pa_cons (pe_tup (pa_cons (pe_tup pa_nil) (pa_cons pe_int pa_nil))) (pa_cons (pe_tup (pa_cons (pe_tup (pa_cons (pe_tup pa_nil) pa_nil)) (pa_cons pe_int pa_nil))) (pa_cons (pe_tup (pa_cons (pe_tup (pa_cons (pe_tup (pa_cons (pe_tup (pa_cons pe_bl pa_nil)) pa_nil)) pa_nil)) (pa_cons pe_int pa_nil))) (pa_cons (pe_tup (pa_cons (pe_tup (pa_cons (pe_tup (pa_cons (pe_tup (pa_cons pe_int pa_nil)) pa_nil)) pa_nil)) (pa_cons pe_bl pa_nil))) (pa_cons (pe_tup (pa_cons (pe_tup (pa_cons (pe_tup (pa_cons (pe_lst (pa_cons pe_int pa_nil)) pa_nil)) pa_nil)) (pa_cons pe_int pa_nil))) (pa_cons (pe_tup (pa_cons (pe_tup (pa_cons (pe_tup (pa_cons (pe_tup (pa_cons pe_int pa_nil)) pa_nil)) pa_nil)) (pa_cons (pe_un un_neg pe_int) pa_nil))) pa_nil)))))))))
  (pss_one (ps_ret (pe_op op_cat (pv 0) (pe_lst (pa_cons (pe_tup (pa_cons (pe_lst (pa_cons (pe_tup (pa_cons (pe_tup (pa_cons pe_int pa_nil)) pa_nil)) pa_nil)) (pa_cons pe_int pa_nil))) (pa_cons (pe_tup (pa_cons (pe_tup (pa_cons (pe_tup (pa_cons (pe_tup (pa_cons pe_int pa_nil)) (pa_cons (pe_tup (pa_cons (pe_un un_neg pe_int) pa_nil)) pa_nil))) pa_nil)) (pa_cons pe_int pa_nil))) (pa_cons (pe_tup (pa_cons (pe_tup (pa_cons (pe_tup (pa_cons (pe_tup pa_nil) pa_nil)) pa_nil)) (pa_cons pe_non pa_nil))) (pa_cons (pe_tup (pa_cons (pe_tup (pa_cons (pe_tup (pa_cons (pe_tup (pa_cons pe_int pa_nil)) pa_nil)) pa_nil)) (pa_cons pe_int (pa_cons pe_int pa_nil)))) pa_nil))))))))))), ?_⟩
    have fr : Fr (fun _ => False) H := Fr.none H
    refine s_asg ((ed_lst fr (ed_cons (ed_tup fr (ed_cons (ed_rep fr (ed_tup fr (ed_cons (ed_tup fr (ed_cons (ed_tup fr ed_nil) ed_nil)) ed_nil))) (ed_cons ed_int ed_nil))) (ed_cons (ed_tup fr (ed_cons (ed_rep fr (ed_tup fr (ed_cons (ed_tup fr (ed_cons (ed_tup fr ed_nil) ed_nil)) ed_nil))) (ed_cons ed_int ed_nil))) (ed_cons (ed_tup fr (ed_cons (ed_tup fr (ed_cons (ed_tup fr (ed_cons (ed_tup fr ed_nil) ed_nil)) ed_nil)) (ed_cons ed_int ed_nil))) (ed_cons (ed_tup fr (ed_cons (ed_tup fr (ed_cons (ed_rep fr (ed_tup fr (ed_cons (ed_tup fr ed_nil) ed_nil))) ed_nil)) (ed_cons ed_int ed_nil))) (ed_cons (ed_tup fr (ed_cons (ed_tup fr (ed_cons (ed_rep fr (ed_tup fr (ed_cons (ed_tup fr ed_nil) ed_nil))) ed_nil)) (ed_cons ed_int ed_nil))) ed_nil)))))) H (Same.refl H) _ (fun v H1 s1 hd1 => ?_))
    obtain ⟨L1, xs1, rfl, e1, _, hx1⟩ := (show Da (fun _ => False) H1 v (.list fx0) from hd1).lstOf
    have fr : Fr (fun _ => False) H1 := Fr.none H1
    have l1 : xs1.length = 5 := hx1.len
    refine s_asg ⟨.ref L1, rfl, (ed_lst fr (ed_cons (ed_tup fr (ed_cons (ed_tup fr (ed_cons (ed_tup fr (ed_cons (ed_tup fr (ed_cons ed_int (ed_cons ed_int (ed_cons ed_int ed_nil)))) ed_nil)) ed_nil)) (ed_cons ed_int ed_nil))) (ed_cons (ed_tup fr (ed_cons (ed_tup fr (ed_cons (ed_tup fr (ed_cons (ed_tup fr (ed_cons ed_int (ed_cons ed_int (ed_cons ed_int (ed_cons ed_int ed_nil))))) ed_nil)) ed_nil)) (ed_cons ed_int ed_nil))) (ed_cons (ed_tup fr (ed_cons (ed_tup fr (ed_cons (ed_tup fr (ed_cons (ed_tup fr (ed_cons ed_int ed_nil)) ed_nil)) ed_nil)) (ed_cons ed_int ed_nil))) (ed_cons (ed_tup fr (ed_cons (ed_tup fr (ed_cons (ed_tup fr (ed_cons (ed_tup fr (ed_cons ed_int ed_nil)) ed_nil)) ed_nil)) (ed_cons ed_int ed_nil))) (ed_cons (ed_tup fr (ed_cons (ed_tup fr (ed_cons (ed_tup fr (ed_cons (ed_tup fr (ed_cons ed_int ed_nil)) ed_nil)) ed_nil)) (ed_cons ed_int ed_nil))) ed_nil)))))) H1 (Same.refl H1) _ (fun v H2 s2 hd2 => ?_)⟩
    obtain ⟨L2, xs2, rfl, e2, _, hx2⟩ := (show Da (fun _ => False) H2 v (.list fx1) from hd2).lstOf
    have l2 : xs2.length = 5 := hx2.len
    refine ⟨L1, L2, xs1, xs2, rfl, rfl, s2 _ _ e1, e2, Nat.le_of_lt (small1000 (by omega)), fun L3 n3 => ?_⟩
    have hx3 : DaAll (fun _ => False) (upd H2 L3 (.lst (xs1 ++ xs2))) (xs1 ++ xs2) (fx0 ++ fx1) := DaAll.mono (Kp.new n3) _ _ ((DaAll.mono (Kp.of s2) _ _ hx1).append hx2)
    have s13 : Same H1 (upd H2 L3 (.lst (xs1 ++ xs2))) := s2.trans (Same.new n3)
    have e3 : upd H2 L3 (.lst (xs1 ++ xs2)) L3 = some (.lst (xs1 ++ xs2)) := upd_same
    generalize upd H2 L3 (.lst (xs1 ++ xs2)) = H3 at hx3 s13 e3 ⊢
    have fr : Fr (fun _ => False) H3 := Fr.none H3
    refine s_asg ⟨.ref L3, rfl, (ed_lst fr (ed_cons (ed_tup fr (ed_cons (ed_tup fr ed_nil) (ed_cons ed_int ed_nil))) (ed_cons (ed_tup fr (ed_cons (ed_tup fr (ed_cons (ed_tup fr ed_nil) ed_nil)) (ed_cons ed_int ed_nil))) (ed_cons (ed_tup fr (ed_cons (ed_tup fr (ed_cons (ed_tup fr (ed_cons (ed_tup fr (ed_cons ed_bl ed_nil)) ed_nil)) ed_nil)) (ed_cons ed_int ed_nil))) (ed_cons (ed_tup fr (ed_cons (ed_tup fr (ed_cons (ed_tup fr (ed_cons (ed_tup fr (ed_cons ed_int ed_nil)) ed_nil)) ed_nil)) (ed_cons ed_bl ed_nil))) (ed_cons (ed_tup fr (ed_cons (ed_tup fr (ed_cons (ed_tup fr (ed_cons (ed_lst fr (ed_cons ed_int ed_nil)) ed_nil)) ed_nil)) (ed_cons ed_int ed_nil))) (ed_cons (ed_tup fr (ed_cons (ed_tup fr (ed_cons (ed_tup fr (ed_cons (ed_tup fr (ed_cons ed_int ed_nil)) ed_nil)) ed_nil)) (ed_cons ed_neg ed_nil))) ed_nil))))))) H3 (Same.refl H3) _ (fun v H4 s4 hd4 => ?_)⟩
    obtain ⟨L4, xs4, rfl, e4, _, hx4⟩ := (show Da (fun _ => False) H4 v (.list fx2) from hd4).lstOf
    have l4 : xs4.length = 6 := hx4.len
    refine ⟨L3, L4, xs1 ++ xs2, xs4, rfl, rfl, s4 _ _ e3, e4, Nat.le_of_lt (small1000 (by rw [List.length_append]; omega)), fun L5 n5 => ?_⟩
    have hx5 : DaAll (fun _ => False) (upd H4 L5 (.lst (xs1 ++ xs2 ++ xs4))) (xs1 ++ xs2 ++ xs4) (fx0 ++ fx1 ++ fx2) := DaAll.mono (Kp.new n5) _ _ ((DaAll.mono (Kp.of s4) _ _ hx3).append hx4)
    have s35 : Same H3 (upd H4 L5 (.lst (xs1 ++ xs2 ++ xs4))) := s4.trans (Same.new n5)
    have e5 : upd H4 L5 (.lst (xs1 ++ xs2 ++ xs4)) L5 = some (.lst (xs1 ++ xs2 ++ xs4)) := upd_same
    generalize upd H4 L5 (.lst (xs1 ++ xs2 ++ xs4)) = H5 at hx5 s35 e5 ⊢
    have fr : Fr (fun _ => False) H5 := Fr.none H5
    refine ⟨.ref L5, rfl, (ed_lst fr (ed_cons (ed_tup fr (ed_cons (ed_lst fr (ed_cons (ed_tup fr (ed_cons (ed_tup fr (ed_cons ed_int ed_nil)) ed_nil)) ed_nil)) (ed_cons ed_int ed_nil))) (ed_cons (ed_tup fr (ed_cons (ed_tup fr (ed_cons (ed_tup fr (ed_cons (ed_tup fr (ed_cons ed_int ed_nil)) (ed_cons (ed_tup fr (ed_cons ed_neg ed_nil)) ed_nil))) ed_nil)) (ed_cons ed_int ed_nil))) (ed_cons (ed_tup fr (ed_cons (ed_tup fr (ed_cons (ed_tup fr (ed_cons (ed_tup fr ed_nil) ed_nil)) ed_nil)) (ed_cons ed_non ed_nil))) (ed_cons (ed_tup fr (ed_cons (ed_tup fr (ed_cons (ed_tup fr (ed_cons (ed_tup fr (ed_cons ed_int ed_nil)) ed_nil)) ed_nil)) (ed_cons ed_int (ed_cons ed_int ed_nil)))) ed_nil))))) H5 (Same.refl H5) _ (fun v H6 s6 hd6 => ?_)⟩
    obtain ⟨L6, xs6, rfl, e6, _, hx6⟩ := (show Da (fun _ => False) H6 v (.list fx3) from hd6).lstOf
    have l6 : xs6.length = 4 := hx6.len
    refine ⟨L5, L6, xs1 ++ xs2 ++ xs4, xs6, rfl, rfl, s6 _ _ e5, e6, Nat.le_of_lt (small1000 (by rw [List.length_append, List.length_append]; omega)), fun L7 n7 => ?_⟩
    exact q L7 _ _ _ (((s1.trans s13).trans s35).trans (s6.trans (Same.new n7))) upd_same (DaAll.mono (Kp.new n7) _ _ ((DaAll.mono (Kp.of s6) _ _ hx5).append hx6))
end
end K01

set_option maxRecDepth 100000
set_option maxHeartbeats 1000000
namespace K01
open PySem PySem.Spec PyProof.Rows L2 HX
abbrev s_law : Stmt := topS 23
theorem sc_law : FnScope ["_law_script", "_law_thing", "_law_k", "_law_pen_here", "_law_board_here", "_law_things", "_law_turn", "_law_bent_here", "_law_kept", "_law_wanted", "_law_lap"] ["_law_script"] (defScope s_law) := ⟨rfl, rfl, rfl, by decide +kernel, rfl, by decide +kernel, by decide +kernel⟩
/-! ### how great a drawn board's text is -/
theorem step_pt {n : Int} (hn : n ≤ 10) (s : List Int) (h : EndsOk n s) : within 1000000000000 (stepD s) ∧ wt (stepD s) ≤ 399 ∧ (stepD s).depth ≤ 1 := by
  have aux : ∀ l : List Int, (∀ e ∈ l, 0 ≤ e ∧ e < n) → withinAll 1000000000000 (l.map PyData.int) ∧ wtAll (l.map PyData.int) = 132 * l.length ∧ PyData.depthAll (l.map PyData.int) = 0 := by
    intro l
    induction l with
    | nil => intro _; simp [withinAll, wtAll, PyData.depthAll]
    | cons e l ih =>
      intro hl
      obtain ⟨i1, i2, i3⟩ := ih fun x hx => hl x (List.mem_cons_of_mem _ hx)
      have he := hl e List.mem_cons_self
      simp only [List.map_cons, withinAll, wtAll, PyData.depthAll, within, wt, PyData.depth, i2, i3, List.length_cons]
      exact ⟨⟨by omega, i1⟩, by omega, rfl⟩
  obtain ⟨i1, i2, i3⟩ := aux s h.2
  have := h.1
  unfold stepD
  simp only [within, wt, PyData.depth, i2, i3]
  exact ⟨i1, by omega, by omega⟩
theorem all_pt {α : Type} (f : α → PyData) (w e : Nat) (l : List α) (h : ∀ x ∈ l, within 1000000000000 (f x) ∧ wt (f x) ≤ w ∧ (f x).depth ≤ e) : withinAll 1000000000000 (l.map f) ∧ wtAll (l.map f) ≤ (w + 2) * l.length ∧ PyData.depthAll (l.map f) ≤ e := by
  induction l with
  | nil => simp [withinAll, wtAll, PyData.depthAll]
  | cons x l ih =>
    obtain ⟨i1, i2, i3⟩ := ih fun y hy => h y (List.mem_cons_of_mem _ hy)
    obtain ⟨a1, a2, a3⟩ := h x List.mem_cons_self
    simp only [List.map_cons, withinAll, wtAll, PyData.depthAll, List.length_cons]
    refine ⟨⟨a1, i1⟩, ?_, by omega⟩
    rw [Nat.mul_add]
    omega
theorem wheels_pt {ws : List (List (List Int))} {c : Int} (h : BoardOk ws c) : within 1000000000000 (wheelsD ws) ∧ wt (wheelsD ws) ≤ 9700 ∧ (wheelsD ws).depth ≤ 3 := by
  have hw : ∀ x ∈ ws, within 1000000000000 (wheelD x) ∧ wt (wheelD x) ≤ 1607 ∧ (wheelD x).depth ≤ 2 := by
    intro x hx
    obtain ⟨x1, x4, hs⟩ := h.wheels x hx
    have h6 := h.w6
    have c4 := h.c4
    obtain ⟨i1, i2, i3⟩ := all_pt stepD 399 1 x fun s hs' => step_pt (by omega) s (hs s hs')
    have : (399 + 2) * x.length ≤ 401 * 4 := Nat.mul_le_mul_left _ x4
    unfold wheelD
    simp only [within, wt, PyData.depth]
    exact ⟨i1, by omega, by omega⟩
  obtain ⟨i1, i2, i3⟩ := all_pt wheelD 1607 2 ws hw
  have : (1607 + 2) * ws.length ≤ 1609 * 6 := Nat.mul_le_mul_left _ h.w6
  unfold wheelsD
  simp only [within, wt, PyData.depth]
  exact ⟨i1, by omega, by omega⟩
theorem gd_of {d : PyData} {b : Int} {n e : Nat} (h1 : within b d) (h2 : wt d ≤ n) (h3 : d.depth ≤ e) (hb : b ≤ 2000000000000 := by omega) (hn : n ≤ 16000000 := by omega) (he : e ≤ 100 := by omega) : Gd 16000000 100 d :=
  ⟨within_up hb _ h1, Nat.le_trans h2 hn, Nat.le_trans h3 he⟩
theorem gd_bool (b : Bool) : Gd 16000000 100 (.bool b) := ⟨by simp only [within], by simp only [wt]; decide, by simp only [PyData.depth]; decide⟩
section
variable {P : Program} {w : World} {K : PySem.W.Frag} {mg : Str → Option Value} {base : Heap} {k : Nat}
def spLaw (K : PySem.W.Frag) : Sp := fun vs H Q _ => ∃ (a : Addr) (ns : List Int), vs = [.ref a] ∧ SqL K H a (ns.map V.int) ∧ ns.length ≤ 63 ∧ ∀ H', Q (.bl true) H'
theorem ok_law {f : Addr} {fd : FuncData} (F : Fun K "law" "law" s_law f fd) (B : Bi mg)
    (c_is_board : Cal P w K mg base k "is_board" ["thing"] (spThing boardB)) (c__law_is_board : Cal P w K mg base k "_law_is_board" ["_law_thing"] (spThing boardB))
    (c__law_bent : Cal P w K mg base k "_law_bent" ["_law_pen_here", "_law_thing", "_law_deep"] (spBent 5)) (c__law_odd : Cal P w K mg base k "_law_odd" ["_law_pen_here"] spOdd)
    (c__law_board : Cal P w K mg base k "_law_board" ["_law_pen_here", "_law_most"] spBoard) (c__law_pen : Cal P w K mg base k "_law_pen" ["_law_cell"] spPen)
    (c__law_cell_at : Cal P w K mg base k "_law_cell_at" ["_law_script", "_law_k"] (spCell K)) (c__law_fixed : Cal P w K mg base k "_law_fixed" [] spFixed) : FnG P w K mg base (k + 1) f fd ["_law_script"] (spLaw K) := by
  refine Fun.okG F sc_law (fun vs H Q E h => ?_) (fun cdv A outer s H vs Q E en hr h => ?_)
  · obtain ⟨a, ns, rfl, _⟩ := h
    rfl
  · obtain ⟨a, ns, rfl, hS, hl, q⟩ := h
    refine ⟨_, (pss_cons (ps_for PassesOwn.never rfl (pi_list (pe_cal0 c__law_fixed hr rfl)) (pg_name (i := 1) sc_law.nd rfl (Or.inl rfl))
  (pss_one (ps_if (pt_cmpR op_ne (pe_callB (call_repr (entx_of en) (hu150 hr)) rfl B.repr_ (by decide +kernel) (pa_cons (pe_cal c_is_board hr rfl (pa_cons (pv 1) pa_nil)) pa_nil)) (pe_callB (call_repr (entx_of en) (hu150 hr)) rfl B.repr_ (by decide +kernel) (pa_cons (pe_cal c__law_is_board hr rfl (pa_cons (pv 1) pa_nil)) pa_nil)) (nomark _))
  (pss_one (ps_ret pe_bl))
  pss_nil)))
  (pss_cons (ps_for PassesOwn.never rfl (pi_range1 rfl B.range_ (pa_cons (pe_callB (call_max2 rfl) rfl B.max_ (by decide +kernel) (pa_cons pe_int (pa_cons (pe_callB (call_min2 rfl) rfl B.min_ (by decide +kernel) (pa_cons (pe_callB call_len_seq rfl B.len_ (by decide +kernel) (pa_cons (pv 0) pa_nil)) (pa_cons pe_int pa_nil))) pa_nil))) pa_nil)) (pg_name (i := 2) sc_law.nd rfl (Or.inl rfl))
  (pss_cons (ps_set (i := 3) sc_law.nd rfl (Or.inl rfl) (pe_cal c__law_pen hr rfl (pa_cons (pe_cal c__law_cell_at hr rfl (pa_cons (pv 0) (pa_cons (pv 2) pa_nil))) pa_nil)))
  (pss_cons (ps_set (i := 4) sc_law.nd rfl (Or.inl rfl) (pe_cal c__law_board hr rfl (pa_cons (pv 3) (pa_cons pe_int pa_nil))))
  (pss_cons (ps_set (i := 5) sc_law.nd rfl (Or.inl rfl) (pe_lst (pa_cons (pv 4) (pa_cons (pe_callTy call_list_of rfl B.list_ (by decide +kernel) (pa_cons (pv 4) pa_nil)) (pa_cons (pe_ix ix_tup (pv 4) pe_int (fun _ _ => rfl)) (pa_cons (pe_slice sl_tupA (pv 4) po_none (po_some pe_int)) (pa_cons (pe_op op_catA (pv 4) (pe_tup (pa_cons pe_int pa_nil))) (pa_cons (pe_cal c__law_odd hr rfl (pa_cons (pv 3) pa_nil)) pa_nil))))))))
  (pss_cons (ps_for PassesOwn.never rfl (pi_range1 rfl B.range_ (pa_cons pe_int pa_nil)) (pg_name (i := 6) sc_law.nd rfl (Or.inl rfl))
  (pss_cons (ps_set (i := 7) sc_law.nd rfl (Or.inl rfl) (pe_cal c__law_bent hr rfl (pa_cons (pv 3) (pa_cons (pv 4) (pa_cons pe_int pa_nil)))))
  (pss_one (ps_set (i := 5) sc_law.nd rfl (Or.inl rfl) (pe_op op_cat (pv 5) (pe_lst (pa_cons (pv 7) (pa_cons (pe_cal c__law_bent hr rfl (pa_cons (pv 3) (pa_cons (pv 7) (pa_cons pe_int pa_nil)))) pa_nil))))))))
  (pss_one (ps_for PassesOwn.never rfl (pi_list (pv 5)) (pg_name (i := 1) sc_law.nd rfl (Or.inl rfl))
  (pss_cons (ps_par (i := 8) (j := 9) (by rfl) sc_law.nd rfl rfl (by decide) rfl rfl (pa_cons (pe_callB (call_repr (entx_of en) (hu150 hr)) rfl B.repr_ (by decide +kernel) (pa_cons (pv 1) pa_nil)) (pa_cons (pe_cal c__law_is_board hr rfl (pa_cons (pv 1) pa_nil)) pa_nil)) (by rfl))
  (pss_one (ps_for PassesOwn.never rfl (pi_range1 rfl B.range_ (pa_cons pe_int pa_nil)) (pg_name (i := 10) sc_law.nd rfl (Or.inl rfl))
  (pss_one (ps_if (PW.pt (pw_or (pt_cmpR op_ne (pe_callB (call_repr (entx_of en) (hu150 hr)) rfl B.repr_ (by decide +kernel) (pa_cons (pe_cal c_is_board hr rfl (pa_cons (pv 1) pa_nil)) pa_nil)) (pe_callB (call_repr (entx_of en) (hu150 hr)) rfl B.repr_ (by decide +kernel) (pa_cons (pv 9) pa_nil)) (nomark _)) (pw_or1 (pt_cmpR op_ne (pe_callB (call_repr (entx_of en) (hu150 hr)) rfl B.repr_ (by decide +kernel) (pa_cons (pv 1) pa_nil)) (pv 8) (nomark _)))))
  (pss_one (ps_ret pe_bl))
  pss_nil))))))))))))
  (pss_one (ps_ret pe_bl)))), ?_⟩
    -- the written ones
    refine ⟨rfl, fun p xs ds H1 s1 e1 hx1 => ⟨p, rfl, ⟨xs, SqL.of e1⟩, for_list (xs := xs) (fun i σ H' => ∃ y1 : Option V, σ = [some (.ref a), y1, none, none, none, none, none, none, none, none, none] ∧ Same H1 H') ⟨none, rfl, Same.refl H1⟩ (fun i σ H' _ pp => ?_) (fun i x σ H' hi pp => ?_) (fun σ H' pp => ?_)⟩⟩
    · obtain ⟨y1, _, s'⟩ := pp
      exact SqL.of (s' _ _ e1)
    · obtain ⟨y1, rfl, s'⟩ := pp
      obtain ⟨d, ed, hd⟩ := (DaAll.mono (Kp.of s') _ _ hx1).get hi
      refine ⟨x, rfl, _, x, d, rfl, hd, fun H2 s2 => ⟨fun _ => False, _, .bool (boardB d), rfl, .bl _, gd_bool _, x, rfl, _, x, d, rfl, Da.mono (Kp.of s2) _ _ hd, fun H3 s3 => ⟨fun _ => False, _, .bool (boardB d), rfl, .bl _, gd_bool _, rfl, _, rfl, ?_⟩⟩⟩
      exact iteNS rfl ⟨some x, rfl, s'.trans (s2.trans s3)⟩
    · obtain ⟨y1, rfl, s'⟩ := pp
      have sH : Same H H' := s1.trans s'
      -- the cells
      refine ⟨.ref a, rfl, a, _, rfl, .inl (sH.seq hS), _, 4, rfl, 1, _, rfl, _, rfl, ?_, ?_, for_range (n := _) (fun i σ H2 => ∃ y1 y2 y3 y4 y5 y6 y7 y8 y9 y10 : Option V, σ = [some (.ref a), y1, y2, y3, y4, y5, y6, y7, y8, y9, y10] ∧ Same H H2) ⟨y1, none, none, none, none, none, none, none, none, none, rfl, sH⟩ (fun i σ H2 hi pp => ?_) (fun σ H2 pp => ?_)⟩
      · split <;> split <;> omega
      · split <;> split <;> omega
      · obtain ⟨y1, y2, y3, y4, y5, y6, y7, y8, y9, y10, rfl, s2⟩ := pp
        have ei : (0 : Int) + (i : Int) = (i : Int) := Int.zero_add _
        -- the pen, the board
        refine ⟨.ref a, rfl, .int (0 + (i : Int)), rfl, a, ns, i, by rw [ei]; rfl, s2.seq hS, fun c => ⟨c, rfl, fun pn H3 np s3 pen3 => ?_⟩⟩
        refine ⟨.ref pn, rfl, pn, 6, 10000, rfl, by decide, by decide, pen3.less (by omega), fun vb ws cc H4 bok _ _ tb k4 pen4 => ?_⟩
        have np0 : H pn = none := by
          cases e : H pn with
          | none => rfl
          | some o =>
            rw [s2 _ _ e] at np
            cases np
        have sameOf : ∀ H', Kp (· = pn) H3 H' → Same H H' := fun H' kk b o e => kk _ _ (s3 _ _ (s2 _ _ e)) (ne_of_none e np0)
        have notup : ∀ (H' : Hp) (m : Nat), PenAt H' pn m → ∀ a' xs', H' a' = some (.tup xs') → ¬ (a' = pn) := fun H' m pp a' xs' e => pp.netup e
        obtain ⟨ab, xsb, rfl, eb, hb⟩ := Td.tupOf tb
        cases hb with
        | @cons vw vs1 _ _ hw hr1 =>
        cases hr1 with
        | @cons vc vs2 _ _ hc hr2 =>
        cases hr2
        obtain rfl := hc.intOf
        obtain ⟨w1, w2, w3⟩ := wheels_pt bok
        have c0 := bok.c0
        have c4 := bok.c4
        -- things
        refine ⟨.ref ab, rfl, .ref ab, rfl, ab, _, rfl, .inr (SqT.of eb), fun l1 n1 => ?_⟩
        have pen5 := pen4.new (o := .lst [vw, .int cc]) n1
        have eb5 : (upd H4 l1 (.lst [vw, .int cc])) ab = some (.tup [vw, .int cc]) := by
          rw [upd_ne (ne_of_none eb n1)]
          exact eb
        have el5 : (upd H4 l1 (.lst [vw, .int cc])) l1 = some (.lst [vw, .int cc]) := upd_same
        have k45 : Kp (· = pn) H4 (upd H4 l1 (.lst [vw, .int cc])) := Kp.new n1
        have n1p := pen4.ne n1
        generalize upd H4 l1 (.lst [vw, .int cc]) = H5 at pen5 eb5 el5 k45 ⊢
        refine ⟨.ref ab, rfl, ab, _, 0, _, rfl, rfl, SqT.of eb5, atI_nat (j := 0) rfl, .ref ab, rfl, 1, rfl, rd_slice eb5 fun p6 H6 s6 e6 => ?_⟩
        have e6' : H6 p6 = some (.tup [vw]) := by
          rw [show ((1 : Int)) = ((1 : Nat) : Int) by rfl, cut_to _ _ (by show 1 ≤ 2; decide)] at e6
          exact e6
        refine ⟨.ref ab, rfl, by show 1 ≤ sizeLine; decide, fun p7 n7 => rd_cat (by rw [upd_ne (ne_of_none (s6 _ _ eb5) n7)]; exact s6 _ _ eb5) upd_same (by show 3 ≤ sizeLine; decide) fun p8 H8 s8 e8 => ?_⟩
        have s58 : Same H5 H8 := (s6.trans (Same.new n7)).trans s8
        have pen8 := pen5.same s58
        refine ⟨.ref pn, rfl, pn, 9000, rfl, pen8.less (by omega), fun vo do_ H9 hmo dao k9 pen9 => ⟨by show 6 ≤ sizeLine; decide, fun L nL => ?_⟩⟩
        obtain ⟨o1, o2, o3⟩ := oddL_ok do_ hmo
        have k49 : Kp (· = pn) H4 (upd H9 L (.lst [.ref ab, .ref l1, vw, .ref p6, .ref p8, vo])) := ((k45.trans (Kp.of s58)).trans k9).trans (Kp.new nL)
        have k39 := k4.trans k49
        have k9L : Kp (· = pn) H9 (upd H9 L (.lst [.ref ab, .ref l1, vw, .ref p6, .ref p8, vo])) := Kp.new nL
        have k8L := k9.trans k9L
        have pen10 : PenAt (upd H9 L (.lst [.ref ab, .ref l1, vw, .ref p6, .ref p8, vo])) pn 9000 := pen9.new nL
        have eL : upd H9 L (.lst [.ref ab, .ref l1, vw, .ref p6, .ref p8, vo]) L = some (.lst [.ref ab, .ref l1, vw, .ref p6, .ref p8, vo]) := upd_same
        have nLp := pen9.ne nL
        generalize upd H9 L (.lst [.ref ab, .ref l1, vw, .ref p6, .ref p8, vo]) = H10 at k49 k39 k9L k8L pen10 eL ⊢
        have tb4 : Td H4 (.ref ab) (boardD ws cc) := .tup eb (.cons hw (.cons (.int cc) .nil))
        have tb10 : Td H10 (.ref ab) (boardD ws cc) := Td.mono (pen4.kt k49) _ _ tb4
        have tw10 : Td H10 vw (wheelsD ws) := Td.mono (pen4.kt k49) _ _ hw
        have dw10 : Da (· = pn) H10 vw (wheelsD ws) := Td.da (notup H10 _ pen10) _ _ tw10
        have bwi : within 1000000000000 (boardD ws cc) ∧ wt (boardD ws cc) ≤ 10000 ∧ (boardD ws cc).depth ≤ 4 := by
          unfold boardD
          simp only [within, withinAll, wt, wtAll, PyData.depth, PyData.depthAll]
          exact ⟨⟨w1, by omega, trivial⟩, by omega, by omega⟩
        have things : ∃ ds, DaAll (· = pn) H10 [.ref ab, .ref l1, vw, .ref p6, .ref p8, vo] ds ∧ ∀ d ∈ ds, Gd 16000000 100 d := by
          refine ⟨[boardD ws cc, .list [wheelsD ws, .int cc], wheelsD ws, .tuple [wheelsD ws], .tuple [wheelsD ws, .int cc, .int 0], do_], .cons (Td.da (notup H10 _ pen10) _ _ tb10) (.cons (.lst (((Kp.of s58).trans k8L) _ _ el5 n1p) n1p (.cons dw10 (.cons (.int cc) .nil))) (.cons dw10 (.cons ?_ (.cons ?_ (.cons (Da.mono k9L _ _ dao) .nil))))), fun d hd => ?_⟩
          · have ep := (((Kp.of ((Same.new n7).trans s8)) : Kp (· = pn) H6 H8).trans k8L) _ _ e6' ((pen5.same s6).netup e6')
            exact .tup ep (pen10.netup ep) (.cons dw10 .nil)
          · have ep := k8L _ _ e8 (pen8.netup e8)
            exact .tup ep (pen10.netup ep) (.cons dw10 (.cons (.int cc) (.cons (.int 0) .nil)))
          · simp only [List.mem_cons, List.not_mem_nil, or_false] at hd
            rcases hd with rfl | rfl | rfl | rfl | rfl | rfl
            · exact gd_of bwi.1 bwi.2.1 bwi.2.2
            · refine gd_of (b := 1000000000000) (n := 10000) (e := 5) ?_ ?_ ?_ <;> simp only [within, withinAll, wt, wtAll, PyData.depth, PyData.depthAll]
              · exact ⟨w1, by omega, trivial⟩
              · omega
              · omega
            · exact gd_of w1 w2 w3
            · refine gd_of (b := 1000000000000) (n := 10000) (e := 5) ?_ ?_ ?_ <;> simp only [within, withinAll, wt, wtAll, PyData.depth, PyData.depthAll]
              · exact ⟨w1, trivial⟩
              · omega
              · omega
            · refine gd_of (b := 1000000000000) (n := 10200) (e := 5) ?_ ?_ ?_ <;> simp only [within, withinAll, wt, wtAll, PyData.depth, PyData.depthAll]
              · exact ⟨w1, by omega, by omega, trivial⟩
              · omega
              · omega
            · exact gd_of o1 o2 o3
        obtain ⟨ds0, hds0, hgd0⟩ := things
        -- fourteen times
        refine ⟨14, rfl, by decide, by decide, for_range (n := 14) (fun j σ H' => ∃ (L : Addr) (xs : List V) (ds : List PyData) (y1 y6 y7 y8 y9 y10 : Option V), σ = [some (.ref a), y1, some (.int (0 + (i : Int))), some (.ref pn), some (.ref ab), some (.ref L), y6, y7, y8, y9, y10] ∧ Kp (· = pn) H3 H' ∧ PenAt H' pn (100 + 100 * (14 - j)) ∧
          Td H' (.ref ab) (boardD ws cc) ∧ H' L = some (.lst xs) ∧ ¬ (L = pn) ∧ DaAll (· = pn) H' xs ds ∧ (∀ d ∈ ds, Gd 16000000 100 d) ∧ xs.length = 6 + 2 * j) ?_ (fun j σ H11 hj pp => ?_) (fun σ H11 pp => ?_)⟩
        · exact ⟨L, _, ds0, y1, y6, y7, y8, y9, y10, rfl, k39, pen10.less (by omega), tb10, eL, nLp, hds0, hgd0, rfl⟩
        · obtain ⟨L, xs, ds, y1, y6, y7, y8, y9, y10, rfl, k11, pen11, tb11, eL11, nL11, hds, hgd, hlen⟩ := pp
          have db11 : Da (· = pn) H11 (.ref ab) (boardD ws cc) := Td.da (notup H11 _ pen11) _ _ tb11
          refine ⟨.ref pn, rfl, .ref ab, rfl, pn, _, _, 100 + 100 * (13 - j) + 50, 1000000000000, 10000, 8, rfl, db11, by omega, bwi.1, bwi.2.1, by omega, by omega, by omega, pen11.less (by omega), fun v1 d1 H12 da12 wi12 wt12 dp12 k12 pen12 => ?_⟩
          refine ⟨.ref L, rfl, v1, rfl, .ref pn, rfl, v1, rfl, pn, v1, d1, 100 + 100 * (13 - j), 1000000000004, 20300, 8, rfl, da12, by omega, wi12, by omega, by omega, dp12, by omega, pen12.less (by omega), fun v2 d2 H13 da13 wi13 wt13 dp13 k13 pen13 => ⟨by show 2 ≤ sizeLine; decide, fun L2 nL2 => ?_⟩⟩
          have kk : Kp (· = pn) H11 (upd H13 L2 (.lst [v1, v2])) := (k12.trans k13).trans (Kp.new nL2)
          refine ⟨L, L2, xs, [v1, v2], rfl, rfl, kk _ _ eL11 nL11, upd_same, Nat.le_of_lt (small1000 (by rw [hlen]; show 6 + 2 * j + 2 ≤ 1000; omega)), fun L3 nL3 => ?_⟩
          have pen14 := pen13.new (o := .lst [v1, v2]) nL2
          have kk3 : Kp (· = pn) H11 (upd (upd H13 L2 (.lst [v1, v2])) L3 (.lst (xs ++ [v1, v2]))) := kk.trans (Kp.new nL3)
          refine ⟨L3, xs ++ [v1, v2], ds ++ [d1, d2], y1, some (.int (0 + (j : Int))), some v1, y8, y9, y10, rfl, k11.trans kk3, (pen14.new nL3).less (by omega), Td.mono (pen11.kt kk3) _ _ tb11, upd_same, pen14.ne nL3, ?_, fun d hd => ?_, ?_⟩
          · exact (DaAll.mono kk3 _ _ hds).append (.cons (Da.mono (k13.trans ((Kp.new nL2).trans (Kp.new nL3))) _ _ da12) (.cons (Da.mono ((Kp.new nL2).trans (Kp.new nL3)) _ _ da13) .nil))
          · rcases List.mem_append.mp hd with hd | hd
            · exact hgd d hd
            · simp only [List.mem_cons, List.not_mem_nil, or_false] at hd
              rcases hd with rfl | rfl
              · exact gd_of wi12 wt12 dp12
              · exact gd_of wi13 wt13 dp13
          · rw [List.length_append, hlen]
            show 6 + 2 * j + 2 = 6 + 2 * (j + 1)
            omega
        · obtain ⟨L, xs, ds, y1, y6, y7, y8, y9, y10, rfl, k11, pen11, tb11, eL11, nL11, hds, hgd, hlen⟩ := pp
          -- each thing
          refine ⟨.ref L, rfl, L, rfl, ⟨xs, SqL.of eL11⟩, for_list (xs := xs) (fun j σ H' => ∃ y1 y6 y7 y8 y9 y10 : Option V, σ = [some (.ref a), y1, some (.int (0 + (i : Int))), some (.ref pn), some (.ref ab), some (.ref L), y6, y7, y8, y9, y10] ∧ Same H11 H') ⟨y1, y6, y7, y8, y9, y10, rfl, Same.refl H11⟩ (fun j σ H' _ pp => ?_) (fun j x σ H' hj pp => ?_) (fun σ H' pp => ?_)⟩
          · obtain ⟨_, _, _, _, _, _, _, s'⟩ := pp
            exact SqL.of (s' _ _ eL11)
          · obtain ⟨y1, y6, y7, y8, y9, y10, rfl, s'⟩ := pp
            obtain ⟨d, ed, hd⟩ := (DaAll.mono (Kp.of s') _ _ hds).get hj
            have hg := hgd d (List.mem_of_getElem? ed)
            refine ⟨x, rfl, (· = pn), x, d, rfl, hd, hg, x, rfl, _, x, d, rfl, hd, fun H12 s12 => ⟨_, _, rfl, ?_⟩⟩
            refine ⟨2, rfl, by decide, by decide, for_range (n := 2) (fun u σ H'' => ∃ y6 y7 y10 : Option V, σ = [some (.ref a), some x, some (.int (0 + (i : Int))), some (.ref pn), some (.ref ab), some (.ref L), y6, y7, some (.str d.shown), some (.bl (boardB d)), y10] ∧ Same H11 H'') ⟨y6, y7, y10, rfl, s'.trans s12⟩ (fun u σ H13 hu pp => ?_) (fun σ H13 pp => ?_)⟩
            · obtain ⟨y6, y7, y10, rfl, s13⟩ := pp
              have hd13 : Da (· = pn) H13 x d := by
                obtain ⟨d', ed', hd'⟩ := (DaAll.mono (Kp.of s13) _ _ hds).get hj
                rw [ed] at ed'
                cases ed'
                exact hd'
              refine ⟨x, rfl, _, x, d, rfl, hd13, fun H14 s14 => ⟨fun _ => False, _, .bool (boardB d), rfl, .bl _, gd_bool _, .bl (boardB d), rfl, fun _ => False, _, .bool (boardB d), rfl, .bl _, gd_bool _, rfl, _, rfl, ?_⟩⟩
              refine iteNS rfl ⟨x, rfl, (· = pn), x, d, rfl, Da.mono (Kp.of s14) _ _ hd13, hg, .str d.shown, rfl, rfl, _, rfl, ?_⟩
              exact iteNS rfl ⟨y6, y7, some (.int (0 + (u : Int))), rfl, s13.trans s14⟩
            · obtain ⟨y6, y7, y10, rfl, s13⟩ := pp
              exact ⟨some x, y6, y7, some (.str d.shown), some (.bl (boardB d)), y10, rfl, s13⟩
          · obtain ⟨y1, y6, y7, y8, y9, y10, rfl, s'⟩ := pp
            exact ⟨y1, some (.int (0 + (i : Int))), some (.ref pn), some (.ref ab), some (.ref L), y6, y7, y8, y9, y10, rfl, (sameOf _ k11).trans s'⟩
      · exact q H2
/-! ### all of it -/
theorem law_all {t6 t4 t4' t3 : Tok} {f : Addr} {fd : FuncData} (F : Fun K "law" "law" s_law f fd) (B : Bi mg) (g6 : mg "MOST_WHEELS" = some (.int 6 t6)) (g4 : mg "MOST_CUPS" = some (.int 4 t4)) (g4' : mg "MOST_STEPS" = some (.int 4 t4')) (g3 : mg "MOST_ENDS" = some (.int 3 t3))
    (d1 : Def K mg "is_whole" s_is_whole ["thing"]) (d2 : Def K mg "is_within" s_is_within ["thing", "least", "most"]) (d3 : Def K mg "has_parts" s_has_parts ["thing", "least", "most"]) (d4 : Def K mg "is_step" s_is_step ["thing", "ends"]) (d5 : Def K mg "is_wheel" s_is_wheel ["thing", "ends"]) (d6 : Def K mg "is_board" s_is_board ["thing"])
    (e1 : Def K mg "_law_cell_at" s__law_cell_at ["_law_script", "_law_k"]) (e2 : Def K mg "_law_pen" s__law_pen ["_law_cell"]) (e3 : Def K mg "_law_draw" s__law_draw ["_law_pen_here", "_law_many"]) (e4 : Def K mg "_law_whole" s__law_whole ["_law_thing"]) (e5 : Def K mg "_law_within" s__law_within ["_law_thing", "_law_low", "_law_high"])
    (e6 : Def K mg "_law_odd" s__law_odd ["_law_pen_here"]) (e7 : Def K mg "_law_board" s__law_board ["_law_pen_here", "_law_most"]) (e8 : Def K mg "_law_bent" s__law_bent ["_law_pen_here", "_law_thing", "_law_deep"]) (e9 : Def K mg "_law_is_wheel" s__law_is_wheel ["_law_thing", "_law_ends"])
    (e10 : Def K mg "_law_is_board" s__law_is_board ["_law_thing"]) (e11 : Def K mg "_law_fixed" s__law_fixed []) : FnG P w K mg base 10 f fd ["_law_script"] (spLaw K) := by
  have c1 := ok_is_whole (P := P) (w := w) (base := base) (k := 0) d1 B
  have c2 := ok_is_within (k := 1) d2 c1
  have c3 := ok_has_parts (P := P) (w := w) (base := base) (k := 1) d3 B
  have c4 := ok_is_step (k := 2) d4 B g3 c2 c3
  have c5 := ok_is_wheel (k := 3) d5 B g4' c4 (c3.mono (by decide))
  have c6 := ok_is_board (k := 4) d6 B g6 g4 c5 (c2.mono (by decide)) (c3.mono (by decide))
  have f1 := ok_cell_at (P := P) (w := w) (base := base) (k := 0) e1 B
  have f2 := ok_pen (P := P) (w := w) (base := base) (k := 0) e2 B
  have f3 := ok_draw (P := P) (w := w) (base := base) (k := 0) e3 B
  have f4 := ok_whole (P := P) (w := w) (base := base) (k := 0) e4 B
  have f5 := ok_within (k := 1) e5 f4
  have f6 := ok_odd (k := 1) e6 B f3
  have f7 := ok_board (k := 1) e7 B f3
  have f9 := ok_is_wheel' (k := 2) e9 B f5
  have f10 := ok_is_board' (k := 3) e10 B f9 (f5.mono (by decide))
  have f11 := ok_fixed (P := P) (w := w) (base := base) (k := 0) e11 B
  have never : Cal P w K mg base 2 "_law_bent" ["_law_pen_here", "_law_thing", "_law_deep"] (fun _ _ _ _ => False) := by
    obtain ⟨a, b, F', hm, hb⟩ := e8
    exact ⟨a, b, ⟨fun _ _ _ _ z => z.elim, fun _ _ _ _ _ _ _ _ _ _ _ _ _ z => z.elim⟩, hm, F'.kp, hb⟩
  have bent : ∀ n : Nat, Cal P w K mg base (n + 3) "_law_bent" ["_law_pen_here", "_law_thing", "_law_deep"] (spBent n) := by
    intro n
    induction n with
    | zero => exact ok_bent (k := 2) 0 (fun n' z => absurd z (by omega)) e8 B (f3.mono (by decide)) f6 (f4.mono (by decide)) never
    | succ n ih => exact ok_bent (k := n + 3) (n + 1) (fun n' z vs H Q E h => by cases z; exact h) e8 B (f3.mono (by omega)) (f6.mono (by omega)) (f4.mono (by omega)) ih
  exact ok_law (k := 9) F B (c6.mono (by decide)) (f10.mono (by decide)) ((bent 5).mono (by decide)) (f6.mono (by decide)) (f7.mono (by decide)) (f2.mono (by decide)) (f1.mono (by decide)) (f11.mono (by decide))
end
end K01

set_option maxRecDepth 100000
open PySem PySem.W PyProof.Rows
set_option maxHeartbeats 0 in
theorem PySem.Challenge.cw_marblefall_k01_boards_known_holds : PySem.Challenge.rw_marblefall_k01_boards_known.Holds := by
  w_on; o_law; k_head; (case hw => w_witness2)
  k_fill
  refine HX.walk_ofG (l := PySem.Challenge.rw_marblefall_k01_boards_known) (n := 63) (k := 10) (x := "_law_script") (sp := fun w => K01.spLaw _) rfl (by decide) rfl ⟨rfl, by decide, by decide⟩ ?I (fun w h Y => PySem.W.kIn_of Y) ?F (fun _ _ a ns hl _ _ hS => ⟨a, ns, rfl, hS, hl, fun _ => rfl⟩)
  case I => first | rfl | decide +kernel
  case F =>
    intro w mg fa h KX G hmg
    obtain ⟨t_MOST_WHEELS, g_MOST_WHEELS⟩ : ∃ t, mg "MOST_WHEELS" = some (.int 6 t) := by
      refine' HX.gint_mk KX G ?a
      (case a => k_is)
    obtain ⟨t_MOST_CUPS, g_MOST_CUPS⟩ : ∃ t, mg "MOST_CUPS" = some (.int 4 t) := by
      refine' HX.gint_mk KX G ?a
      (case a => k_is)
    obtain ⟨t_MOST_STEPS, g_MOST_STEPS⟩ : ∃ t, mg "MOST_STEPS" = some (.int 4 t) := by
      refine' HX.gint_mk KX G ?a
      (case a => k_is)
    obtain ⟨t_MOST_ENDS, g_MOST_ENDS⟩ : ∃ t, mg "MOST_ENDS" = some (.int 3 t) := by
      refine' HX.gint_mk KX G ?a
      (case a => k_is)
    refine' HX.def_cut (x := "is_whole") (st := K01.s_is_whole) (ps := ["thing"]) KX G ?a ?l ?c ?k ?b (fun d_is_whole => ?z_is_whole)
    (case a => k_is); (case l => k_is); (case c => k_is); (case k => k_is); (case b => exact fun _ _ _ _ _ _ us hl => match us, hl with | [_], _ => rfl)
    refine' HX.def_cut (x := "is_within") (st := K01.s_is_within) (ps := ["thing", "least", "most"]) KX G ?a ?l ?c ?k ?b (fun d_is_within => ?z_is_within)
    (case a => k_is); (case l => k_is); (case c => k_is); (case k => k_is); (case b => exact fun _ _ _ _ _ _ us hl => match us, hl with | [_, _, _], _ => rfl)
    refine' HX.def_cut (x := "has_parts") (st := K01.s_has_parts) (ps := ["thing", "least", "most"]) KX G ?a ?l ?c ?k ?b (fun d_has_parts => ?z_has_parts)
    (case a => k_is); (case l => k_is); (case c => k_is); (case k => k_is); (case b => exact fun _ _ _ _ _ _ us hl => match us, hl with | [_, _, _], _ => rfl)
    refine' HX.def_cut (x := "is_step") (st := K01.s_is_step) (ps := ["thing", "ends"]) KX G ?a ?l ?c ?k ?b (fun d_is_step => ?z_is_step)
    (case a => k_is); (case l => k_is); (case c => k_is); (case k => k_is); (case b => exact fun _ _ _ _ _ _ us hl => match us, hl with | [_, _], _ => rfl)
    refine' HX.def_cut (x := "is_wheel") (st := K01.s_is_wheel) (ps := ["thing", "ends"]) KX G ?a ?l ?c ?k ?b (fun d_is_wheel => ?z_is_wheel)
    (case a => k_is); (case l => k_is); (case c => k_is); (case k => k_is); (case b => exact fun _ _ _ _ _ _ us hl => match us, hl with | [_, _], _ => rfl)
    refine' HX.def_cut (x := "is_board") (st := K01.s_is_board) (ps := ["thing"]) KX G ?a ?l ?c ?k ?b (fun d_is_board => ?z_is_board)
    (case a => k_is); (case l => k_is); (case c => k_is); (case k => k_is); (case b => exact fun _ _ _ _ _ _ us hl => match us, hl with | [_], _ => rfl)
    refine' HX.def_cut (x := "_law_cell_at") (st := K01.s__law_cell_at) (ps := ["_law_script", "_law_k"]) KX G ?a ?l ?c ?k ?b (fun d__law_cell_at => ?z__law_cell_at)
    (case a => k_is); (case l => k_is); (case c => k_is); (case k => k_is); (case b => exact fun _ _ _ _ _ _ us hl => match us, hl with | [_, _], _ => rfl)
    refine' HX.def_cut (x := "_law_pen") (st := K01.s__law_pen) (ps := ["_law_cell"]) KX G ?a ?l ?c ?k ?b (fun d__law_pen => ?z__law_pen)
    (case a => k_is); (case l => k_is); (case c => k_is); (case k => k_is); (case b => exact fun _ _ _ _ _ _ us hl => match us, hl with | [_], _ => rfl)
    refine' HX.def_cut (x := "_law_draw") (st := K01.s__law_draw) (ps := ["_law_pen_here", "_law_many"]) KX G ?a ?l ?c ?k ?b (fun d__law_draw => ?z__law_draw)
    (case a => k_is); (case l => k_is); (case c => k_is); (case k => k_is); (case b => exact fun _ _ _ _ _ _ us hl => match us, hl with | [_, _], _ => rfl)
    refine' HX.def_cut (x := "_law_whole") (st := K01.s__law_whole) (ps := ["_law_thing"]) KX G ?a ?l ?c ?k ?b (fun d__law_whole => ?z__law_whole)
    (case a => k_is); (case l => k_is); (case c => k_is); (case k => k_is); (case b => exact fun _ _ _ _ _ _ us hl => match us, hl with | [_], _ => rfl)
    refine' HX.def_cut (x := "_law_within") (st := K01.s__law_within) (ps := ["_law_thing", "_law_low", "_law_high"]) KX G ?a ?l ?c ?k ?b (fun d__law_within => ?z__law_within)
    (case a => k_is); (case l => k_is); (case c => k_is); (case k => k_is); (case b => exact fun _ _ _ _ _ _ us hl => match us, hl with | [_, _, _], _ => rfl)
    refine' HX.def_cut (x := "_law_odd") (st := K01.s__law_odd) (ps := ["_law_pen_here"]) KX G ?a ?l ?c ?k ?b (fun d__law_odd => ?z__law_odd)
    (case a => k_is); (case l => k_is); (case c => k_is); (case k => k_is); (case b => exact fun _ _ _ _ _ _ us hl => match us, hl with | [_], _ => rfl)
    refine' HX.def_cut (x := "_law_board") (st := K01.s__law_board) (ps := ["_law_pen_here", "_law_most"]) KX G ?a ?l ?c ?k ?b (fun d__law_board => ?z__law_board)
    (case a => k_is); (case l => k_is); (case c => k_is); (case k => k_is); (case b => exact fun _ _ _ _ _ _ us hl => match us, hl with | [_, _], _ => rfl)
    refine' HX.def_cut (x := "_law_bent") (st := K01.s__law_bent) (ps := ["_law_pen_here", "_law_thing", "_law_deep"]) KX G ?a ?l ?c ?k ?b (fun d__law_bent => ?z__law_bent)
    (case a => k_is); (case l => k_is); (case c => k_is); (case k => k_is); (case b => exact fun _ _ _ _ _ _ us hl => match us, hl with | [_, _, _], _ => rfl)
    refine' HX.def_cut (x := "_law_is_wheel") (st := K01.s__law_is_wheel) (ps := ["_law_thing", "_law_ends"]) KX G ?a ?l ?c ?k ?b (fun d__law_is_wheel => ?z__law_is_wheel)
    (case a => k_is); (case l => k_is); (case c => k_is); (case k => k_is); (case b => exact fun _ _ _ _ _ _ us hl => match us, hl with | [_, _], _ => rfl)
    refine' HX.def_cut (x := "_law_is_board") (st := K01.s__law_is_board) (ps := ["_law_thing"]) KX G ?a ?l ?c ?k ?b (fun d__law_is_board => ?z__law_is_board)
    (case a => k_is); (case l => k_is); (case c => k_is); (case k => k_is); (case b => exact fun _ _ _ _ _ _ us hl => match us, hl with | [_], _ => rfl)
    refine' HX.def_cut (x := "_law_fixed") (st := K01.s__law_fixed) (ps := []) KX G ?a ?l ?c ?k ?b (fun d__law_fixed => ?z__law_fixed)
    (case a => k_is); (case l => k_is); (case c => k_is); (case k => k_is); (case b => exact fun _ _ _ _ _ _ us hl => match us, hl with | [], _ => rfl)
    refine' HX.def_cut (x := "law") (st := K01.s_law) (ps := ["_law_script"]) KX G ?a ?l ?c ?k ?b (fun d_law => ?z_law)
    (case a => k_is); (case l => k_is); (case c => k_is); (case k => k_is); (case b => exact fun _ _ _ _ _ _ us hl => match us, hl with | [_], _ => rfl)
    have z_len : mg "len" = none := by
      refine' PySem.W.mg_none_of KX G ?a
      (case a => k_is)
    have z_isinstance : mg "isinstance" = none := by
      refine' PySem.W.mg_none_of KX G ?a
      (case a => k_is)
    have z_int : mg "int" = none := by
      refine' PySem.W.mg_none_of KX G ?a
      (case a => k_is)
    have z_bool : mg "bool" = none := by
      refine' PySem.W.mg_none_of KX G ?a
      (case a => k_is)
    have z_tuple : mg "tuple" = none := by
      refine' PySem.W.mg_none_of KX G ?a
      (case a => k_is)
    have z_list : mg "list" = none := by
      refine' PySem.W.mg_none_of KX G ?a
      (case a => k_is)
    have z_all : mg "all" = none := by
      refine' PySem.W.mg_none_of KX G ?a
      (case a => k_is)
    have z_range : mg "range" = none := by
      refine' PySem.W.mg_none_of KX G ?a
      (case a => k_is)
    have z_max : mg "max" = none := by
      refine' PySem.W.mg_none_of KX G ?a
      (case a => k_is)
    have z_min : mg "min" = none := by
      refine' PySem.W.mg_none_of KX G ?a
      (case a => k_is)
    have z_repr : mg "repr" = none := by
      refine' PySem.W.mg_none_of KX G ?a
      (case a => k_is)
    have B : HX.Bi mg := ⟨z_len, z_isinstance, z_int, z_bool, z_tuple, z_list, z_all, z_range, z_max, z_min, z_repr⟩
    obtain ⟨f, fd, F, hm, hb⟩ := d_law
    have e := hmg.symm.trans hm
    cases e
    refine ⟨fd, fun s u hK => hb s [u] hK rfl, fun base hKb hG => ?_⟩
    exact K01.law_all F B g_MOST_WHEELS g_MOST_CUPS g_MOST_STEPS g_MOST_ENDS d_is_whole d_is_within d_has_parts d_is_step d_is_wheel d_is_board d__law_cell_at d__law_pen d__law_draw d__law_whole d__law_within d__law_odd d__law_board d__law_bent d__law_is_wheel d__law_is_board d__law_fixed

