import PyProof.Rows.All
import Wide.All
import OpenK.AllK
import Wide.FinOn
import HandS.ForMost
import HandS.Wide
import HandS.IsInst
import HandS.TupAny
import HandS.TupMul
import HandS.EndBits
import HandS.Flow
import HandS.Zip
import HandS.Style
import PyProof.ReprRoads
import HandS.Walk
import KE.GoesNew
import KE.GoesEnum
import HandS.SetFor
import KE.KTupSum
import KE.GoesMore
import HandS.NoneIn
import HandS.Strs
import HandS.Lambda
import HandS.ExcOwn
import HandS.ExcIs
import HandS.HotCalls
import HandS.WordsExc
import HandS.EndTab
import KE.KNest
import HandS.Deep
import KE.RegKTryMore
import KE.RegKIsAll
import PySem.Challenge.RW_marblefall_k04_rows_told
set_option Elab.async false
set_option linter.all false
set_option maxRecDepth 100000
set_option maxHeartbeats 4000000
namespace HX
open PySem PySem.Spec PyProof.Rows L2

/-! ### a def of the text by its name: where it stands; what it promises -/
def Def (K : PySem.W.Frag) (mg : Str → Option Value) (x : Str) (st : Stmt) (ps : List Str) : Prop :=
  ∃ (f : Addr) (fd : FuncData), Fun K x x st f fd ∧ mg x = some (.ref f) ∧ Binds K fd ps []
def Cal (P : Program) (w : World) (K : PySem.W.Frag) (mg : Str → Option Value) (base : Heap) (k : Nat) (x : Str) (ps : List Str) (sp : Sp) : Prop :=
  ∃ (f : Addr) (fd : FuncData), FnOk P w K mg base CX0 k f fd ps sp ∧ mg x = some (.ref f) ∧ PySem.W.keepIn K (.ref f) = true ∧ Binds K fd ps []
section
variable {P : Program} {w : World} {K : PySem.W.Frag} {mg : Str → Option Value} {base : Heap} {j k : Nat} {x : Str} {ps : List Str} {sp sp' : Sp}
theorem Cal.mono (c : Cal P w K mg base j x ps sp) (h : j ≤ k) : Cal P w K mg base k x ps sp := by
  obtain ⟨f, fd, F, a, b, d⟩ := c
  exact ⟨f, fd, F.mono h, a, b, d⟩
theorem Cal.imp (c : Cal P w K mg base k x ps sp) (h : ∀ vs H Q E, sp' vs H Q E → sp vs H Q E) : Cal P w K mg base k x ps sp' := by
  obtain ⟨f, fd, F, a, b, d⟩ := c
  exact ⟨f, fd, F.imp h, a, b, d⟩
theorem Def.ok {st : Stmt} {N : List Str} (D : Def K mg x st ps) (S : FnScope N ps (defScope st)) (len : ∀ vs H Q E, sp vs H Q E → vs.length = ps.length)
    (hbody : ∀ (f : Addr) (cdv : Value) (A : Around) (outer : List Env) (s : Shared) (H : Hp) (vs : List V) (Q : VK) (E : XK), Room k (A.deeper (envOfC x (defScope st) s.heap.objs.size f cdv)) → sp vs H Q E →
      ∃ t, PSs (cxOf CX0 P w K mg base N x (defScope st) f cdv A outer s H E).nox (defBody st) t ∧ t { nx := fun _ H' => Q .non H', rt := Q } (start N vs) H) : Cal P w K mg base (k + 1) x ps sp := by
  obtain ⟨f, fd, F, hm, hb⟩ := D
  exact ⟨f, fd, F.ok S len (hbody f), hm, F.kp, hb⟩
end
section
variable {X : Cx} {k : Nat} {x : Str} {ps : List Str} {sp : Sp} {p pos : Pos} {e : Expr} {es : List Expr} {t : TA}
theorem pe_cal (c : Cal X.prog X.w X.K X.mg X.base k x ps sp) (hr : Room k X.A) (hg : Gl X x) (ha : PA X (e :: es) t) (hdb : (x == ("__debug__" : Str)) = false := by decide) (he : starEach (e :: es) X.env = (false, eval e X.env) :: starEach es X.env := by rfl)
    (hpl : (backTo pos (starEach es X.env)).any (·.1) = false := by rfl) : PE X (.Call (.Name x p) (e :: es) [] pos) (tCall sp [] E0 t) := by
  obtain ⟨f, fd, F, hm, hk, hb⟩ := c
  exact pe_call F hr hg hm hk hb .nil pass0 ha hdb he hpl
theorem pe_cal0 (c : Cal X.prog X.w X.K X.mg X.base k x ps sp) (hr : Room k X.A) (hg : Gl X x) (hdb : (x == ("__debug__" : Str)) = false := by decide) : PE X (.Call (.Name x p) [] [] pos) (tCall sp [] E0 tNil) := by
  obtain ⟨f, fd, F, hm, hk, hb⟩ := c
  exact pe_call0 F hr hg hm hk hb .nil pass0 hdb
end

theorem pe_gint {X : Cx} {x : Str} {i : Int} {tk : Tok} {pos : Pos} (hg : Gl X x) (hm : X.mg x = some (.int i tk)) (hd : (x == ("__debug__" : Str)) = false := by decide) : PE X (.Name x pos) (tC (.int i)) := pe_glob hg hm ⟨tk, rfl⟩ hd

/-! ### data of any depth in the tracked heap; N: what may be changed meanwhile -/
mutual
inductive Da (N : Addr → Prop) (H : Hp) : V → PyData → Prop
  | non : Da N H .non .none
  | bl (b : Bool) : Da N H (.bl b) (.bool b)
  | int (i : Int) : Da N H (.int i) (.int i)
  | str (x : Str) : Da N H (.str x) (.str x)
  | lst {a : Addr} {xs : List V} {ds : List PyData} : H a = some (.lst xs) → ¬ N a → DaAll N H xs ds → Da N H (.ref a) (.list ds)
  | tup {a : Addr} {xs : List V} {ds : List PyData} : H a = some (.tup xs) → ¬ N a → DaAll N H xs ds → Da N H (.ref a) (.tuple ds)
  | dct {a : Addr} {kvs : List (Key × V)} {ds : List (PyData × PyData)} : H a = some (.dK kvs) → ¬ N a → DaAll N H (kvs.map fun p => kV p.1) (ds.map (·.1)) → DaAll N H (kvs.map (·.2)) (ds.map (·.2)) → Da N H (.ref a) (.dict ds)
inductive DaAll (N : Addr → Prop) (H : Hp) : List V → List PyData → Prop
  | nil : DaAll N H [] []
  | cons {v : V} {vs : List V} {d : PyData} {ds : List PyData} : Da N H v d → DaAll N H vs ds → DaAll N H (v :: vs) (d :: ds)
end
/-- all that was tracked, but what N may change, is as it was -/
def Kp (N : Addr → Prop) (H H' : Hp) : Prop := ∀ b o, H b = some o → ¬ N b → H' b = some o
theorem Kp.refl {N : Addr → Prop} (H : Hp) : Kp N H H := fun _ _ h _ => h
theorem Kp.trans {N : Addr → Prop} {H H1 H2 : Hp} (a : Kp N H H1) (b : Kp N H1 H2) : Kp N H H2 := fun c o h n => b c o (a c o h n) n
theorem Kp.of {N : Addr → Prop} {H H1 : Hp} (a : Same H H1) : Kp N H H1 := fun c o h _ => a c o h
theorem Same.new {H : Hp} {p : Addr} {o : HO} (h : H p = none) : Same H (upd H p o) := fun b x e => by
  rw [upd_ne (ne_of_none e h)]
  exact e
theorem Kp.new {N : Addr → Prop} {H : Hp} {p : Addr} {o : HO} (h : H p = none) : Kp N H (upd H p o) := Kp.of (Same.new h)
theorem Kp.put {N : Addr → Prop} {H : Hp} {p : Addr} {o : HO} (h : N p) : Kp N H (upd H p o) := fun b x e nb => by
  rw [upd_ne (fun z => nb (by rw [z]; exact h))]
  exact e
mutual
theorem Da.mono {N : Addr → Prop} {H H' : Hp} (k : Kp N H H') : ∀ (d : PyData) (v : V), Da N H v d → Da N H' v d
  | .none, _, h => by cases h; exact .non
  | .bool b, _, h => by cases h; exact .bl b
  | .int i, _, h => by cases h; exact .int i
  | .str x, _, h => by cases h; exact .str x
  | .list ds, _, h => by
    cases h with
    | lst e n ha => exact .lst (k _ _ e n) n (DaAll.mono k ds _ ha)
  | .tuple ds, _, h => by
    cases h with
    | tup e n ha => exact .tup (k _ _ e n) n (DaAll.mono k ds _ ha)
  | .dict ds, _, h => by
    cases h with
    | dct e n h1 h2 => exact .dct (k _ _ e n) n (DaAll.monoK k ds _ h1) (DaAll.monoV k ds _ h2)
theorem DaAll.mono {N : Addr → Prop} {H H' : Hp} (k : Kp N H H') : ∀ (ds : List PyData) (vs : List V), DaAll N H vs ds → DaAll N H' vs ds
  | [], _, h => by cases h; exact .nil
  | d :: ds, _, h => by
    cases h with
    | cons h1 h2 => exact .cons (Da.mono k d _ h1) (DaAll.mono k ds _ h2)
theorem DaAll.monoK {N : Addr → Prop} {H H' : Hp} (k : Kp N H H') : ∀ (ds : List (PyData × PyData)) (vs : List V), DaAll N H vs (ds.map (·.1)) → DaAll N H' vs (ds.map (·.1))
  | [], _, h => by cases h; exact .nil
  | (a, b) :: ds, _, h => by
    cases h with
    | cons h1 h2 => exact .cons (Da.mono k a _ h1) (DaAll.monoK k ds _ h2)
theorem DaAll.monoV {N : Addr → Prop} {H H' : Hp} (k : Kp N H H') : ∀ (ds : List (PyData × PyData)) (vs : List V), DaAll N H vs (ds.map (·.2)) → DaAll N H' vs (ds.map (·.2))
  | [], _, h => by cases h; exact .nil
  | (a, b) :: ds, _, h => by
    cases h with
    | cons h1 h2 => exact .cons (Da.mono k b _ h1) (DaAll.monoV k ds _ h2)
end
theorem DaAll.len {N : Addr → Prop} {H : Hp} : ∀ {vs : List V} {ds : List PyData}, DaAll N H vs ds → vs.length = ds.length
  | _, _, .nil => rfl
  | _, _, .cons _ t => by rw [List.length_cons, List.length_cons, DaAll.len t]
theorem DaAll.get {N : Addr → Prop} {H : Hp} : ∀ {vs : List V} {ds : List PyData} {i : Nat} {v : V}, DaAll N H vs ds → vs[i]? = some v → ∃ d, ds[i]? = some d ∧ Da N H v d
  | _, _, _, _, .nil, e => by simp at e
  | _, _, 0, _, .cons h _, e => by
    have e' := Option.some.inj e
    exact ⟨_, rfl, e' ▸ h⟩
  | _, _, i + 1, _, .cons _ t, e => by
    obtain ⟨d, h1, h2⟩ := DaAll.get (i := i) t (by simpa using e)
    exact ⟨d, by simpa using h1, h2⟩
theorem DaAll.append {N : Addr → Prop} {H : Hp} : ∀ {vs us : List V} {ds es : List PyData}, DaAll N H vs ds → DaAll N H us es → DaAll N H (vs ++ us) (ds ++ es)
  | _, _, _, _, .nil, s => s
  | _, _, _, _, .cons r t, s => .cons r (DaAll.append t s)
theorem DaAll.take {N : Addr → Prop} {H : Hp} : ∀ {vs : List V} {ds : List PyData} (n : Nat), DaAll N H vs ds → DaAll N H (vs.take n) (ds.take n)
  | _, _, 0, _ => .nil
  | _, _, _ + 1, .nil => .nil
  | _, _, n + 1, .cons r t => .cons r (DaAll.take n t)
theorem DaAll.drop {N : Addr → Prop} {H : Hp} : ∀ {vs : List V} {ds : List PyData} (n : Nat), DaAll N H vs ds → DaAll N H (vs.drop n) (ds.drop n)
  | _, _, 0, r => r
  | _, _, _ + 1, .nil => .nil
  | _, _, n + 1, .cons _ t => DaAll.drop n t
theorem DaAll.reverse {N : Addr → Prop} {H : Hp} : ∀ {vs : List V} {ds : List PyData}, DaAll N H vs ds → DaAll N H vs.reverse ds.reverse
  | _, _, .nil => .nil
  | _, _, .cons r t => by
    rw [List.reverse_cons, List.reverse_cons]
    exact DaAll.append (DaAll.reverse t) (.cons r .nil)
/-- its built-in type -/
def tyN : PyData → String
  | .none => "NoneType"
  | .bool _ => "bool"
  | .int _ => "int"
  | .str _ => "str"
  | .list _ => "list"
  | .tuple _ => "tuple"
  | .dict _ => "dict"
theorem Da.ty {K : PySem.W.Frag} {N : Addr → Prop} {H : Hp} {v : V} {d : PyData} (h : Da N H v d) : TyX K H v (.type (tyN d)) := by
  cases h with
  | non => exact .base .non
  | bl b => exact .base (.bl b)
  | int i => exact .base (.int i)
  | str x => exact .base (.str x)
  | lst e _ _ => exact .base (.lst e)
  | tup e _ _ => exact .base (.tup e)
  | dct e _ _ _ => exact .base (.dK e)
theorem Da.tupOf {N : Addr → Prop} {H : Hp} {v : V} {ds : List PyData} (h : Da N H v (.tuple ds)) : ∃ a xs, v = .ref a ∧ H a = some (.tup xs) ∧ ¬ N a ∧ DaAll N H xs ds := by
  cases h with
  | tup e n ha => exact ⟨_, _, rfl, e, n, ha⟩
theorem Da.intOf {N : Addr → Prop} {H : Hp} {v : V} {i : Int} (h : Da N H v (.int i)) : v = .int i := by
  cases h
  rfl

/-! ### the names of built-ins that no law and no module binds -/
structure Bi (mg : Str → Option Value) : Prop where
  len_ : mg "len" = none
  isinstance_ : mg "isinstance" = none
  int_ : mg "int" = none
  bool_ : mg "bool" = none
  tuple_ : mg "tuple" = none
  list_ : mg "list" = none
  all_ : mg "all" = none
  range_ : mg "range" = none
  max_ : mg "max" = none
  min_ : mg "min" = none
  repr_ : mg "repr" = none

/-! ### all([e for x in t]), e a truth that leaves the heap as it was -/
theorem tYes_eq {σ : L2.St} {H : Hp} {Q : Bool → Hp → Prop} (h : Q true H) : tYes σ H Q := h
theorem wipe1 {σ : L2.St} {j : Nat} (x : V) : wipe ((wipe σ [j]).set j (some x)) [j] = wipe σ [j] := by
  show ((σ.set j none).set j (some x)).set j none = σ.set j none
  rw [List.set_set, List.set_set]
theorem read_all {K : PySem.W.Frag} {N : Addr → Prop} {σ : L2.St} {H : Hp} {Q : VK} {i j : Nat} {te : TE} {a : Addr} {xs : List V} {ds : List PyData} (p : PyData → Bool)
    (hs : σ[i]? = some (some (.ref a))) (hx : H a = some (.tup xs)) (hd : DaAll N H xs ds) (hz : ds.length ≤ 1000)
    (ht : ∀ (x : V) (d : PyData) (H' : Hp), Same H H' → Da N H' x d → ∀ Q' : VK, (∀ H2, Same H' H2 → Q' (.bl (p d)) H2) → te ((wipe σ [j]).set j (some x)) H' Q')
    (q : ∀ H', Same H H' → Q (.bl (ds.all p)) H') : tCB (rAll K) (tCons (tLc (iTup K (tVar i)) (gName j) tYes te [j]) tNil) σ H Q := by
  refine ⟨.ref a, hs, a, rfl, ⟨xs, .inl (.inl hx)⟩, fun D hD => ?_⟩
  have hlen : xs.length = ds.length := hd.len
  refine lc_tup (xs := xs) (fun i H' => Same H H' ∧ H' D = some (.lst ((ds.take i).map fun d => V.bl (p d)))) ⟨Same.new hD, ?_⟩ (fun i H' _ h => .inl (.inl (h.1 _ _ hx))) (fun i x H' hi h => ?_) (fun H' h => ?_)
  · rw [upd_same]
    rfl
  · obtain ⟨d, e1, e2⟩ := (DaAll.mono (Kp.of h.1) _ _ hd).get hi
    refine ⟨wipe1 x, ?_⟩
    refine tYes_eq (iteT (ht x d H' h.1 e2 _ fun H2 s2 => ?_))
    refine ⟨_, s2 _ _ h.2, ?_, fun b o e => ?_, ?_⟩
    · rw [List.length_map, List.length_take]
      exact small1000 (by omega)
    · rw [upd_ne (ne_of_none e hD)]
      exact s2 _ _ (h.1 _ _ e)
    · rw [upd_same, List.take_add_one, e1, List.map_append]
      rfl
  · refine ⟨D, ds.map p, rfl, .inl (.inl ?_), ?_⟩
    · rw [h.2, hlen, List.take_length, List.map_map]
      rfl
    · rw [List.all_map]
      exact q H' h.1
end HX

set_option maxRecDepth 100000
set_option maxHeartbeats 4000000
namespace HX
open PySem PySem.Spec PyProof.Rows L2
/-! ### t[::-1] of a tuple -/
theorem adjust_rev (n : Nat) : Builtin.Slice.sliceAdjust none none (-1) (n : Int) = ((n : Int) - 1, -1) := rfl
theorem places_rev (n : Nat) : Builtin.Slice.slicePlaces ((n : Int) - 1) (-1) (-1) = n := by
  unfold Builtin.Slice.slicePlaces
  rw [if_neg (by decide)]
  show (if (n : Int) - 1 > -1 then ((n : Int) - 1 - -1 - 1) / 1 + 1 else 0).toNat = n
  rw [Int.ediv_one]
  split <;> omega
theorem pick_rev (xs : List Value) : ((List.range xs.length).filterMap fun (k : Nat) => xs.toArray[(((xs.length : Int) - 1) + (k : Int) * -1).toNat]?) = xs.reverse := by
  have e : (fun (k : Nat) => xs.toArray[(((xs.length : Int) - 1) + (k : Int) * -1).toNat]?) = fun k => xs[xs.length - 1 - k]? := by
    funext k
    rw [List.getElem?_toArray]
    congr 1
    omega
  rw [e]
  refine List.ext_getElem? fun i => ?_
  have h1 : ∀ (m : Nat), m ≤ xs.length → ((List.range m).filterMap fun k => xs[xs.length - 1 - k]?) = (List.range m).map fun k => (xs[xs.length - 1 - k]?).getD .none := by
    intro m
    induction m with
    | zero => intro _; rfl
    | succ m ih =>
      intro hm
      rw [List.range_succ, List.filterMap_append, List.map_append, ih (by omega)]
      congr 1
      have hb : xs.length - 1 - m < xs.length := by omega
      simp [List.getElem?_eq_getElem hb]
  rw [h1 _ (Nat.le_refl _)]
  by_cases hi : i < xs.length
  · rw [List.getElem?_map, List.getElem?_range hi, List.getElem?_reverse hi]
    have hb : xs.length - 1 - i < xs.length := by omega
    simp [List.getElem?_eq_getElem hb]
  · rw [List.getElem?_eq_none (by simp; omega), List.getElem?_eq_none (by simp; omega)]
section
variable {prog : Program} {w : World} {A : Around} {E : Value → Shared → Prop} {s : Shared}
theorem sliceApplied_rev {sl : Addr} {vl vu vs : Value} {n : Nat} {Q : Int × Int × Nat → Shared → Prop} (hs : s.heap.IsSliceOf sl vl vu vs) (pl : IsPart vl none) (pu : IsPart vu none) (ps : IsPart vs (some (-1)))
    (h : Q ((n : Int) - 1, -1, n) s) : wpAny (model prog w) A (Builtin.Slice.sliceApplied (.ref sl) (pure (n : Int))) Q E s := by
  obtain ⟨os, hos, hcs, hds⟩ := id hs
  unfold Builtin.Slice.sliceApplied Builtin.Slice.sliceFields
  refine wpAny_bind (wpAny_bind (wpAny_field hos hds (x := vl) rfl (wpAny_bind (wpAny_field hos hds (x := vu) rfl (wpAny_bind (wpAny_field hos hds (x := vs) rfl (wpAny_pure ?_)))))))
  refine wpAny_bind (HT.slicePart_ ps ?_)
  show wpAny _ _ (if ((-1 : Int) == 0) = true then _ else _) _ _ s
  rw [if_neg (by decide)]
  refine wpAny_bind (HT.slicePart_ pl (wpAny_bind (HT.slicePart_ pu (wpAny_bind (wpAny_pure ?_)))))
  show wpAny _ _ (pure ((n : Int) - 1, (-1 : Int), Builtin.Slice.slicePlaces ((n : Int) - 1) (-1) (-1))) _ _ s
  rw [places_rev]
  exact wpAny_pure h
theorem getItem_tuple_rev {t sl : Addr} {its : List Value} {vl vu vs : Value} {Q : Value → Shared → Prop} (ht : IsTup s.heap t its.toArray) (hs : s.heap.IsSliceOf sl vl vu vs) (pl : IsPart vl none) (pu : IsPart vu none) (ps : IsPart vs (some (-1)))
    (h : Q (.ref s.heap.objs.size) { s with heap := s.heap.push { cls := .type "tuple", data := .seq its.reverse.toArray } }) (hsz : its.length ≤ sizeLine) : wpAny (model prog w) A (getItem (.ref t) (.ref sl)) Q E s := by
  have htake : sizeOk (.seq its.reverse.toArray) := by
    show its.reverse.toArray.size ≤ sizeLine
    rw [List.size_toArray, List.length_reverse]
    exact hsz
  obtain ⟨os, hos, hcs, hds⟩ := id hs
  have hTs : s.TypeIs (.ref sl) "slice" := ⟨os, hos, hcs⟩
  unfold getItem
  try with_reducible refine wpAny_holding ?_
  first | refine wpAny_bind (wpAny_pure ?_) | skip
  refine wpAny_bind (wpAny_sequenceKey ht.typeIs (by decide) ?_)
  refine wpAny_bind (wpAny_callSpecial?_slot (name := Str.ofString "__getitem__") ht.typeIs PyProof.Rows.slot_tuple_getitem
    (wpAny_call_entry PyProof.Rows.slot_tuple_getitem ht.typeIs entry_tuple_getitem ?_ (args_tuple_getitem _ _)))
  show wpAny _ _ (Builtin.Tuple.tupleItemsOf (.ref t) >>= _) _ _ s
  refine wpAny_bind (tupleItemsOf_ ht ?_)
  refine wpAny_bind (wpAny_typeOf hTs ?_)
  rw [if_pos (by decide)]
  refine wpAny_bind (sliceApplied_rev (n := its.toArray.size) hs pl pu ps ?_)
  have hno : ¬ ((((its.toArray.size : Nat) : Int) - 1 == 0 && (-1 : Int) == 1 && its.toArray.size == its.toArray.size) = true) := by
    intro q
    rw [Bool.and_eq_true, Bool.and_eq_true] at q
    exact absurd (eq_of_beq q.1.2) (by decide)
  show wpAny _ _ (if (((its.toArray.size : Nat) : Int) - 1 == 0 && (-1 : Int) == 1 && its.toArray.size == its.toArray.size) = true then _ else _) _ _ s
  rw [if_neg hno, List.size_toArray, pick_rev]
  first
    | exact wpAny_bind (m := Builtin.Tuple.tupleExact _) (wpAny_newObj_type (wpAny_pure ⟨_, rfl, wpAny_pure h⟩) htake)
    | exact wpAny_bind (m := Builtin.Tuple.tupleExact _) (wpAny_newObj_type (wpAny_bind (wpAny_pure (wpAny_pure ⟨_, rfl, wpAny_pure h⟩))) htake)
    | exact wpAny_bind (wpAny_bind (m := Builtin.Tuple.tupleExact _) (wpAny_newObj_type (wpAny_pure (wpAny_pure ⟨_, rfl, wpAny_pure h⟩)) htake))
    | exact wpAny_bind (wpAny_bind (m := Builtin.Tuple.tupleExact _) (wpAny_newObj_type (wpAny_pure ⟨_, rfl, wpAny_pure h⟩) htake))
end
section
variable {X : Cx}
def tRevT (K : PySem.W.Frag) (te : TE) : TE := fun σ H Q => te σ H fun x H1 => ∃ a xs, x = .ref a ∧ SqT K H1 a xs ∧ ∀ p, H1 p = none → Q (.ref p) (upd H1 p (.tup xs.reverse))
theorem pe_revT {e : Expr} {te : TE} {k : Nat} {p1 p2 p3 pos : Pos} (he : PE X e te) : PE X (.Subscript e (.Slice none none (some (.UnaryOp .USub (.Constant (.int 1) k p1) p2)) p3) pos) (tRevT X.K te) := by
  refine ⟨fun pins s σ H Q I h => ?_⟩
  refine Subscript_ (thn (he.run pins s σ H _ I h) fun v s1 ⟨x, H1, I1, r1, q1⟩ => ?_)
  obtain ⟨a, xs, ex, hx, q⟩ := q1
  subst ex
  cases r1
  have hst : PO X (some (.UnaryOp .USub (.Constant (.int 1) k p1) p2)) (tPart (tUn (rU fun i => .int (-i)) (tC (.int 1)))) := po_some (pe_un un_neg pe_int)
  refine wpAny_Slice (thn (po_none.run pins s1 σ H1 (fun o H2 => o = none ∧ H2 = H1) I1 ⟨rfl, rfl⟩) fun vl s2 ⟨l, H2, I2, pl, el, e2⟩ => ?_)
  subst el e2
  refine thn (po_none.run pins s2 σ H2 (fun o H3 => o = none ∧ H3 = H2) I2 ⟨rfl, rfl⟩) fun vu s3 ⟨u, H3, I3, pu, eu, e3⟩ => ?_
  subst eu e3
  refine thn (hst.run pins s3 σ H3 (fun o H4 => o = some (-1) ∧ H4 = H3) I3 ⟨1, rfl, -1, rfl, rfl, rfl⟩) fun vs s4 ⟨o, H4, I4, ps, eo, e4⟩ => ?_
  subst eo e4
  have I5 : Inv X pins σ H4 { s4 with heap := s4.heap.push { cls := .type "slice", data := .fields #[vl, vu, vs] } } := I4.kept (t' := s4.toks) fun b ob q => Heap.get?_push_of_some _ q
  obtain ⟨its, r, ht, hz⟩ := I5.tuple hx
  have hlen := r.length
  show wpAny (model X.prog X.w) X.A (subscriptTail e (.Slice none none (some (.UnaryOp .USub (.Constant (.int 1) k p1) p2)) p3) (.ref a) (.ref s4.heap.objs.size)) (EP X pins σ Q) X.xe { s4 with heap := s4.heap.push { cls := .type "slice", data := .fields #[vl, vu, vs] } }
  refine tail_any (ops := [.ref a, .ref s4.heap.objs.size]) ht.typeIs (PyProof.Rows.slot_tuple_getitem.lookup) ?_ (by with_unfolding_all rfl)
  refine getItem_tuple_rev ht (Heap.IsSliceOf.new _ vl vu vs) pl pu ps ?_ (by omega)
  refine ⟨.ref _, _, I5.laid (t' := s4.toks) (o := .tup xs.reverse) (fun b ob q => Heap.get?_push_of_some _ q) (Nat.le_refl _) ?_, rfl, q _ (I5.hok.fresh (Nat.le_refl _))⟩
  exact ⟨by rw [List.length_reverse]; exact hz, _, r.reverse, ⟨_, Heap.get?_push_size _ rfl, rfl, _, rfl⟩⟩
/-! ### t == () -/
def rEqE (K : PySem.W.Frag) : R2 := fun x y H Q => ∃ a b xs, x = .ref a ∧ y = .ref b ∧ SqT K H a xs ∧ SqT K H b [] ∧ Q (.bl xs.isEmpty) H
theorem op_eqE (hu : X.A.units < cLine) : OpR X (compareOp .Eq) (rEqE X.K) := by
  intro pins s σ H x y v u Q I rx ry h
  obtain ⟨a, b, xs, rfl, rfl, ha, hb, q⟩ := h
  cases rx
  cases ry
  obtain ⟨its, r1, t1, _⟩ := I.tuple ha
  obtain ⟨its2, r2, t2, _⟩ := I.tuple hb
  cases r2
  refine SeqAt.eq_tupleAt (e := fun _ => true) t1 t2 hu (fun j h1 h2 => absurd h2 (by simp)) ?_
  refine ⟨.bl _, H, I, ?_, q⟩
  show _ = Value.bool xs.isEmpty
  congr 1
  cases r1 <;> rfl
end
end HX

set_option maxRecDepth 100000
set_option maxHeartbeats 4000000
namespace HX
open PySem PySem.Spec PyProof.Rows L2
/-! ### calls below which no text of a value is being made (guards), and sys.modules stands untracked -/
structure Ent (A : Around) (s : Shared) (H : Hp) : Prop where
  gu : A.guards = some []
  sm : ∃ o, s.heap.get? sysModules = some o
  hm : H sysModules = none
structure FnG (P : Program) (w : World) (K : PySem.W.Frag) (mg : Str → Option Value) (base : Heap) (k : Nat) (f : Addr) (fd : FuncData) (ps : List Str) (sp : Sp) : Prop where
  len : ∀ vs H Q E, sp vs H Q E → vs.length = ps.length
  run : ∀ (A : Around) (outer : List Env) (s : Shared) (H : Hp) (args : Args) (us : List Value) (vs : List V) (Q : VK) (E : XK), Ent A s H → Room k A → Env0 P w K mg base A outer s H → BindsTo s fd args (ps.zip us) → Vals vs us → sp vs H Q E →
    codeAny (model P w) A (.call (.ref f) args) (CR CX0 outer P w H s Q E) s
section
variable {P : Program} {w : World} {K : PySem.W.Frag} {mg : Str → Option Value} {base : Heap}
theorem Fun.okG {x qual : Str} {st : Stmt} {f : Addr} {fd : FuncData} {N ps : List Str} {k : Nat} {sp : Sp} (F : Fun K x qual st f fd) (S : FnScope N ps (defScope st)) (len : ∀ vs H Q E, sp vs H Q E → vs.length = ps.length)
    (hbody : ∀ (cdv : Value) (A : Around) (outer : List Env) (s : Shared) (H : Hp) (vs : List V) (Q : VK) (E : XK), Ent A s H → Room k (A.deeper (envOfC qual (defScope st) s.heap.objs.size f cdv)) → sp vs H Q E →
      ∃ t, PSs (cxOf CX0 P w K mg base N qual (defScope st) f cdv A outer s H E).nox (defBody st) t ∧ t { nx := fun _ H' => Q .non H', rt := Q } (start N vs) H) : FnG P w K mg base (k + 1) f fd ps sp := by
  obtain ⟨oc, od, kV, doc, pm, an, cdv, ct, osl, rfl, lk, hcd⟩ := F.ex
  refine ⟨len, fun A outer s H args us vs Q E en hr e0 hb r hsp => ?_⟩
  have hl := len _ _ _ _ hsp
  have KX : K.In s.heap := e0.mod.kin.keeps fun b o e => (e0.bs b o e).1
  have lim : s.heap.NoLimit := e0.mod.nolimit.keeps fun b o e => (e0.bs b o e).1
  have hkind : ∀ y ∈ ps.zip us, (defScope st).names.lookup y.1 = some .local ∨ ((defScope st).names.lookup y.1 = some .cell ∧ ((cellsFrom (s.heap.objs.size + 1) (defScope st).names []).lookup y.1).isSome = true) := by
    rintro ⟨n, v⟩ hy
    rcases S.par n (List.of_mem_zip hy).1 with q | q
    · exact .inl q
    · exact .inr ⟨q, PySem.W.cellsFrom_some _ _ _ (.inl q)⟩
  refine codeAny_call_function hr.depth (KX _ _ lk) rfl S.co S.gen rfl (PySem.W.codeRec_of KX hcd) (hb _ _ _ _ ?_)
  refine wpAny_newFunctionEnv_cells S.kind hkind fun env he s1 xx => ?_
  subst he
  refine ⟨lim.keeps xx.toInCall.keep, codeAny_func ?_⟩
  obtain ⟨t, ht, hq⟩ := hbody cdv A outer s H vs Q E en (hr.deeper _) hsp
  have I := inv_start (CX := CX0) (E := E) S hr.hd e0 hl r xx
  refine wpAny_mono (ht.nox.run [] s1 (start N vs) H _ I hq) (fun fl s' hs => ?_) fun e s' hs => hs
  cases fl with
  | ret u =>
    obtain ⟨v, σ', H', J, rv, q⟩ := hs
    exact ⟨v, H', J.os, J.bare, J.base, J.hok, rv, q⟩
  | next =>
    obtain ⟨σ', H', J, q⟩ := hs
    exact ⟨V.non, H', J.os, J.bare, J.base, J.hok, rfl, q⟩
  | brk =>
    obtain ⟨_, _, _, q⟩ := hs
    exact False.elim q
  | cont =>
    obtain ⟨_, _, _, q⟩ := hs
    exact False.elim q
def CalG (P : Program) (w : World) (K : PySem.W.Frag) (mg : Str → Option Value) (base : Heap) (k : Nat) (x : Str) (ps : List Str) (sp : Sp) : Prop :=
  ∃ (f : Addr) (fd : FuncData), FnG P w K mg base k f fd ps sp ∧ mg x = some (.ref f) ∧ PySem.W.keepIn K (.ref f) = true ∧ Binds K fd ps []
theorem CalG.mono {j k : Nat} {x : Str} {ps : List Str} {sp : Sp} (c : CalG P w K mg base j x ps sp) (h : j ≤ k) : CalG P w K mg base k x ps sp := by
  obtain ⟨f, fd, F, a, b, d⟩ := c
  exact ⟨f, fd, ⟨F.len, fun A outer s H args us vs Q E en hr => F.run A outer s H args us vs Q E en (hr.mono h)⟩, a, b, d⟩
theorem Def.okG {k : Nat} {x : Str} {ps : List Str} {sp : Sp} {st : Stmt} {N : List Str} (D : Def K mg x st ps) (S : FnScope N ps (defScope st)) (len : ∀ vs H Q E, sp vs H Q E → vs.length = ps.length)
    (hbody : ∀ (f : Addr) (cdv : Value) (A : Around) (outer : List Env) (s : Shared) (H : Hp) (vs : List V) (Q : VK) (E : XK), Ent A s H → Room k (A.deeper (envOfC x (defScope st) s.heap.objs.size f cdv)) → sp vs H Q E →
      ∃ t, PSs (cxOf CX0 P w K mg base N x (defScope st) f cdv A outer s H E).nox (defBody st) t ∧ t { nx := fun _ H' => Q .non H', rt := Q } (start N vs) H) : CalG P w K mg base (k + 1) x ps sp := by
  obtain ⟨f, fd, F, hm, hb⟩ := D
  exact ⟨f, fd, Fun.okG F S len (hbody f), hm, F.kp, hb⟩
end
/-- a body's context below which nothing is shown -/
structure EntX (X : Cx) : Prop where
  gu : X.A.guards = some []
  sm : ∃ o, X.s_0.heap.get? sysModules = some o
  hm : X.H_0 sysModules = none
  ex : sysModules ∉ X.ex
section
variable {X : Cx} {pins : List (Addr × Obj)} {σ : L2.St} {H : Hp} {s : Shared}
theorem inv_sys (I : Inv X pins σ H s) (e : EntX X) : H sysModules = none ∧ ∃ o, s.heap.get? sysModules = some o := by
  obtain ⟨o, ho⟩ := e.sm
  exact ⟨I.base.free _ o ho e.hm e.ex, I.base.there _ o ho e.ex⟩
theorem pe_calG {k : Nat} {x : Str} {ps : List Str} {sp : Sp} {p pos : Pos} {e : Expr} {es : List Expr} {t : TA} (en : EntX X) (c : CalG X.prog X.w X.K X.mg X.base k x ps sp) (hr : Room k X.A) (hg : Gl X x) (ha : PA X (e :: es) t) (hdb : (x == ("__debug__" : Str)) = false := by decide)
    (he : starEach (e :: es) X.env = (false, eval e X.env) :: starEach es X.env := by rfl) (hpl : (backTo pos (starEach es X.env)).any (·.1) = false := by rfl) : PE X (.Call (.Name x p) (e :: es) [] pos) (tCall sp [] E0 t) := by
  obtain ⟨f, fd, F, hm, hk, hb⟩ := c
  refine ⟨fun pins s σ H Q I h => ?_⟩
  refine wpAny_Call_Name_kw (ld_glob I hg hm ?_ hdb)
  refine PySem.W.callWith_K (h₀ := X.base) I.ok.mod.kin hk (thn (ha.run pos pins s σ H _ I h) fun us s1 ⟨vs, H1, I1, r, q⟩ => ⟨I1.kIn, ?_⟩) he hpl
  have q' : sp vs H1 Q E0 := by
    have q2 : sp (vs ++ []) H1 Q E0 := q
    rw [List.append_nil] at q2
    exact q2
  have hl : us.length = ps.length := by
    rw [← r.length]
    exact F.len _ _ _ _ q'
  obtain ⟨z1, z2⟩ := inv_sys I1 en
  have hb' := hb s1 us I1.kIn (by rw [List.append_nil]; exact hl)
  rw [List.append_nil] at hb'
  refine wpAny_call (codeAny_mono (F.run X.A X.stack s1 H1 ⟨us, []⟩ us vs Q E0 ⟨en.gu, z2, z1⟩ hr I1.env0 hb' r q') fun rr s' hq => ?_)
  cases rr with
  | error e => exact False.elim hq
  | ok fl =>
    cases fl with
    | ret u => exact I1.after hq
    | next => exact False.elim hq
    | brk => exact False.elim hq
    | cont => exact False.elim hq
end
/-! ### data as the model reads it -/
theorem kV_rel {k : Key} {u : Value} (h : keyIs k u = true) : RelV (kV k) u := by
  rcases keyIs_shape h with ⟨i, t, rfl, rfl⟩ | ⟨x, t, rfl, rfl⟩
  · exact ⟨t, rfl⟩
  · exact ⟨t, rfl⟩
theorem pairs_vals {prog : Program} {w : World} {l : List DictEntry} {vs : List (Key × Value)} (hp : Pairs (mixKind prog w) l vs) : ∀ {kvs : List (Key × V)}, KV kvs vs → Vals (kvs.map fun p => kV p.1) (l.map (·.key)) ∧ Vals (kvs.map (·.2)) (l.map (·.val)) := by
  induction hp with
  | nil =>
    intro kvs rv
    cases rv
    exact ⟨.nil, .nil⟩
  | cons hk hv _ ih =>
    intro kvs rv
    cases rv with
    | cons q qs =>
      obtain ⟨i1, i2⟩ := ih qs
      obtain ⟨q1, q2⟩ := q
      refine ⟨.cons ?_ i1, .cons ?_ i2⟩
      · dsimp only
        rw [q1]
        exact kV_rel hk
      · dsimp only
        rw [hv]
        exact q2
section
variable {X : Cx} {pins : List (Addr × Obj)} {σ : L2.St} {H : Hp} {s : Shared} {N : Addr → Prop}
mutual
theorem Da.reads (I : Inv X pins σ H s) : ∀ (d : PyData) (v : V) (u : Value), Da N H v d → RelV v u → ∃ as, Reads s.heap u d as ∧ ∀ a ∈ as, H a ≠ none
  | .none, _, _, h, r => by
    cases h
    cases r
    exact ⟨_, Reads.none, fun _ z => nomatch z⟩
  | .bool b, _, _, h, r => by
    cases h
    cases r
    exact ⟨_, Reads.bool b, fun _ z => nomatch z⟩
  | .int i, _, _, h, r => by
    cases h
    obtain ⟨t, rfl⟩ := r
    exact ⟨_, Reads.int i t, fun _ z => nomatch z⟩
  | .str x, _, _, h, r => by
    cases h
    obtain ⟨t, rfl⟩ := r
    exact ⟨_, Reads.str x t, fun _ z => nomatch z⟩
  | .list ds, _, _, h, r => by
    cases h with
    | @lst a xs _ e _ ha =>
      cases r
      obtain ⟨_, its, n, rv, ho⟩ := I.hok a _ e
      obtain ⟨as, hr, hn⟩ := Da.readsAll I ds _ its ha rv
      refine ⟨_, Reads.list ho rfl rfl (by simpa using hr), fun b hb => ?_⟩
      rcases List.mem_cons.mp hb with rfl | hb
      · rw [e]
        exact fun z => nomatch z
      · exact hn b hb
  | .tuple ds, _, _, h, r => by
    cases h with
    | @tup a xs _ e _ ha =>
      cases r
      obtain ⟨_, its, rv, o, ho, hc, n, hd⟩ := I.hok a _ e
      obtain ⟨as, hr, hn⟩ := Da.readsAll I ds _ its ha rv
      exact ⟨_, Reads.tuple ho hc hd (by simpa using hr), hn⟩
  | .dict ds, _, _, h, r => by
    cases h with
    | @dct a kvs _ e _ h1 h2 =>
      cases r
      obtain ⟨_, _, vs, rv, o, es, ep, ho, hx, hd, _, hp, _⟩ := I.hok a _ e
      have hk := pairs_vals hp rv
      obtain ⟨as, r1, n1⟩ := Da.readsK I ds _ _ h1 hk.1
      obtain ⟨bs, r2, n2⟩ := Da.readsV I ds _ _ h2 hk.2
      refine ⟨_, Reads.dict ho hx.1 hd r1 r2, fun b hb => ?_⟩
      rcases List.mem_append.mp hb with hb | hb
      · rcases List.mem_cons.mp hb with rfl | hb
        · rw [e]
          exact fun z => nomatch z
        · exact n1 b hb
      · exact n2 b hb
theorem Da.readsAll (I : Inv X pins σ H s) : ∀ (ds : List PyData) (vs : List V) (us : List Value), DaAll N H vs ds → Vals vs us → ∃ as, ReadsAll s.heap us ds as ∧ ∀ a ∈ as, H a ≠ none
  | [], _, _, h, r => by
    cases h
    cases r
    exact ⟨_, ReadsAll.nil, fun _ z => nomatch z⟩
  | d :: ds, _, _, h, r => by
    cases h with
    | cons h1 h2 =>
      cases r with
      | cons r1 r2 =>
        obtain ⟨as, q1, n1⟩ := Da.reads I d _ _ h1 r1
        obtain ⟨bs, q2, n2⟩ := Da.readsAll I ds _ _ h2 r2
        exact ⟨_, ReadsAll.cons q1 q2, fun b hb => (List.mem_append.mp hb).elim (n1 b) (n2 b)⟩
theorem Da.readsK (I : Inv X pins σ H s) : ∀ (ds : List (PyData × PyData)) (vs : List V) (us : List Value), DaAll N H vs (ds.map (·.1)) → Vals vs us → ∃ as, ReadsAll s.heap us (ds.map (·.1)) as ∧ ∀ a ∈ as, H a ≠ none
  | [], _, _, h, r => by
    cases h
    cases r
    exact ⟨_, ReadsAll.nil, fun _ z => nomatch z⟩
  | (d, e) :: ds, _, _, h, r => by
    cases h with
    | cons h1 h2 =>
      cases r with
      | cons r1 r2 =>
        obtain ⟨as, q1, n1⟩ := Da.reads I d _ _ h1 r1
        obtain ⟨bs, q2, n2⟩ := Da.readsK I ds _ _ h2 r2
        exact ⟨_, ReadsAll.cons q1 q2, fun b hb => (List.mem_append.mp hb).elim (n1 b) (n2 b)⟩
theorem Da.readsV (I : Inv X pins σ H s) : ∀ (ds : List (PyData × PyData)) (vs : List V) (us : List Value), DaAll N H vs (ds.map (·.2)) → Vals vs us → ∃ as, ReadsAll s.heap us (ds.map (·.2)) as ∧ ∀ a ∈ as, H a ≠ none
  | [], _, _, h, r => by
    cases h
    cases r
    exact ⟨_, ReadsAll.nil, fun _ z => nomatch z⟩
  | (e, d) :: ds, _, _, h, r => by
    cases h with
    | cons h1 h2 =>
      cases r with
      | cons r1 r2 =>
        obtain ⟨as, q1, n1⟩ := Da.reads I d _ _ h1 r1
        obtain ⟨bs, q2, n2⟩ := Da.readsV I ds _ _ h2 r2
        exact ⟨_, ReadsAll.cons q1 q2, fun b hb => (List.mem_append.mp hb).elim (n1 b) (n2 b)⟩
end
end
/-! ### how long its text is, at most -/
mutual
def wt : PyData → Nat
  | .none => 4
  | .bool _ => 5
  | .int _ => 130
  | .str x => (reprText x).length
  | .list ds => 2 + wtAll ds
  | .tuple ds => 3 + wtAll ds
  | .dict ds => 2 + wtKv ds
def wtAll : List PyData → Nat
  | [] => 0
  | d :: ds => wt d + 2 + wtAll ds
def wtKv : List (PyData × PyData) → Nat
  | [] => 0
  | (a, b) :: ds => wt a + wt b + 4 + wtKv ds
end
mutual
/-- its whole numbers lie within b -/
def within (b : Int) : PyData → Prop
  | .none => True
  | .bool _ => True
  | .int i => -b ≤ i ∧ i ≤ b
  | .str _ => True
  | .list ds => withinAll b ds
  | .tuple ds => withinAll b ds
  | .dict ds => withinKv b ds
def withinAll (b : Int) : List PyData → Prop
  | [] => True
  | d :: ds => within b d ∧ withinAll b ds
def withinKv (b : Int) : List (PyData × PyData) → Prop
  | [] => True
  | (x, y) :: ds => within b x ∧ within b y ∧ withinKv b ds
end
theorem textFrom_le : ∀ (ts : List Str) (k : Nat) (acc : Str), (textFrom k acc ts).length ≤ acc.length + piled ts
  | [], _, _ => Nat.le_add_right _ _
  | t :: ts, k, acc => by
    have h := textFrom_le ts (k + 1) (acc ++ (if k > 0 then ", " else "" : String) ++ t)
    have e : (acc ++ (if k > 0 then ", " else "" : String) ++ t).length ≤ acc.length + 2 + t.length := by
      rw [strLen_append, strLen_append]
      have : (Str.ofString (if k > 0 then ", " else "" : String)).length ≤ 2 := by split <;> decide
      omega
    rw [piled_cons]
    show (textFrom (k + 1) _ ts).length ≤ _
    omega
theorem listText_le (ts : List Str) : (listText ts).length ≤ 2 + piled ts := by
  unfold listText
  have h := textFrom_le ts 0 "["
  rw [strLen_append]
  have e1 : (Str.ofString "[").length = 1 := by decide
  have e2 : (Str.ofString "]").length = 1 := by decide
  have h' : (textFrom 0 (Str.ofString "[") ts).length ≤ (Str.ofString "[").length + piled ts := h
  show (textFrom 0 (Str.ofString "[") ts).length + (Str.ofString "]").length ≤ _
  omega
theorem join_le (ts : List Str) : (Str.join ", " ts).length ≤ piled ts := by
  by_cases h : ts = []
  · subst h
    decide
  · have := join_length_add ts h
    omega
theorem tupleText_le (ts : List Str) : (tupleText ts).length ≤ 3 + piled ts := by
  unfold tupleText
  have h := join_le ts
  rw [strLen_append, strLen_append]
  have e1 : (Str.ofString "(").length = 1 := by decide
  have e2 : (Str.ofString (if ts.length == 1 then ",)" else ")" : String)).length ≤ 2 := by split <;> decide
  show (Str.ofString "(").length + (Str.join (Str.ofString ", ") ts).length + (Str.ofString (if ts.length == 1 then ",)" else ")" : String)).length ≤ _
  have h' : (Str.join (Str.ofString ", ") ts).length ≤ piled ts := h
  omega
theorem dictText_le (ts : List Str) : (dictText ts).length ≤ 2 + piled ts := by
  unfold dictText
  have h := join_le ts
  rw [strLen_append, strLen_append]
  have e1 : (Str.ofString "{").length = 1 := by decide
  have e2 : (Str.ofString "}").length = 1 := by decide
  show (Str.ofString "{").length + (Str.join (Str.ofString ", ") ts).length + (Str.ofString "}").length ≤ _
  have h' : (Str.join (Str.ofString ", ") ts).length ≤ piled ts := h
  omega
theorem int_log {i b : Int} (h : -b ≤ i ∧ i ≤ b) (hb : b < 2 ^ 120) : i.natAbs.log2 < 120 := by
  have h1 : i.natAbs < 2 ^ 120 := by omega
  exact PySem.Flt.log2_lt_of (by decide) h1
mutual
theorem shown_le {b : Int} (hb : b < 2 ^ 120) : ∀ d : PyData, within b d → d.shown.length ≤ wt d ∧ d.showable = true
  | .none, _ => by
    simp only [PyData.shown, PyData.showable, wt]
    decide
  | .bool c, _ => by
    cases c <;> (simp only [PyData.shown, PyData.showable, wt]; decide)
  | .int i, h => by
    have h' : -b ≤ i ∧ i ≤ b := by simpa only [within] using h
    have hl := int_log h' hb
    simp only [PyData.shown, PyData.showable, wt]
    have q := int_text_length_le (a := i) (k := 120) (by decide) hl
    refine ⟨?_, decide_eq_true (by omega)⟩
    have e := PySem.ofString_length (toString i)
    show (Str.ofString (toString i)).length ≤ 130
    omega
  | .str x, _ => by
    simp only [PyData.shown, PyData.showable, wt]
    exact ⟨Nat.le_refl _, trivial⟩
  | .list ds, h => by
    have h' : withinAll b ds := by simpa only [within] using h
    obtain ⟨q1, q2⟩ := shownAll_le hb ds h'
    simp only [PyData.shown, PyData.showable, wt]
    have := listText_le (PyData.shownAll ds)
    exact ⟨by omega, q2⟩
  | .tuple ds, h => by
    have h' : withinAll b ds := by simpa only [within] using h
    obtain ⟨q1, q2⟩ := shownAll_le hb ds h'
    simp only [PyData.shown, PyData.showable, wt]
    have := tupleText_le (PyData.shownAll ds)
    exact ⟨by omega, q2⟩
  | .dict ds, h => by
    have h' : withinKv b ds := by simpa only [within] using h
    obtain ⟨q1, q2⟩ := shownKv_le hb ds h'
    simp only [PyData.shown, PyData.showable, wt]
    have := dictText_le (PyData.shownKv ds)
    exact ⟨by omega, q2⟩
theorem shownAll_le {b : Int} (hb : b < 2 ^ 120) : ∀ ds : List PyData, withinAll b ds → piled (PyData.shownAll ds) ≤ wtAll ds ∧ PyData.showableAll ds = true
  | [], _ => by
    simp only [PyData.shownAll, PyData.showableAll, wtAll]
    exact ⟨Nat.le_refl _, trivial⟩
  | d :: ds, h => by
    have h' : within b d ∧ withinAll b ds := by simpa only [withinAll] using h
    obtain ⟨a1, a2⟩ := shown_le hb d h'.1
    obtain ⟨b1, b2⟩ := shownAll_le hb ds h'.2
    simp only [PyData.shownAll, PyData.showableAll, wtAll]
    rw [piled_cons, a2, b2]
    exact ⟨by omega, rfl⟩
theorem shownKv_le {b : Int} (hb : b < 2 ^ 120) : ∀ ds : List (PyData × PyData), withinKv b ds → piled (PyData.shownKv ds) ≤ wtKv ds ∧ PyData.showableKv ds = true
  | [], _ => by
    simp only [PyData.shownKv, PyData.showableKv, wtKv]
    exact ⟨Nat.le_refl _, trivial⟩
  | (x, y) :: ds, h => by
    have h' : within b x ∧ within b y ∧ withinKv b ds := by simpa only [withinKv] using h
    obtain ⟨a1, a2⟩ := shown_le hb x h'.1
    obtain ⟨c1, c2⟩ := shown_le hb y h'.2.1
    obtain ⟨b1, b2⟩ := shownKv_le hb ds h'.2.2
    simp only [PyData.shownKv, PyData.showableKv, wtKv]
    have e : (Str.ofString ": ").length = 2 := by decide
    rw [piled_cons, a2, b2, c2, strLen_append, strLen_append]
    refine ⟨?_, rfl⟩
    show x.shown.length + (Str.ofString ": ").length + y.shown.length + 2 + _ ≤ _
    omega
end
/-- data whose text is made without a fault -/
structure Gd (n e : Nat) (d : PyData) : Prop where
  iw : within 2000000000000 d
  wn : wt d ≤ n
  dp : d.depth ≤ e
/-- repr(x) -/
def rReprD : List V → Hp → VK → Prop := fun xs H Q => ∃ (N : Addr → Prop) (v : V) (d : PyData), xs = [v] ∧ Da N H v d ∧ Gd 16000000 100 d ∧ Q (.str d.shown) H
theorem call_repr {X : Cx} (en : EntX X) (hu : X.A.units + 150 < cLine) : CallR X (.builtin "repr") rReprD := by
  intro pins s σ H xs us Q I r h
  obtain ⟨N, v, d, rfl, hd, hg, q⟩ := h
  obtain ⟨u, rfl, rv⟩ := vals1 r
  obtain ⟨as, hr, hn⟩ := Da.reads I d v u hd rv
  obtain ⟨z1, z2⟩ := shown_le (by decide) d hg.iw
  have hs : d.shown.length ≤ sizeLine := Nat.le_trans z1 (Nat.le_trans hg.wn (by decide))
  have hsm : d.hasDict = true → sysModules ∉ as := fun _ hm => hn _ hm (inv_sys I en).1
  have hdp := hg.dp
  cases hr with
  | none => exact PySem.P.repr_of_none ⟨.str _, H, I.tok _, ⟨_, rfl⟩, by simpa only [PyData.shown] using q⟩
  | bool b => exact PySem.P.repr_of_bool ⟨.str _, H, I.tok _, ⟨_, rfl⟩, by simpa only [PyData.shown] using q⟩
  | int i t => exact PySem.P.repr_of_int (by simpa [PyData.showable] using z2) ⟨.str _, H, I.tok _, ⟨_, rfl⟩, by simpa only [PyData.shown] using q⟩
  | str x t => exact PySem.P.repr_of_str ⟨.str _, H, I.tok _, ⟨_, rfl⟩, by simpa only [PyData.shown] using q⟩ (by simpa only [PyData.shown] using hs)
  | list a1 a2 a3 a4 => exact repr_of_reads' (.list a1 a2 a3 a4) z2 hsm en.gu (by omega) (fun _ _ e => e) (fun h' u' tk k => ⟨.str _, H, I.kept (t' := tk) k, ⟨_, rfl⟩, q⟩) hs
  | tuple a1 a2 a3 a4 => exact repr_of_reads' (.tuple a1 a2 a3 a4) z2 hsm en.gu (by omega) (fun _ _ e => e) (fun h' u' tk k => ⟨.str _, H, I.kept (t' := tk) k, ⟨_, rfl⟩, q⟩) hs
  | dict a1 a2 a3 a4 a5 => exact repr_of_reads' (.dict a1 a2 a3 a4 a5) z2 hsm en.gu (by omega) (fun _ _ e => e) (fun h' u' tk k => ⟨.str _, H, I.kept (t' := tk) k, ⟨_, rfl⟩, q⟩) hs

/-! ### the law's end, with the bits told, for a law that makes texts of values -/
theorem law_callG {P : Program} {w : World} {K : PySem.W.Frag} {mg mb : Str → Option Value} {k : Nat} {fa a : Addr} {fd : FuncData} {x : Str} {sp : Sp} {s1 : Shared} {vs : List Value} {ns : List Int}
    (KX : K.In s1.heap) (hns : s1.heap.Ns mainGlobals mg) (hb : s1.heap.Ns builtinsNs mb) (hbb : ∀ x : Str, x ≠ "__name__" → mb x = bootBuiltins x) (hlim : s1.heap.NoLimit) (hsys : ∃ mm, s1.heap.Ns sysModules mm) (hg : s1.gens = #[])
    (ha : s1.heap.get? a = some { cls := .type "list", data := .seq vs.toArray }) (hi : IntsAre vs ns) (hl : ns.length ≤ sizeLine) (hr : Room k callerA)
    (F : ∀ base : Heap, K.In base → base.Ns mainGlobals mg → FnG P w K mg base k fa fd [x] sp) (hbind : ∀ (s : Shared) (u : Value), K.In s.heap → BindsTo s fd ⟨[u], []⟩ [(x, u)])
    (hsp : ∀ H : Hp, Only H → SqL K H a (ns.map V.int) → sp [.ref a] H (fun v _ => v = .bl true) fun _ _ _ => False) :
    codeAny (model P w) callerA (.call (.ref fa) ⟨[.ref a], []⟩) (fun r s' => r = .ok (.ret (.bool true)) ∧ OldK s1.heap s'.heap ∧ s'.os = s1.os ∧ AllBare s'.gens) s1 := by
  have rv := vals_ints hi
  have lenV := hi.length
  have main : ∀ H : Hp, Only H → SqL K H a (ns.map V.int) → HOk P w H s1.heap → (∀ b, H b ≠ none → b = a) → (H a ≠ none → K.lookup a = none) →
      codeAny (model P w) callerA (.call (.ref fa) ⟨[.ref a], []⟩) (fun r s' => r = .ok (.ret (.bool true)) ∧ OldK s1.heap s'.heap ∧ s'.os = s1.os ∧ AllBare s'.gens) s1 := by
    intro H hO hS hok hA hK
    have at_dict : ∀ {b : Addr} {o : Obj} {es : Array DictEntry} {ep : Nat}, s1.heap.get? b = some o → o.data = .dict es ep → H b = none := by
      intro b o es ep e d
      cases q : H b with
      | none => rfl
      | some u =>
        exfalso
        have z := hA b (by rw [q]; exact fun z => nomatch z)
        rw [z, ha] at e
        cases e
        cases (show Data.seq vs.toArray _ = Data.dict es ep from d)
    have keepNs : ∀ {b : Addr} {m : Str → Option Value}, s1.heap.Ns b m → (hidT s1.heap H).Ns b m := by
      rintro b m ⟨o, es, ep, e, d, r⟩
      exact ⟨o, es, ep, hidT_get e (at_dict e d), d, r⟩
    have hKb : K.In (hidT s1.heap H) := by
      intro b o e
      refine hidT_get (KX b o e) ?_
      cases q : H b with
      | none => rfl
      | some u =>
        exfalso
        have hn : H b ≠ none := by rw [q]; exact fun z => nomatch z
        have z := hA b hn
        subst z
        rw [hK hn] at e
        cases e
    have e0 : Env0 P w K mg (hidT s1.heap H) callerA [] s1 H := by
      refine ⟨rfl, ⟨hKb, keepNs hns, ⟨mb, keepNs hb, hbb⟩, ?_⟩, fun b o e => of_hidT e, Nat.le_of_eq (hidT_size _ _), trivial, fun b hb => ?_, hok, .of_eq hg⟩
      · obtain ⟨mc, h1, h2⟩ := hlim
        exact ⟨mc, keepNs h1, h2⟩
      · exact absurd (show b ∈ ([] : List Addr) from hb) (by simp)
    have en : Ent callerA s1 H := by
      obtain ⟨mm, o, es, ep, e, d, _⟩ := hsys
      exact ⟨rfl, ⟨o, e⟩, at_dict e d⟩
    refine codeAny_mono ((F _ hKb (keepNs hns)).run callerA [] s1 H ⟨[.ref a], []⟩ [.ref a] [.ref a] _ _ en hr e0 (hbind s1 (.ref a) KX) (.cons rfl .nil) (hsp H hO hS)) fun r s' h => ?_
    cases r with
    | error e => exact False.elim h
    | ok fl =>
      cases fl with
      | next => exact False.elim h
      | brk => exact False.elim h
      | cont => exact False.elim h
      | ret u =>
        obtain ⟨v, H', os, bare, un, hok', r', q⟩ := h
        obtain rfl : v = .bl true := q
        obtain rfl : u = Value.bool true := r'
        refine ⟨rfl, OldK.of_keep fun b o e => ?_, os, bare⟩
        rcases hO b with z | ⟨ob, xs, z⟩
        · exact un.keep b o e z (fun m => absurd (show b ∈ ([] : List Addr) from m) (by simp)) (by simp)
        · have e1 := (hok b _ z).1
          have e2 := (hok' b _ (un.frzs b ob _ z)).1
          rw [e] at e1
          cases e1
          exact e2
  cases hk : K.lookup a with
  | some o =>
    have e := KX a o hk
    rw [ha] at e
    cases e
    refine main (fun _ => none) (fun _ => .inl rfl) (.inr ⟨_, vs.toArray, _, hk, rfl, rfl, rfl, ?_, ?_⟩) (fun b u z => nomatch (show (none : Option HO) = some u from z)) (fun b z => absurd rfl z) fun z => absurd rfl z
    · rw [List.size_toArray, lenV]
      exact hl
    · simpa using rv
  | none =>
    let Hs : Hp := fun b => if b = a then some (.frz { cls := .type "list", data := .seq vs.toArray } (.lst (ns.map V.int))) else none
    have at_a : Hs a = some (.frz { cls := .type "list", data := .seq vs.toArray } (.lst (ns.map V.int))) := if_pos rfl
    have else_ : ∀ b, b ≠ a → Hs b = none := fun b hb => if_neg hb
    refine main Hs (fun b => ?_) (.inl (.inr ⟨_, at_a⟩)) (fun b u z => ?_) (fun b z => ?_) fun _ => hk
    · by_cases hb : b = a
      · rw [hb]
        exact .inr ⟨_, _, at_a⟩
      · exact .inl (else_ b hb)
    · by_cases hb : b = a
      · rw [hb] at z ⊢
        rw [at_a] at z
        cases z
        exact ⟨ha, by rw [List.length_map]; exact hl, vs, _, rv, ha⟩
      · rw [else_ b hb] at z
        cases z
    · by_cases hb : b = a
      · exact hb
      · exact absurd (else_ b hb) z
theorem walk_ofG {l : PySem.W.OpenLaw} {n k : Nat} {q : Program} {loose : List Str} {XP : (Str → Option Value) → Heap → Prop} {YP : World → Heap → Prop} {d : DefRec} {K : Params → PySem.W.Frag} {sp : World → Sp} {x : Str}
    (hn : l.most = some n) (hn2 : n ≤ sizeLine) (hdf : d.params.defaults = []) (hr : Room k callerA) (hi : importsNone q = true)
    (hY : ∀ (w : World) (h : Heap), YP w h → (K w.params).In h)
    (F : ∀ (w : World) (mg : Str → Option Value) (fa : Addr) (h : Heap), (K w.params).In h → h.Ns mainGlobals mg → mg d.name = some (.ref fa) →
      ∃ fd : FuncData, (∀ (s : Shared) (u : Value), (K w.params).In s.heap → BindsTo s fd ⟨[u], []⟩ [(x, u)]) ∧
        ∀ base : Heap, (K w.params).In base → base.Ns mainGlobals mg → FnG l.prog w (K w.params) mg base k fa fd [x] (sp w))
    (hsp : ∀ (w : World) (H : Hp) (a : Addr) (ns : List Int), ns.length ≤ n → (∀ z ∈ ns, Builtin.Int.intBits z ≤ 1048576) → Only H → SqL (K w.params) H a (ns.map V.int) → sp w [.ref a] H (fun v _ => v = .bl true) fun _ _ _ => False) :
    PySem.W.WalkO q loose XP YP l.row.toRowW d [] (fun f vs => PySem.call f vs) := by
  refine Att.attach_callB hn hdf fun w s0 s1 mg mb fa o pm cd doc a vs ns G Y ho hd hcd hmg hobj hints hlen hbits hg => ?_
  have KX := hY w _ Y
  obtain ⟨fd, hb, hF⟩ := F w mg fa _ KX G.T.g hmg
  obtain ⟨mm, hm, _⟩ := (G.T.seer hi).mods
  exact law_callG KX G.T.g G.T.b G.T.builtins G.T.nolimit ⟨mm, hm⟩ hg hobj hints (Nat.le_trans hlen hn2) hr hF hb (fun H hO hS => hsp w H a ns hlen hbits hO hS)
end HX

set_option maxRecDepth 100000
set_option maxHeartbeats 4000000
namespace HX
open PySem PySem.Spec PyProof.Rows L2
theorem Kp.mut {N : Addr → Prop} {H H' : Hp} {p : Addr} {o : HO} (k : Kp N H H') (h : H p = none) : Kp N H (upd H' p o) := fun b x e nb => by
  rw [upd_ne (ne_of_none e h)]
  exact k b x e nb
/-! ### data of tuples alone: no store turns it -/
def KT (H H' : Hp) : Prop := ∀ b xs, H b = some (.tup xs) → H' b = some (.tup xs)
theorem KT.refl (H : Hp) : KT H H := fun _ _ h => h
theorem KT.trans {H H1 H2 : Hp} (a : KT H H1) (b : KT H1 H2) : KT H H2 := fun c xs h => b c xs (a c xs h)
theorem KT.new {H : Hp} {p : Addr} {o : HO} (h : H p = none) : KT H (upd H p o) := fun b xs e => by
  rw [upd_ne (ne_of_none e h)]
  exact e
theorem KT.put {H : Hp} {p : Addr} {o : HO} {xs : List V} (h : H p = some (.lst xs)) : KT H (upd H p o) := fun b ys e => by
  rw [upd_ne (ne_of e h (fun z => by cases z))]
  exact e
theorem KT.same {H H' : Hp} (h : Same H H') : KT H H' := fun b xs e => h b _ e
theorem KT.kp {H H' : Hp} {p : Addr} {xs : List V} (h : H p = some (.lst xs)) (k : Kp (· = p) H H') : KT H H' := fun b ys e => k b _ e (ne_of e h (fun z => by cases z))
mutual
inductive Td (H : Hp) : V → PyData → Prop
  | non : Td H .non .none
  | bl (b : Bool) : Td H (.bl b) (.bool b)
  | int (i : Int) : Td H (.int i) (.int i)
  | str (x : Str) : Td H (.str x) (.str x)
  | tup {a : Addr} {xs : List V} {ds : List PyData} : H a = some (.tup xs) → TdAll H xs ds → Td H (.ref a) (.tuple ds)
inductive TdAll (H : Hp) : List V → List PyData → Prop
  | nil : TdAll H [] []
  | cons {v : V} {vs : List V} {d : PyData} {ds : List PyData} : Td H v d → TdAll H vs ds → TdAll H (v :: vs) (d :: ds)
end
mutual
theorem Td.mono {H H' : Hp} (k : KT H H') : ∀ (d : PyData) (v : V), Td H v d → Td H' v d
  | .none, _, h => by cases h; exact .non
  | .bool b, _, h => by cases h; exact .bl b
  | .int i, _, h => by cases h; exact .int i
  | .str x, _, h => by cases h; exact .str x
  | .tuple ds, _, h => by
    cases h with
    | tup e ha => exact .tup (k _ _ e) (TdAll.mono k ds _ ha)
  | .list _, _, h => by cases h
  | .dict _, _, h => by cases h
theorem TdAll.mono {H H' : Hp} (k : KT H H') : ∀ (ds : List PyData) (vs : List V), TdAll H vs ds → TdAll H' vs ds
  | [], _, h => by cases h; exact .nil
  | d :: ds, _, h => by
    cases h with
    | cons h1 h2 => exact .cons (Td.mono k d _ h1) (TdAll.mono k ds _ h2)
end
mutual
theorem Td.da {N : Addr → Prop} {H : Hp} (hn : ∀ a xs, H a = some (.tup xs) → ¬ N a) : ∀ (d : PyData) (v : V), Td H v d → Da N H v d
  | .none, _, h => by cases h; exact .non
  | .bool b, _, h => by cases h; exact .bl b
  | .int i, _, h => by cases h; exact .int i
  | .str x, _, h => by cases h; exact .str x
  | .tuple ds, _, h => by
    cases h with
    | tup e ha => exact .tup e (hn _ _ e) (TdAll.da hn ds _ ha)
  | .list _, _, h => by cases h
  | .dict _, _, h => by cases h
theorem TdAll.da {N : Addr → Prop} {H : Hp} (hn : ∀ a xs, H a = some (.tup xs) → ¬ N a) : ∀ (ds : List PyData) (vs : List V), TdAll H vs ds → DaAll N H vs ds
  | [], _, h => by cases h; exact .nil
  | d :: ds, _, h => by
    cases h with
    | cons h1 h2 => exact .cons (Td.da hn d _ h1) (TdAll.da hn ds _ h2)
end
theorem TdAll.len {H : Hp} : ∀ {vs : List V} {ds : List PyData}, TdAll H vs ds → vs.length = ds.length
  | _, _, .nil => rfl
  | _, _, .cons _ t => by rw [List.length_cons, List.length_cons, TdAll.len t]
theorem TdAll.get {H : Hp} : ∀ {vs : List V} {ds : List PyData} {i : Nat} {v : V}, TdAll H vs ds → vs[i]? = some v → ∃ d, ds[i]? = some d ∧ Td H v d
  | _, _, _, _, .nil, e => by simp at e
  | _, _, 0, _, .cons h _, e => by
    have e' := Option.some.inj e
    exact ⟨_, rfl, e' ▸ h⟩
  | _, _, i + 1, _, .cons _ t, e => by
    obtain ⟨d, h1, h2⟩ := TdAll.get (i := i) t (by simpa using e)
    exact ⟨d, by simpa using h1, h2⟩
theorem TdAll.at {H : Hp} : ∀ {vs : List V} {ds : List PyData} {i : Nat} {d : PyData}, TdAll H vs ds → ds[i]? = some d → ∃ v, vs[i]? = some v ∧ Td H v d
  | _, _, _, _, .nil, e => by simp at e
  | _, _, 0, _, .cons h _, e => by
    have e' := Option.some.inj e
    exact ⟨_, rfl, e' ▸ h⟩
  | _, _, i + 1, _, .cons _ t, e => by
    obtain ⟨v, h1, h2⟩ := TdAll.at (i := i) t (by simpa using e)
    exact ⟨v, by simpa using h1, h2⟩
theorem TdAll.append {H : Hp} : ∀ {vs us : List V} {ds es : List PyData}, TdAll H vs ds → TdAll H us es → TdAll H (vs ++ us) (ds ++ es)
  | _, _, _, _, .nil, s => s
  | _, _, _, _, .cons r t, s => .cons r (TdAll.append t s)
theorem TdAll.snoc {H : Hp} {vs : List V} {ds : List PyData} {v : V} {d : PyData} (h : TdAll H vs ds) (g : Td H v d) : TdAll H (vs ++ [v]) (ds ++ [d]) := h.append (.cons g .nil)
theorem TdAll.ints {H : Hp} : ∀ ns : List Int, TdAll H (ns.map V.int) (ns.map PyData.int)
  | [] => .nil
  | n :: ns => .cons (.int n) (TdAll.ints ns)
theorem Td.tupOf {H : Hp} {v : V} {ds : List PyData} (h : Td H v (.tuple ds)) : ∃ a xs, v = .ref a ∧ H a = some (.tup xs) ∧ TdAll H xs ds := by
  cases h with
  | tup e ha => exact ⟨_, _, rfl, e, ha⟩
theorem Td.intOf {H : Hp} {v : V} {i : Int} (h : Td H v (.int i)) : v = .int i := by
  cases h
  rfl
theorem Td.new {H : Hp} {p : Addr} {xs : List V} {ds : List PyData} (hp : H p = none) (h : TdAll H xs ds) : Td (upd H p (.tup xs)) (.ref p) (.tuple ds) := .tup upd_same (TdAll.mono (KT.new hp) _ _ h)
/-! ### boards, moments, rows as plain lists -/
def stepD (es : List Int) : PyData := .tuple (es.map PyData.int)
def wheelD (w : List (List Int)) : PyData := .tuple (w.map stepD)
def wheelsD (ws : List (List (List Int))) : PyData := .tuple (ws.map wheelD)
def boardD (ws : List (List (List Int))) (c : Int) : PyData := .tuple [wheelsD ws, .int c]
def EndsOk (n : Int) (s : List Int) : Prop := s.length ≤ 3 ∧ ∀ e ∈ s, 0 ≤ e ∧ e < n
def WheelOk (n : Int) (w : List (List Int)) : Prop := 1 ≤ w.length ∧ w.length ≤ 4 ∧ ∀ s ∈ w, EndsOk n s
structure BoardOk (ws : List (List (List Int))) (c : Int) : Prop where
  w1 : 1 ≤ ws.length
  w6 : ws.length ≤ 6
  c0 : 0 ≤ c
  c4 : c ≤ 4
  wheels : ∀ w ∈ ws, WheelOk ((ws.length : Int) + c) w
end HX

set_option maxRecDepth 100000
set_option maxHeartbeats 4000000
namespace HX
open PySem PySem.Spec PyProof.Rows L2
/-! ### written data -/
def Fr (N : Addr → Prop) (H : Hp) : Prop := ∀ H1, Same H H1 → ∀ p, H1 p = none → ¬ N p
theorem Fr.none (H : Hp) : Fr (fun _ => False) H := fun _ _ _ _ z => z
theorem Fr.one {H : Hp} {a : Addr} {o : HO} (h : H a = some o) : Fr (· = a) H := fun H1 s p hp z => by
  rw [z, s _ _ h] at hp
  cases hp
def EvD (N : Addr → Prop) (te : TE) (σ : L2.St) (H : Hp) (d : PyData) : Prop := ∀ H1, Same H H1 → ∀ Q : VK, (∀ v H2, Same H1 H2 → Da N H2 v d → Q v H2) → te σ H1 Q
def EvDs (N : Addr → Prop) (ta : TA) (σ : L2.St) (H : Hp) (ds : List PyData) : Prop := ∀ H1, Same H H1 → ∀ Q : List V → Hp → Prop, (∀ vs H2, Same H1 H2 → DaAll N H2 vs ds → Q vs H2) → ta σ H1 Q
section
variable {N : Addr → Prop} {σ : L2.St} {H : Hp} {te : TE} {ta : TA} {d : PyData} {ds : List PyData}
theorem ed_non : EvD N (tC .non) σ H .none := fun H1 _ Q q => q _ H1 (Same.refl H1) .non
theorem ed_bl {b : Bool} : EvD N (tC (.bl b)) σ H (.bool b) := fun H1 _ Q q => q _ H1 (Same.refl H1) (.bl b)
theorem ed_int {i : Int} : EvD N (tC (.int i)) σ H (.int i) := fun H1 _ Q q => q _ H1 (Same.refl H1) (.int i)
theorem ed_str {x : Str} : EvD N (tC (.str x)) σ H (.str x) := fun H1 _ Q q => q _ H1 (Same.refl H1) (.str x)
theorem ed_neg {i : Int} : EvD N (tUn (rU fun i => .int (-i)) (tC (.int i))) σ H (.int (-i)) := fun H1 _ Q q => ⟨i, rfl, q _ H1 (Same.refl H1) (.int (-i))⟩
theorem ed_pow {i j z : Int} (hz : i ^ j.toNat = z := by decide +kernel) (h : CPow i j := by exact ⟨by decide, by decide, by decide⟩) : EvD N (tOp (rI CPow fun i j => .int (i ^ j.toNat)) (tC (.int i)) (tC (.int j))) σ H (.int z) := fun H1 _ Q q =>
  ⟨i, j, rfl, rfl, h, by
    show Q (.int (i ^ j.toNat)) H1
    rw [hz]
    exact q _ H1 (Same.refl H1) (.int z)⟩
theorem ed_nil : EvDs N tNil σ H [] := fun H1 _ Q q => q [] H1 (Same.refl H1) .nil
theorem ed_cons (h : EvD N te σ H d) (hr : EvDs N ta σ H ds) : EvDs N (tCons te ta) σ H (d :: ds) := fun H1 s1 Q q =>
  h H1 s1 _ fun v H2 s2 hd => hr H2 (s1.trans s2) _ fun vs H3 s3 hds => q (v :: vs) H3 (s2.trans s3) (.cons (Da.mono (Kp.of s3) _ _ hd) hds)
theorem ed_tup (f : Fr N H) (h : EvDs N ta σ H ds) (hl : ds.length ≤ 1000 := by decide) : EvD N (tTup ta) σ H (.tuple ds) := fun H1 s1 Q q =>
  h H1 s1 _ fun vs H2 s2 hds => ⟨by rw [hds.len]; exact Nat.le_of_lt (small1000 hl), fun p hp => q (.ref p) _ (s2.trans (Same.new hp)) (.tup upd_same (f H2 (s1.trans s2) p hp) (DaAll.mono (Kp.new hp) _ _ hds))⟩
theorem ed_lst (f : Fr N H) (h : EvDs N ta σ H ds) (hl : ds.length ≤ 1000 := by decide) : EvD N (tLst ta) σ H (.list ds) := fun H1 s1 Q q =>
  h H1 s1 _ fun vs H2 s2 hds => ⟨by rw [hds.len]; exact Nat.le_of_lt (small1000 hl), fun p hp => q (.ref p) _ (s2.trans (Same.new hp)) (.lst upd_same (f H2 (s1.trans s2) p hp) (DaAll.mono (Kp.new hp) _ _ hds))⟩
theorem ed_dict0 (f : Fr N H) : EvD N tDNewK σ H (.dict []) := fun H1 s1 Q q p hp => q (.ref p) _ (Same.new hp) (.dct upd_same (f H1 s1 p hp) .nil .nil)
theorem ed_dict1 {x : Str} {i : Int} (f : Fr N H) : EvD N (tDisp [(tC (.str x), tC (.int i))]) σ H (.dict [(.str x, .int i)]) := fun H1 s1 Q q p hp => by
  refine ⟨upd_same, [(.inr x, .int i)], rfl, by show 1 ≤ 15; decide, ?_⟩
  rw [upd_upd]
  refine q (.ref p) _ (Same.new hp) (.dct upd_same (f H1 s1 p hp) ?_ ?_)
  · exact .cons (.str x) .nil
  · exact .cons (.int i) .nil
theorem flat_rep {N : Addr → Prop} {H : Hp} {vs : List V} {ds : List PyData} (h : DaAll N H vs ds) : ∀ n : Nat, DaAll N H (List.replicate n vs).flatten (List.replicate n ds).flatten
  | 0 => .nil
  | n + 1 => by
    rw [List.replicate_succ, List.replicate_succ, List.flatten_cons, List.flatten_cons]
    exact h.append (flat_rep h n)
theorem ed_rep {K : PySem.W.Frag} {n : Int} (f : Fr N H) (h : EvD N te σ H (.tuple ds)) (h2 : 2 ≤ n := by decide) (h9 : n ≤ 1000 := by decide) (hz : ds ≠ [] := by simp) (hl : ds.length ≤ 1000 := by decide) :
    EvD N (tOp (rRepT K) te (tC (.int n))) σ H (.tuple (List.replicate n.toNat ds).flatten) := fun H1 s1 Q q =>
  h H1 s1 _ fun v H2 s2 hd => by
    obtain ⟨a, xs, rfl, e, _, ha⟩ := hd.tupOf
    refine ⟨a, n, xs, rfl, rfl, SqT.of e, fun z => hz ?_, h2, h9, ?_, fun p hp => ?_⟩
    · have := ha.len
      rw [z] at this
      exact List.eq_nil_of_length_eq_zero this.symm
    · rw [ha.len]
      exact hl
    · exact q (.ref p) _ (s2.trans (Same.new hp)) (.tup upd_same (f H2 (s1.trans s2) p hp) (DaAll.mono (Kp.new hp) _ _ (flat_rep ha n.toNat)))
end
/-! ### slices and sums of tuples, whichever object they come to -/
theorem rd_slice {K : PySem.W.Frag} {H : Hp} {Q : VK} {a : Addr} {xs : List V} {lo hi : Option Int} (hx : H a = some (.tup xs)) (q : ∀ p H', Same H H' → H' p = some (.tup (cutV xs lo hi)) → Q (.ref p) H') : rSlA K (.ref a) lo hi H Q := by
  refine ⟨a, xs, rfl, SqT.of hx, fun h => q a H (Same.refl H) ?_, fun _ p hp => q p _ (Same.new hp) upd_same⟩
  rw [hx]
  unfold cutV
  rw [h.1, h.2]
  show some (HO.tup xs) = some (.tup ((xs.drop 0).take (xs.length - 0)))
  rw [List.drop_zero, Nat.sub_zero, List.take_length]
theorem np {σ : L2.St} {H : Hp} {Q : Option Int → Hp → Prop} (h : Q none H) : tNoPart σ H Q := h
theorem rd_cat {K : PySem.W.Frag} {H : Hp} {Q : VK} {a b : Addr} {xs ys : List V} (hx : H a = some (.tup xs)) (hy : H b = some (.tup ys)) (hz : xs.length + ys.length ≤ sizeLine) (q : ∀ p H', Same H H' → H' p = some (.tup (xs ++ ys)) → Q (.ref p) H') : rCatA K (.ref a) (.ref b) H Q := by
  refine ⟨a, b, xs, ys, rfl, rfl, SqT.of hx, SqT.of hy, hz, fun e => q b H (Same.refl H) ?_, fun _ e => q a H (Same.refl H) ?_, fun _ _ p hp => q p _ (Same.new hp) upd_same⟩
  · rw [hy, e]
    rfl
  · rw [hx, e, List.append_nil]
theorem cut_to (xs : List V) (n : Nat) (h : n ≤ xs.length) : cutV xs none (some (n : Int)) = xs.take n := by
  unfold cutV
  rw [HT.sIx_none, HT.sIx_nat, List.drop_zero, Nat.min_eq_left h, Nat.sub_zero]
theorem cut_from (xs : List V) (n : Nat) (h : n ≤ xs.length) : cutV xs (some (n : Int)) none = xs.drop n := by
  unfold cutV
  rw [HT.sIx_none, HT.sIx_nat, Nat.min_eq_left h]
  exact List.take_of_length_le (by rw [List.length_drop]; omega)
theorem cut_one (xs : List V) (n : Nat) (h : n < xs.length) : cutV xs (some (n : Int)) (some ((n : Int) + 1)) = (xs.drop n).take 1 := by
  unfold cutV
  have e : (n : Int) + 1 = ((n + 1 : Nat) : Int) := by omega
  rw [e, HT.sIx_nat, HT.sIx_nat, Nat.min_eq_left (by omega), Nat.min_eq_left (by omega)]
  congr 1
  omega
/-! ### weights, bounds, depths of parts -/
theorem wtAll_append : ∀ xs ys : List PyData, wtAll (xs ++ ys) = wtAll xs + wtAll ys
  | [], ys => by simp [wtAll]
  | x :: xs, ys => by
    rw [List.cons_append]
    simp only [wtAll]
    rw [wtAll_append xs ys]
    omega
theorem withinAll_append {b : Int} : ∀ xs ys : List PyData, withinAll b (xs ++ ys) ↔ withinAll b xs ∧ withinAll b ys
  | [], ys => by simp [withinAll]
  | x :: xs, ys => by
    rw [List.cons_append]
    simp only [withinAll]
    rw [withinAll_append xs ys, and_assoc]
theorem depthAll_append : ∀ xs ys : List PyData, PyData.depthAll (xs ++ ys) = max (PyData.depthAll xs) (PyData.depthAll ys)
  | [], ys => by simp [PyData.depthAll]
  | x :: xs, ys => by
    rw [List.cons_append]
    simp only [PyData.depthAll]
    rw [depthAll_append xs ys]
    omega
mutual
theorem within_up {b c : Int} (h : b ≤ c) : ∀ d : PyData, within b d → within c d
  | .none, _ => by simp only [within]
  | .bool _, _ => by simp only [within]
  | .int i, q => by
    simp only [within] at q ⊢
    omega
  | .str _, _ => by simp only [within]
  | .list ds, q => by
    simp only [within] at q ⊢
    exact withinAll_up h ds q
  | .tuple ds, q => by
    simp only [within] at q ⊢
    exact withinAll_up h ds q
  | .dict ds, q => by
    simp only [within] at q ⊢
    exact withinKv_up h ds q
theorem withinAll_up {b c : Int} (h : b ≤ c) : ∀ ds : List PyData, withinAll b ds → withinAll c ds
  | [], _ => by simp only [withinAll]
  | d :: ds, q => by
    simp only [withinAll] at q ⊢
    exact ⟨within_up h d q.1, withinAll_up h ds q.2⟩
theorem withinKv_up {b c : Int} (h : b ≤ c) : ∀ ds : List (PyData × PyData), withinKv b ds → withinKv c ds
  | [], _ => by simp only [withinKv]
  | (x, y) :: ds, q => by
    simp only [withinKv] at q ⊢
    exact ⟨within_up h x q.1, within_up h y q.2.1, withinKv_up h ds q.2.2⟩
end
theorem split_at {α : Type} (xs : List α) (n : Nat) (x : α) (h : xs[n]? = some x) : xs = xs.take n ++ (x :: xs.drop (n + 1)) := by
  obtain ⟨hn, e⟩ := List.getElem?_eq_some_iff.mp h
  rw [← e, List.getElem_cons_drop, List.take_append_drop]
theorem wtAll_len : ∀ ds : List PyData, 2 * ds.length ≤ wtAll ds
  | [] => by simp [wtAll]
  | d :: ds => by
    have := wtAll_len ds
    simp only [wtAll, List.length_cons]
    omega
theorem wtAll_reverse : ∀ ds : List PyData, wtAll ds.reverse = wtAll ds
  | [] => rfl
  | d :: ds => by
    rw [List.reverse_cons, wtAll_append, wtAll_reverse ds]
    simp only [wtAll]
    omega
theorem withinAll_reverse {b : Int} : ∀ ds : List PyData, withinAll b ds → withinAll b ds.reverse
  | [], h => h
  | d :: ds, h => by
    rw [List.reverse_cons, withinAll_append]
    simp only [withinAll] at h ⊢
    exact ⟨withinAll_reverse ds h.2, h.1, trivial⟩
theorem depthAll_reverse : ∀ ds : List PyData, PyData.depthAll ds.reverse = PyData.depthAll ds
  | [] => rfl
  | d :: ds => by
    rw [List.reverse_cons, depthAll_append, depthAll_reverse ds]
    simp only [PyData.depthAll]
    omega
/-- a statement, then the rest, shown once from what stands between them -/
def tCut (t u : TS) : TS := fun D σ H => ∃ Mid : L2.St → Hp → Prop, t { D with nx := Mid } σ H ∧ ∀ σ' H', Mid σ' H' → u D σ' H'
theorem pss_cut {X : Cx} {st : Stmt} {rest : List Stmt} {t u : TS} (h1 : PS X st t) (h2 : PSs X rest u) : PSs X (st :: rest) (tCut t u) := by
  refine ⟨fun pins s σ H D I h => ?_⟩
  obtain ⟨Mid, hm, hu⟩ := h
  refine wpAny_execs_cons (thn (h1.run pins s σ H { D with nx := Mid } I hm) fun f s1 q => ?_)
  cases f with
  | ret v => exact q
  | brk => exact q
  | cont => exact q
  | next =>
    obtain ⟨σ', H', I', q'⟩ := q
    exact h2.run pins s1 σ' H' D I' (hu σ' H' q')
theorem s_next {D : Ends} {σ : L2.St} {H : Hp} (h : D.nx σ H) : tNext D σ H := h
theorem s_ret {te : TE} {D : Ends} {σ : L2.St} {H : Hp} (h : te σ H D.rt) : tRet te D σ H := h
theorem s_asg {te : TE} {u : TS} {D : Ends} {σ : L2.St} {H : Hp} {i : Nat} (h : te σ H fun x H1 => u D (σ.set i (some x)) H1) : tSeq (tAsg te (gName i)) u D σ H := h
theorem Da.lstOf {N : Addr → Prop} {H : Hp} {v : V} {ds : List PyData} (h : Da N H v (.list ds)) : ∃ a xs, v = .ref a ∧ H a = some (.lst xs) ∧ ¬ N a ∧ DaAll N H xs ds := by
  cases h with
  | lst e n ha => exact ⟨_, _, rfl, e, n, ha⟩
theorem entx_of {P : Program} {w : World} {K : PySem.W.Frag} {mg : Str → Option Value} {base : Heap} {N : List Str} {qual : Str} {scope : Scope} {f : Addr} {cdv : Value} {A : Around} {outer : List Env} {s : Shared} {H : Hp} {E : XK} (en : Ent A s H) :
    EntX (cxOf CX0 P w K mg base N qual scope f cdv A outer s H E).nox := ⟨en.gu, en.sm, en.hm, fun z => absurd (show sysModules ∈ ([] : List Addr) from z) (by simp)⟩
theorem hu150 {A : Around} {k : Nat} (hr : Room k A) : A.units + 150 < cLine := by
  have := hr.un
  omega
theorem def_mk {K : PySem.W.Frag} {mg : Str → Option Value} {h : Heap} {x : Str} {st : Stmt} {ps : List Str} {f : Addr} {od an : Option Addr} {sl : Array (Option Value)} {oc kV dc pm cd ct : Value} (X : K.In h) (G : h.Ns mainGlobals mg)
    (a : PySem.W.nsIn K mainGlobals x = some (some (.ref f))) (l : K.lookup f = some ⟨oc, od, .func (PySem.W.fnOf x x (defArgs st) (defBody st) (defScope st) .none kV dc pm an cd ct), sl⟩) (c : PySem.W.codeIn K cd x = true) (k : PySem.W.keepIn K (.ref f) = true)
    (hb : ∀ (kV doc pm : Value) (an : Option Addr) (cdv ct : Value) (us : List Value), us.length = ps.length → bindArgs (PySem.W.fnOf x x (defArgs st) (defBody st) (defScope st) .none kV doc pm an cdv ct) ⟨us, []⟩ = pure (ps.zip us)) : Def K mg x st ps :=
  ⟨f, _, fun_mk l c k, PySem.W.mg_of X G a, (fun_mk l c k).binds hb⟩
/-- all([e for x in t]), t any expression that gives a tuple -/
theorem read_allE {K : PySem.W.Frag} {N : Addr → Prop} {σ : L2.St} {H : Hp} {Q : VK} {j : Nat} {tl te : TE} {a : Addr} {xs : List V} {ds : List PyData} (p : PyData → Bool)
    (hs : ∀ Q' : VK, Q' (.ref a) H → tl σ H Q') (hx : H a = some (.tup xs)) (hd : DaAll N H xs ds) (hz : ds.length ≤ 1000)
    (ht : ∀ (x : V) (d : PyData) (H' : Hp), Same H H' → Da N H' x d → ∀ Q' : VK, (∀ H2, Same H' H2 → Q' (.bl (p d)) H2) → te ((wipe σ [j]).set j (some x)) H' Q')
    (q : ∀ H', Same H H' → Q (.bl (ds.all p)) H') : tCB (rAll K) (tCons (tLc (iTup K tl) (gName j) tYes te [j]) tNil) σ H Q := by
  refine hs _ ⟨a, rfl, ⟨xs, .inl (.inl hx)⟩, fun D hD => ?_⟩
  have hlen : xs.length = ds.length := hd.len
  refine lc_tup (xs := xs) (fun i H' => Same H H' ∧ H' D = some (.lst ((ds.take i).map fun d => V.bl (p d)))) ⟨Same.new hD, ?_⟩ (fun i H' _ h => .inl (.inl (h.1 _ _ hx))) (fun i x H' hi h => ?_) (fun H' h => ?_)
  · rw [upd_same]
    rfl
  · obtain ⟨d, e1, e2⟩ := (DaAll.mono (Kp.of h.1) _ _ hd).get hi
    refine ⟨wipe1 x, tYes_eq (iteT (ht x d H' h.1 e2 _ fun H2 s2 => ?_))⟩
    refine ⟨_, s2 _ _ h.2, ?_, fun b o e => ?_, ?_⟩
    · rw [List.length_map, List.length_take]
      exact small1000 (by omega)
    · rw [upd_ne (ne_of_none e hD)]
      exact s2 _ _ (h.1 _ _ e)
    · rw [upd_same, List.take_add_one, e1, List.map_append]
      rfl
  · refine ⟨D, ds.map p, rfl, .inl (.inl ?_), ?_⟩
    · rw [h.2, hlen, List.take_length, List.map_map]
      rfl
    · rw [List.all_map]
      exact q H' h.1
/-! rules for within a comprehension: the written part said -/
theorem ix_tupK {X : Cx} {K : PySem.W.Frag} (h : X.K = K := by rfl) : IxR X (rIxT K) := by
  subst h
  exact ix_tup
theorem ix_listK {X : Cx} {K : PySem.W.Frag} (h : X.K = K := by rfl) : IxR X (rIxL K) := by
  subst h
  exact ix_list
def rLenK (K : PySem.W.Frag) : List V → Hp → VK → Prop := fun xs H Q => ∃ p ys, xs = [.ref p] ∧ (SqL K H p ys ∨ SqT K H p ys) ∧ Q (.int ys.length) H
theorem call_len_seqK {X : Cx} {K : PySem.W.Frag} (h : X.K = K := by rfl) : CallR X (.builtin "len") (rLenK K) := by
  subst h
  exact call_len_seq
theorem call_isi_K {X : Cx} {K : PySem.W.Frag} (h : X.K = K := by rfl) : CallR X (.builtin "isinstance") (rIsi K) := by
  subst h
  exact call_isi
def rListK (K : PySem.W.Frag) : List V → Hp → VK → Prop := fun xs H Q => ∃ p ys, xs = [.ref p] ∧ (SqL K H p ys ∨ SqT K H p ys) ∧ ∀ l, H l = none → Q (.ref l) (upd H l (.lst ys))
theorem call_list_ofK {X : Cx} {K : PySem.W.Frag} (h : X.K = K := by rfl) : CallR X (.type "list") (rListK K) := by
  subst h
  exact call_list_of
theorem gint_mk {K : PySem.W.Frag} {mg : Str → Option Value} {h : Heap} {x : Str} {i : Int} {t : Tok} (X : K.In h) (G : h.Ns mainGlobals mg) (a : PySem.W.nsIn K mainGlobals x = some (some (.int i t))) : ∃ t, mg x = some (.int i t) := ⟨t, PySem.W.mg_of X G a⟩
theorem def_cut {C : Prop} {K : PySem.W.Frag} {mg : Str → Option Value} {h : Heap} {x : Str} {st : Stmt} {ps : List Str} {f : Addr} {od an : Option Addr} {sl : Array (Option Value)} {oc kV dc pm cd ct : Value} (X : K.In h) (G : h.Ns mainGlobals mg)
    (a : PySem.W.nsIn K mainGlobals x = some (some (.ref f))) (l : K.lookup f = some ⟨oc, od, .func (PySem.W.fnOf x x (defArgs st) (defBody st) (defScope st) .none kV dc pm an cd ct), sl⟩) (c : PySem.W.codeIn K cd x = true) (k : PySem.W.keepIn K (.ref f) = true)
    (hb : ∀ (kV doc pm : Value) (an : Option Addr) (cdv ct : Value) (us : List Value), us.length = ps.length → bindArgs (PySem.W.fnOf x x (defArgs st) (defBody st) (defScope st) .none kV doc pm an cdv ct) ⟨us, []⟩ = pure (ps.zip us)) (z : Def K mg x st ps → C) : C :=
  z (def_mk X G a l c k hb)
/-- parts of a list of data -/
structure Pt (b : Int) (w e : Nat) (ds : List PyData) : Prop where
  iw : withinAll b ds
  wn : wtAll ds ≤ w
  dp : PyData.depthAll ds ≤ e
theorem Pt.append {b : Int} {w1 w2 e : Nat} {xs ys : List PyData} (h : Pt b w1 e xs) (g : Pt b w2 e ys) : Pt b (w1 + w2) e (xs ++ ys) := by
  refine ⟨(withinAll_append _ _).mpr ⟨h.iw, g.iw⟩, ?_, ?_⟩
  · rw [wtAll_append]
    exact Nat.add_le_add h.wn g.wn
  · rw [depthAll_append]
    exact Nat.max_le.mpr ⟨h.dp, g.dp⟩
theorem Pt.one {b : Int} {w e : Nat} {d : PyData} (h1 : within b d) (h2 : wt d ≤ w) (h3 : d.depth ≤ e) : Pt b (w + 2) e [d] := by
  refine ⟨?_, ?_, ?_⟩
  · simp only [withinAll]
    exact ⟨h1, trivial⟩
  · simp only [wtAll]
    omega
  · simp only [PyData.depthAll]
    omega
theorem Pt.le {b : Int} {w w' e : Nat} {xs : List PyData} (h : Pt b w e xs) (hw : w ≤ w') : Pt b w' e xs := ⟨h.iw, Nat.le_trans h.wn hw, h.dp⟩
theorem Pt.up {b c : Int} {w e : Nat} {xs : List PyData} (h : Pt b w e xs) (hc : b ≤ c) : Pt c w e xs := ⟨withinAll_up hc _ h.iw, h.wn, h.dp⟩
theorem Pt.cut {b : Int} {w e : Nat} {xs : List PyData} (h : Pt b w e xs) (n : Nat) : ∃ w1 w2, Pt b w1 e (xs.take n) ∧ Pt b w2 e (xs.drop n) ∧ w1 + w2 ≤ w := by
  obtain ⟨h1, h2, h3⟩ := h
  have q1 := (withinAll_append (xs.take n) (xs.drop n)).mp (by rw [List.take_append_drop]; exact h1)
  have q2 := wtAll_append (xs.take n) (xs.drop n)
  rw [List.take_append_drop] at q2
  have q3 := depthAll_append (xs.take n) (xs.drop n)
  rw [List.take_append_drop] at q3
  exact ⟨_, _, ⟨q1.1, Nat.le_refl _, by omega⟩, ⟨q1.2, Nat.le_refl _, by omega⟩, by omega⟩
end HX

set_option maxRecDepth 100000
set_option maxHeartbeats 1000000
namespace HX
open PySem PySem.Spec PyProof.Rows L2
/-! ### lists and tuples walked side by side: zip of two, of three, in any mix; enumerate of either -/
inductive Ki where
  | l | t
def SqK (K : PySem.W.Frag) (H : Hp) : Ki → Addr → List V → Prop
  | .l, a, xs => SqL K H a xs
  | .t, a, xs => SqT K H a xs
def ItrK (h : Heap) : Ki → Addr → Addr → Nat → Prop
  | .l, it, a, i => h.IsListIter it a i
  | .t, it, a, i => h.IsTupleIter it a i
def SeqK (h : Heap) : Ki → Addr → Array Value → Prop
  | .l, a, its => h.IsList a its
  | .t, a, its => h.IsTuple a its
def itO : Ki → Addr → Obj
  | .l, a => { cls := .type "list_iterator", data := .fields #[.ref a, .int 0 0] }
  | .t, a => { cls := .type "tuple_iterator", data := .fields #[.ref a, .int 0 0] }
theorem beginsK (k : Ki) (a : Addr) (its : Array Value) : Begins (.ref a) (itO k a) (fun h => SeqK h k a its) := by
  cases k with
  | l => exact begins_list a its
  | t => exact begins_tuple a its
theorem drawsK {prog : Program} {w : World} {A : Around} (hh : A.handled = none) (k : Ki) (it a : Addr) (hne : a ≠ it) (its : Array Value) :
    Draws prog w A it [it, a] its.size (fun i v => its[i]? = some v) (fun i h => ItrK h k it a i ∧ SeqK h k a its) := by
  cases k with
  | l => exact Draws.list hh it a hne its
  | t => exact Draws.tuple hh it a hne its
theorem itrK_of {h : Heap} {k : Ki} {it a : Addr} (e : h.get? it = some (itO k a)) : ItrK h k it a 0 := by
  cases k with
  | l => exact ⟨_, e, rfl, rfl⟩
  | t => exact ⟨_, e, rfl, rfl⟩
theorem itrK_at {h h' : Heap} {k : Ki} {it a : Addr} {i : Nat} (x : ItrK h k it a i) (e : ∀ o, h.get? it = some o → h'.get? it = some o) : ItrK h' k it a i := by
  cases k with
  | l => exact Heap.IsListIter.at x e
  | t => exact Heap.IsTupleIter.at x e
theorem itrK_obj {h : Heap} {k : Ki} {it a : Addr} {i : Nat} (x : ItrK h k it a i) : ∃ o, h.get? it = some o ∧ ∀ v, o.data ≠ .cell v := by
  cases k with
  | l =>
    obtain ⟨o, e, _, d⟩ := x
    exact ⟨o, e, fun v q => by rw [d] at q; cases q⟩
  | t =>
    obtain ⟨o, e, _, d⟩ := x
    exact ⟨o, e, fun v q => by rw [d] at q; cases q⟩
section
variable {X : Cx} {pins : List (Addr × Obj)} {σ : L2.St} {H : Hp} {s : Shared} {k : Ki} {a : Addr} {xs ys : List V}
theorem inv_seqK (I : Inv X pins σ H s) (h : SqK X.K H k a xs) : ∃ its : List Value, Vals xs its ∧ SeqK s.heap k a its.toArray := by
  cases k with
  | l =>
    obtain ⟨its, rv, p, _⟩ := I.list h
    exact ⟨its, rv, p.isList⟩
  | t =>
    obtain ⟨its, rv, p, _⟩ := I.tuple h
    exact ⟨its, rv, p⟩
theorem inv_seqK_inj (I : Inv X pins σ H s) (h : SqK X.K H k a xs) (h' : SqK X.K H k a ys) : xs = ys := by
  cases k with
  | l => exact I.list_inj h h'
  | t => exact I.tuple_inj h h'
theorem seqK_lt {h : Heap} {its : Array Value} (x : SeqK h k a its) : a < h.objs.size := by
  cases k with
  | l =>
    obtain ⟨o, e, _⟩ := x
    exact Heap.lt_size e
  | t =>
    obtain ⟨o, e, _⟩ := x
    exact Heap.lt_size e
end
theorem SqK.same {K : PySem.W.Frag} {H H' : Hp} {k : Ki} {a : Addr} {xs : List V} (s : Same H H') (h : SqK K H k a xs) : SqK K H' k a xs := by
  cases k with
  | l => exact s.seq h
  | t =>
    rcases h with (h | ⟨o, h⟩) | h
    · exact .inl (.inl (s _ _ h))
    · exact .inl (.inr ⟨o, s _ _ h⟩)
    · exact .inr h
/-! zip of two -/
def Itz2 (K : PySem.W.Frag) (k1 : Ki) (a : Addr) (k2 : Ki) (b : Addr) : It :=
  ⟨fun i H => ∃ (xs ys : List V) (x y : V), SqK K H k1 a xs ∧ SqK K H k2 b ys ∧ xs[i]? = some x ∧ ys[i]? = some y,
    fun i H v H' => ∃ T x y, v = .ref T ∧ H T = none ∧ H' = upd H T (.tup [x, y]) ∧ (∀ xs, SqK K H k1 a xs → xs[i]? = some x) ∧ ∀ ys, SqK K H k2 b ys → ys[i]? = some y,
    fun i H => ∃ xs ys : List V, SqK K H k1 a xs ∧ SqK K H k2 b ys ∧ i = min xs.length ys.length⟩
theorem turn_zip2 {P : Program} {w : World} {K : PySem.W.Frag} {elts : List Expr} {kk : Nat} {tpos : Pos} {k1 k2 : Ki} {a b z TI TO i1 i2 : Addr} (S : ZipSep2 z TI TO i1 i2 [i1, a] [i2, b]) (na : a ≠ i1) (nb : b ≠ i2) :
    Turn P w K (.Tuple elts kk tpos) (Itz2 K k1 a k2 b) [z, TI, TO, i1, i2] z (fun i h => IsZip h z TI TO .none ∧ IsTupOf2 h TI (.ref i1) (.ref i2) ∧ (∃ x y, IsTupOf2 h TO x y) ∧ ItrK h k1 i1 a i ∧ ItrK h k2 i2 b i) where
  mem := by simp
  obj := fun i h st c hc => by
    obtain ⟨hz, hTI, ⟨x, y, hTO⟩, h1, h2⟩ := st
    have e' : c = z ∨ c = TI ∨ c = TO ∨ c = i1 ∨ c = i2 := by simpa using hc
    rcases e' with rfl | rfl | rfl | rfl | rfl
    · exact ⟨_, hz, fun v q => nomatch q⟩
    · exact ⟨_, hTI, fun v q => nomatch q⟩
    · exact ⟨_, hTO, fun v q => nomatch q⟩
    · exact itrK_obj h1
    · exact itrK_obj h2
  keep := fun i h h' st k => by
    obtain ⟨hz, hTI, ⟨x, y, hTO⟩, h1, h2⟩ := st
    exact ⟨k z (by simp) _ hz, k TI (by simp) _ hTI, ⟨x, y, k TO (by simp) _ hTO⟩, itrK_at h1 fun o q => k i1 (by simp) o q, itrK_at h2 fun o q => k i2 (by simp) o q⟩
  item := by
    intro X hP hw hK hc i pins s σ H E I hf st hg
    subst hP hw hK
    obtain ⟨hz, hTI, hTO, h1, h2⟩ := st
    obtain ⟨xs, ys, x, y, hqx, hqy, hx, hy⟩ := hg
    obtain ⟨its, rv, p⟩ := inv_seqK I hqx
    obtain ⟨its2, rv2, p2⟩ := inv_seqK I hqy
    have l1 := rv.length
    have l2 := rv2.length
    have b1 := (List.getElem?_eq_some_iff.mp hx).1
    have b2 := (List.getElem?_eq_some_iff.mp hy).1
    have hh : X.A.in1.handled = none := I.ok.hd hc
    have G := GoesN.zip2 (A := X.A) (elts := elts) (x1 := kk) (pos := tpos) S (drawsK (prog := X.prog) (w := X.w) hh k1 i1 a na its.toArray) (drawsK (prog := X.prog) (w := X.w) hh k2 i2 b nb its2.toArray)
    refine G.goes i s _ E (by rw [List.size_toArray, List.size_toArray]; omega) ⟨hz, hTI, hTO, ⟨h1, p⟩, ⟨h2, p2⟩⟩ fun v h' tk hY st' hk htk => ?_
    obtain ⟨T, u, u2, rfl, hT, hu, hu2, hTup⟩ := hY
    obtain ⟨q1, q2, q3, q4, q5⟩ := st'
    obtain ⟨u', e1, ru⟩ := rv.get hx
    obtain ⟨u2', e2, ru2⟩ := rv2.get hy
    have e3 : u' = u := Option.some.inj (e1.symm.trans (by simpa using hu))
    have e4 : u2' = u2 := Option.some.inj (e2.symm.trans (by simpa using hu2))
    subst e3 e4
    have new : ObjOk X.prog X.w (upd H T (.tup [x, y])) h' T (.tup [x, y]) := ⟨by show 2 ≤ sizeLine; decide, [u', u2'], .cons ru (.cons ru2 .nil), hTup⟩
    have I1 : Inv X pins σ (upd H T (.tup [x, y])) { s with heap := h', toks := tk } :=
      I.turnedNew (t' := tk) (ch := [z, TI, TO, i1, i2]) (fun c o hb q => hk c o (fun m => hb (by
        have e' : c = z ∨ c = TO ∨ c = i1 ∨ c = i2 := by simpa using m
        rcases e' with rfl | rfl | rfl | rfl <;> simp)) q) hf hT new
    refine ⟨.ref T, _, I1, rfl, ⟨T, x, y, rfl, I.hok.fresh hT, rfl, fun l hl => by rw [inv_seqK_inj I hl hqx]; exact hx, fun l hl => by rw [inv_seqK_inj I hl hqy]; exact hy⟩, ⟨q1, q2, q3, q4.1, q5.1⟩, fun c hcm => ?_⟩
    have hlt : c < s.heap.objs.size := by
      have e' : c = z ∨ c = TI ∨ c = TO ∨ c = i1 ∨ c = i2 := by simpa using hcm
      obtain ⟨x0, y0, hTO'⟩ := hTO
      rcases e' with rfl | rfl | rfl | rfl | rfl
      · exact Heap.lt_size hz
      · exact Heap.lt_size hTI
      · exact Heap.lt_size hTO'
      · exact Heap.lt_size (itrK_obj h1).choose_spec.1
      · exact Heap.lt_size (itrK_obj h2).choose_spec.1
    rw [upd_ne (Nat.ne_of_lt (Nat.lt_of_lt_of_le hlt hT))]
    exact (hf c hcm).1
  done := by
    intro X hP hw hK hc i pins s σ H E I hf st hg
    subst hP hw hK
    obtain ⟨hz, hTI, hTO, h1, h2⟩ := st
    obtain ⟨xs, ys, hqx, hqy, hend⟩ := hg
    obtain ⟨its, rv, p⟩ := inv_seqK I hqx
    obtain ⟨its2, rv2, p2⟩ := inv_seqK I hqy
    have l1 := rv.length
    have l2 := rv2.length
    have hh : X.A.in1.handled = none := I.ok.hd hc
    have G := GoesN.zip2 (A := X.A) (elts := elts) (x1 := kk) (pos := tpos) S (drawsK (prog := X.prog) (w := X.w) hh k1 i1 a na its.toArray) (drawsK (prog := X.prog) (w := X.w) hh k2 i2 b nb its2.toArray)
    have ei : i = min its.toArray.size its2.toArray.size := by rw [List.size_toArray, List.size_toArray]; omega
    subst ei
    exact G.stops s _ E ⟨hz, hTI, hTO, ⟨h1, p⟩, ⟨h2, p2⟩⟩ fun h' tk hk htk => I.turnedL (t' := tk) (ch := [z, TI, TO, i1, i2]) (fun c o hb q => hk c o (fun m => hb (by
        have e' : c = z ∨ c = TO ∨ c = i1 ∨ c = i2 := by simpa using m
        rcases e' with rfl | rfl | rfl | rfl <;> simp)) q) hf
  self := fun A i s Q E st h => wpAny_pyIter_zip st.1 h
def iZip2 (K : PySem.W.Frag) (ta : TA) : TI := fun σ H R => ta σ H fun vs H1 => ∃ k1 a k2 b xs ys, vs = [.ref a, .ref b] ∧ SqK K H1 k1 a xs ∧ SqK K H1 k2 b ys ∧ R (Itz2 K k1 a k2 b) H1
theorem pi_zip2 {X : Cx} {e e2 : Expr} {ta : TA} {p pos tpos : Pos} {elts : List Expr} {kk : Nat} (hg : Gl X "zip") (hm : X.mg "zip" = none) (ha : PA X [e, e2] ta)
    (hs : starEach [e, e2] X.env = (false, eval e X.env) :: starEach [e2] X.env := by rfl) (hpl : (backTo pos (starEach [e2] X.env)).any (·.1) = false := by rfl) :
    PI X (.Tuple elts kk tpos) (.Call (.Name "zip" p) [e, e2] [] pos) (iZip2 X.K ta) := by
  refine ⟨fun pins s σ H R I h => ?_⟩
  refine Call_ (ld_blt I hg hm PyProof.Rows.boot_zip (PyProof.Rows.callWith_type1 (thn (ha.run pos pins s σ H _ I h) fun us s1 ⟨vs, H1, I1, r1, q1⟩ => ?_) hs hpl))
  obtain ⟨k1, a, k2, b, xs, ys, rfl, hqx, hqy, q⟩ := q1
  obtain ⟨u1, u2, rfl, r, r'⟩ := vals2 r1
  cases r
  cases r'
  obtain ⟨its, rv, p1⟩ := inv_seqK I1 hqx
  obtain ⟨its2, rv2, p2⟩ := inv_seqK I1 hqy
  have la := seqK_lt p1
  have lb := seqK_lt p2
  refine zip_begins2 (beginsK k1 a its.toArray) (beginsK k2 b its2.toArray) p1 p2 fun h' hz hTI hTO g1 g2 hsz hk => wpAny_pyIter_zip hz ?_
  have I2 : Inv X pins σ H1 { s1 with heap := h' } := I1.kept (t' := s1.toks) hk
  refine ⟨s1.heap.objs.size + 4, [s1.heap.objs.size + 4, s1.heap.objs.size + 2, s1.heap.objs.size + 3, s1.heap.objs.size, s1.heap.objs.size + 1], _, _, H1, rfl, I2,
    turn_zip2 (zip_sep2 (N := s1.heap.objs.size) (fp1 := [a]) (fp2 := [b]) (fun c m => by rw [List.mem_singleton.mp m]; exact la) (fun c m => by rw [List.mem_singleton.mp m]; exact lb)) (Nat.ne_of_lt la) (Nat.ne_of_lt (Nat.lt_succ_of_lt lb)),
    ⟨hz, hTI, ⟨_, _, hTO⟩, itrK_of g1, itrK_of g2⟩, fun c hcm => ?_, q⟩
  have hle : s1.heap.objs.size ≤ c := by
    have e' : c = s1.heap.objs.size + 4 ∨ c = s1.heap.objs.size + 2 ∨ c = s1.heap.objs.size + 3 ∨ c = s1.heap.objs.size ∨ c = s1.heap.objs.size + 1 := by simpa using hcm
    rcases e' with e' | e' | e' | e' | e' <;> rw [e'] <;> first | exact Nat.le_refl _ | exact Nat.le_add_right _ _
  exact I1.fpOk hle (I1.hok.fresh hle)
theorem walk_zip2 {K : PySem.W.Frag} {k1 k2 : Ki} {a b : Addr} {xs ys : List V} {n : Nat} (hn : n = min xs.length ys.length) : Walk (Itz2 K k1 a k2 b) n (fun H => SqK K H k1 a xs ∧ SqK K H k2 b ys) (YPair (fun i => xs[i]?) (fun i => ys[i]?)) := by
  refine ⟨fun i _ hi q => ⟨xs, ys, xs[i]'(by omega), ys[i]'(by omega), q.1, q.2, by simp, by simp⟩, fun H q => ⟨xs, ys, q.1, q.2, hn⟩, fun i H v H' _ q y => ?_⟩
  obtain ⟨T, x, z, h1, h2, h3, h4, h5⟩ := y
  exact ⟨T, x, z, h1, h2, h3, h4 xs q.1, h5 ys q.2⟩
end HX

set_option maxRecDepth 100000
set_option maxHeartbeats 1000000
namespace HX
open PySem PySem.Spec PyProof.Rows L2
/-! ### more names of built-ins; two names in a comprehension; all over two walked side by side -/
structure Bi2 (mg : Str → Option Value) : Prop where
  zip_ : mg "zip" = none
  enumerate_ : mg "enumerate" = none
  sum_ : mg "sum" = none
theorem pg_tupK {X : Cx} {K : PySem.W.Frag} {es : List Expr} {k : Nat} {pos : Pos} {t : TGs} {n : Nat} (hc : X.calm = true) (h : PGs X es t) (hK : X.K = K := by rfl)
    (hn : (assignEach es X.env).length = n := by rfl) (hst : (assignEach es X.env).findIdx? (·.1) = none := by rfl) : PG X (.Tuple es k pos) (gTup K n t) := by
  subst hK
  exact pg_tup hc h hn hst
theorem wipe2 {σ : L2.St} {i j : Nat} (h : i ≠ j) (x y : V) : wipe (((wipe σ [i, j]).set i (some x)).set j (some y)) [i, j] = wipe σ [i, j] := by
  show (((((σ.set j none).set i none).set i (some x)).set j (some y)).set j none).set i none = (σ.set j none).set i none
  rw [List.set_set, List.set_set, List.set_comm _ _ h, List.set_set, List.set_set]
theorem read_all2 {K : PySem.W.Frag} {σ : L2.St} {H : Hp} {Q : VK} {i j : Nat} {ta : TA} {te : TE} {k1 k2 : Ki} {a b : Addr} {xs ys : List V} {n : Nat} (p : Nat → Bool) (hij : i ≠ j) (hn : n = min xs.length ys.length)
    (hs : ∀ R : List V → Hp → Prop, R [.ref a, .ref b] H → ta σ H R) (hx : ∀ H', Same H H' → SqK K H' k1 a xs) (hy : ∀ H', Same H H' → SqK K H' k2 b ys) (hz : n ≤ 1000)
    (ht : ∀ (m : Nat) (x y : V) (H' : Hp), Same H H' → m < n → xs[m]? = some x → ys[m]? = some y → ∀ Q' : VK, (∀ H2, Same H' H2 → Q' (.bl (p m)) H2) → te (((wipe σ [i, j]).set i (some x)).set j (some y)) H' Q')
    (q : ∀ H', Same H H' → Q (.bl ((List.range n).all p)) H') : tCB (rAll K) (tCons (tLc (iZip2 K ta) (gTup K 2 (gCons (gName i) (gCons (gName j) gNil))) tYes te [i, j]) tNil) σ H Q := by
  refine hs _ ⟨k1, a, k2, b, xs, ys, rfl, hx H (Same.refl H), hy H (Same.refl H), fun D hD => ?_⟩
  refine lc_it (walk_zip2 hn) (fun m H' => Same H H' ∧ H' D = some (.lst ((List.range m).map fun m => V.bl (p m)))) ⟨Same.new hD, ?_⟩ (fun m H' _ h => ⟨hx H' h.1, hy H' h.1⟩) (fun m v H' H2 hm h hv => ?_) (fun H' h => ?_)
  · rw [upd_same]
    rfl
  · obtain ⟨T, x, y, rfl, nT, rfl, ex, ey⟩ := hv
    have sT : Same H' (upd H' T (.tup [x, y])) := Same.new nT
    refine ⟨T, [x, y], rfl, SqT.of upd_same, rfl, x, [y], rfl, y, [], rfl, rfl, wipe2 hij x y, tYes_eq (iteT (ht m x y _ (h.1.trans sT) hm ex ey _ fun H3 s3 => ?_))⟩
    refine ⟨_, s3 _ _ (sT _ _ h.2), ?_, fun c o e => ?_, ?_⟩
    · rw [List.length_map, List.length_range]
      exact small1000 (by omega)
    · rw [upd_ne (ne_of_none e hD)]
      exact s3 _ _ (sT _ _ (h.1 _ _ e))
    · rw [upd_same, List.range_succ, List.map_append]
      rfl
  · refine ⟨D, (List.range n).map p, rfl, .inl (.inl ?_), ?_⟩
    · rw [h.2, List.map_map]
      rfl
    · rw [List.all_map]
      exact q H' h.1
end HX

set_option maxRecDepth 100000
set_option maxHeartbeats 1000000
namespace HX
open PySem PySem.Spec PyProof.Rows L2
/-! ### enumerate of one thing, list or tuple -/
theorem enum_make {v : Value} {o : Obj} {J : Heap → Prop} (B : Begins v o J) :
    Meets (Builtin.«enumerate.__new__» ⟨[.type "enumerate", v], []⟩) (fun _ R s => J s.heap ∧ R (.ok (.ret (.ref (s.heap.push o).objs.size))) { s with heap := (s.heap.push o).push { cls := .type "enumerate", data := .fields #[.none, .bool false, .ref s.heap.objs.size, rawInt 0, .none, .none] } }) :=
  .of_wp fun prog w A R s h => by
    obtain ⟨hp, g, d, tk, os⟩ := s
    obtain ⟨hJ, h⟩ := h
    have hsub := sub_enumerate
    have goes : ∀ {A' : Around} {E : Value → Shared → Prop} {Q : Value → Shared → Prop}, Q (.ref hp.objs.size) ⟨hp.push o, g, d, tk, os⟩ → wpAny (model prog w) A' (pyIter v) Q E ⟨hp, g, d, tk, os⟩ :=
      fun q => B.iter prog w _ _ ⟨hp, g, d, tk, os⟩ _ hJ q
    wp_walk using goes
    refine wpAny_stack_any fun st => wpAny_pure ?_
    split
    · rename_i c _ _ _ _ _
      cases (c == Value.type "enumerate") <;> (wp_walk using goes; exact ⟨_, rfl, h⟩)
    · wp_walk using goes
      exact ⟨_, rfl, h⟩
theorem enum_call {prog : Program} {w : World} {A : Around} {E : Value → Shared → Prop} {s : Shared} {v : Value} {o : Obj} {J : Heap → Prop} {Q : Value → Shared → Prop} (B : Begins v o J) (hJ : J s.heap)
    (h : ∀ h', IsEnum h' (s.heap.objs.size + 1) s.heap.objs.size 0 .none → h'.get? s.heap.objs.size = some o → h'.objs.size = s.heap.objs.size + 2 → (∀ b o, s.heap.get? b = some o → h'.get? b = some o) → Q (.ref (s.heap.objs.size + 1)) { s with heap := h' }) :
    wpAny (model prog w) A (call (.type "enumerate") [v]) Q E s := by
  refine callType_new F.called_enumerate (by decide) (F.typeCall_enumerate_1 _) (F.newCall_enumerate_1 _) (fun obj => F.args_object_init_2 obj _) F.entry_enumerate_new (enum_make B) ⟨hJ, ?_⟩
  have hz : (s.heap.push o).objs.size = s.heap.objs.size + 1 := Heap.size_push ..
  show _ ∧ _
  rw [hz]
  have he : IsEnum ((s.heap.push o).push { cls := .type "enumerate", data := .fields #[.none, .bool false, .ref s.heap.objs.size, rawInt 0, .none, .none] }) (s.heap.objs.size + 1) s.heap.objs.size 0 .none := by
    have e := Heap.get?_push_size (s.heap.push o) (o := { cls := .type "enumerate", data := .fields #[.none, .bool false, .ref s.heap.objs.size, rawInt 0, .none, .none] }) rfl
    rw [hz] at e
    exact e
  exact ⟨⟨_, he, rfl⟩, h _ he (Heap.get?_push_of_some _ (Heap.get?_push_size _ B.free)) (by rw [Heap.size_push, hz]) fun b o x => Heap.get?_push_of_some _ (Heap.get?_push_of_some _ x)⟩
def IteK (K : PySem.W.Frag) (k : Ki) (a : Addr) : It :=
  ⟨fun i H => ∃ (xs : List V) (x : V), SqK K H k a xs ∧ xs[i]? = some x,
    fun i H v H' => ∃ T x, v = .ref T ∧ H T = none ∧ H' = upd H T (.tup [.int (i : Nat), x]) ∧ ∀ xs, SqK K H k a xs → xs[i]? = some x,
    fun i H => ∃ xs : List V, SqK K H k a xs ∧ i = xs.length⟩
theorem turn_enumK {P : Program} {w : World} {K : PySem.W.Frag} {elts : List Expr} {kk : Nat} {tpos : Pos} {k : Ki} {a e it : Addr} (nei : e ≠ it) (nea : e ≠ a) (na : a ≠ it) :
    Turn P w K (.Tuple elts kk tpos) (IteK K k a) [e, it] e (fun i h => (∃ old, IsEnum h e it ((0 : Int) + (i : Int)) old) ∧ ItrK h k it a i) where
  mem := by simp
  obj := fun i h st c hc => by
    obtain ⟨⟨old, he⟩, h1⟩ := st
    have e' : c = e ∨ c = it := by simpa using hc
    rcases e' with rfl | rfl
    · exact ⟨_, he, fun v q => nomatch q⟩
    · exact itrK_obj h1
  keep := fun i h h' st k => by
    obtain ⟨⟨old, he⟩, h1⟩ := st
    exact ⟨⟨old, k e (by simp) _ he⟩, itrK_at h1 fun o q => k it (by simp) o q⟩
  item := by
    intro X hP hw hK hc i pins s σ H E I hf st hg
    subst hP hw hK
    obtain ⟨he, h1⟩ := st
    obtain ⟨xs, x, hqx, hx⟩ := hg
    obtain ⟨its, rv, p⟩ := inv_seqK I hqx
    have l1 := rv.length
    have b1 := (List.getElem?_eq_some_iff.mp hx).1
    have hh : X.A.in1.handled = none := I.ok.hd hc
    have G := GoesN.enumFrom (A := X.A) (elts := elts) (x1 := kk) (pos := tpos) 0 (drawsK (prog := X.prog) (w := X.w) hh k it a na its.toArray) e nei (by simp [nei, nea]) (by simp)
    refine G.goes i s _ E (by rw [List.size_toArray]; omega) ⟨he, ⟨h1, p⟩⟩ fun v h' tk hY st' hk htk => ?_
    obtain ⟨T, t, u, rfl, hT, hu, hTup⟩ := hY
    obtain ⟨q1, q2, q3⟩ := st'
    obtain ⟨u', e1, ru⟩ := rv.get hx
    have e3 : u' = u := Option.some.inj (e1.symm.trans (by simpa using hu))
    subst e3
    have e0 : (0 : Int) + (i : Int) = ((i : Nat) : Int) := by omega
    rw [e0] at hTup
    have new : ObjOk X.prog X.w (upd H T (.tup [.int (i : Nat), x])) h' T (.tup [.int (i : Nat), x]) := ⟨by show 2 ≤ sizeLine; decide, [.int (i : Nat) t, u'], .cons ⟨_, rfl⟩ (.cons ru .nil), hTup⟩
    have I1 : Inv X pins σ (upd H T (.tup [.int (i : Nat), x])) { s with heap := h', toks := tk } := I.turnedNew (t' := tk) (ch := [e, it]) (fun c o hb q => hk c o hb q) hf hT new
    refine ⟨.ref T, _, I1, rfl, ⟨T, x, rfl, I.hok.fresh hT, rfl, fun l hl => by rw [inv_seqK_inj I hl hqx]; exact hx⟩, ⟨q1, q2⟩, fun c hcm => ?_⟩
    have hlt : c < s.heap.objs.size := by
      have e' : c = e ∨ c = it := by simpa using hcm
      obtain ⟨old, he'⟩ := he
      rcases e' with rfl | rfl
      · exact Heap.lt_size he'
      · exact Heap.lt_size (itrK_obj h1).choose_spec.1
    rw [upd_ne (Nat.ne_of_lt (Nat.lt_of_lt_of_le hlt hT))]
    exact (hf c hcm).1
  done := by
    intro X hP hw hK hc i pins s σ H E I hf st hg
    subst hP hw hK
    obtain ⟨he, h1⟩ := st
    obtain ⟨xs, hqx, hend⟩ := hg
    obtain ⟨its, rv, p⟩ := inv_seqK I hqx
    have l1 := rv.length
    have hh : X.A.in1.handled = none := I.ok.hd hc
    have G := GoesN.enumFrom (A := X.A) (elts := elts) (x1 := kk) (pos := tpos) 0 (drawsK (prog := X.prog) (w := X.w) hh k it a na its.toArray) e nei (by simp [nei, nea]) (by simp)
    have ei : i = its.toArray.size := by rw [List.size_toArray]; omega
    subst ei
    exact G.stops s _ E ⟨he, ⟨h1, p⟩⟩ fun h' tk hk htk => I.turnedL (t' := tk) (ch := [e, it]) (fun c o hb q => hk c o hb q) hf
  self := fun A i s Q E st h => let ⟨⟨_, he⟩, _⟩ := st; wpAny_pyIter_enum he h
def iEnumK (K : PySem.W.Frag) (ta : TA) : TI := fun σ H R => ta σ H fun vs H1 => ∃ k a xs, vs = [.ref a] ∧ SqK K H1 k a xs ∧ R (IteK K k a) H1
theorem pi_enumT {X : Cx} {e : Expr} {ta : TA} {p pos tpos : Pos} {elts : List Expr} {kk : Nat} (hg : Gl X "enumerate") (hm : X.mg "enumerate" = none) (ha : PA X [e] ta) (hs : starEach [e] X.env = [(false, eval e X.env)] := by rfl) :
    PI X (.Tuple elts kk tpos) (.Call (.Name "enumerate" p) [e] [] pos) (iEnumK X.K ta) := by
  refine ⟨fun pins s σ H R I h => ?_⟩
  refine Call_ (ld_blt I hg hm boot_enumerate (PyProof.Rows.callWith_type1 (thn (ha.run pos pins s σ H _ I h) fun us s1 ⟨vs, H1, I1, r1, q1⟩ => ?_) hs rfl))
  obtain ⟨k, a, xs, rfl, hqx, q⟩ := q1
  obtain ⟨u1, rfl, r⟩ := vals1 r1
  cases r
  obtain ⟨its, rv, p1⟩ := inv_seqK I1 hqx
  have la := seqK_lt p1
  refine enum_call (beginsK k a its.toArray) p1 fun h' he g1 hsz hk => wpAny_pyIter_enum he ?_
  have I2 : Inv X pins σ H1 { s1 with heap := h' } := I1.kept (t' := s1.toks) hk
  refine ⟨s1.heap.objs.size + 1, [s1.heap.objs.size + 1, s1.heap.objs.size], _, _, H1, rfl, I2, turn_enumK (Nat.succ_ne_self _) (Nat.ne_of_gt (Nat.lt_succ_of_lt la)) (Nat.ne_of_lt la), ⟨⟨.none, he⟩, itrK_of g1⟩, fun c hcm => ?_, q⟩
  have hle : s1.heap.objs.size ≤ c := by
    have e' : c = s1.heap.objs.size + 1 ∨ c = s1.heap.objs.size := by simpa using hcm
    rcases e' with e' | e' <;> rw [e'] <;> first | exact Nat.le_refl _ | exact Nat.le_add_right _ _
  exact I1.fpOk hle (I1.hok.fresh hle)
theorem walk_enumK {K : PySem.W.Frag} {k : Ki} {a : Addr} {xs : List V} : Walk (IteK K k a) xs.length (fun H => SqK K H k a xs) (YPair (fun i => some (.int (i : Nat))) (fun i => xs[i]?)) := by
  refine ⟨fun i _ hi q => ⟨xs, xs[i], q, by simp⟩, fun H q => ⟨xs, q, rfl⟩, fun i H v H' _ q y => ?_⟩
  obtain ⟨T, x, h1, h2, h3, h4⟩ := y
  exact ⟨T, .int (i : Nat), x, h1, h2, h3, rfl, h4 xs q⟩
/-! ### what stands in a list, by values: xs[i] op= e -/
def rGetL (K : PySem.W.Frag) : V → V → Hp → VK → Prop := fun o i H Q => ∃ p xs j z, o = .ref p ∧ i = .int ((j : Nat) : Int) ∧ SqL K H p xs ∧ xs[j]? = some z ∧ Q z H
theorem get_list {X : Cx} : PGet X (rGetL X.K) := by
  intro pins s σ H o i ov iv Q I ro ri h
  obtain ⟨p, xs, j, z, rfl, rfl, hq, hz, q⟩ := h
  cases ro
  obtain ⟨t, rfl⟩ := ri
  obtain ⟨its, r, pl, hsz⟩ := I.list hq
  obtain ⟨u, e, ru⟩ := r.get hz
  have hj := (List.getElem?_eq_some_iff.mp hz).1
  have hn := line63
  exact wpAny_getItem_list pl.isList (by omega) (by omega) (by simpa using e) ⟨z, H, I, ru, q⟩
end HX

set_option maxRecDepth 100000
set_option maxHeartbeats 1000000
namespace HX
open PySem PySem.Spec PyProof.Rows L2
/-! ### marbles handled, on plain lists -/
structure Mo where
  st : List Int
  wt : List Int
  hd : List Int
def bump (l : List Int) (i : Nat) (d : Int) : List Int := l.set i (l.getD i 0 + d)
theorem bump_len {l : List Int} {i : Nat} {d : Int} : (bump l i d).length = l.length := List.length_set
def sendM (W : Nat) (p : List Int × List Int) (e : Int) : List Int × List Int := if e < (W : Int) then (bump p.1 e.toNat 1, p.2) else (p.1, bump p.2 (e - (W : Int)).toNat 1)
def endsAt (ws : List (List (List Int))) (st : List Int) (w : Nat) : List Int := (ws.getD w []).getD (st.getD w 0).toNat []
def sentM (ws : List (List (List Int))) (m : Mo) (w : Nat) : List Int × List Int := (endsAt ws m.st w).foldl (sendM ws.length) (bump m.wt w (-1), m.hd)
def handleM (ws : List (List (List Int))) (m : Mo) (w : Nat) : Mo := ⟨m.st.set w ((m.st.getD w 0 + 1) % ((ws.getD w []).length : Int)), (sentM ws m w).1, (sentM ws m w).2⟩
/-- of its form: as many as there are, each wheel at one of its steps -/
structure MoF (ws : List (List (List Int))) (c : Int) (m : Mo) : Prop where
  sl : m.st.length = ws.length
  sr : ∀ (i : Nat) (s : Int) (w : List (List Int)), m.st[i]? = some s → ws[i]? = some w → 0 ≤ s ∧ s < (w.length : Int)
  wl : m.wt.length = ws.length
  hl : (m.hd.length : Int) = c
structure MoOk (ws : List (List (List Int))) (c : Int) (m : Mo) : Prop extends MoF ws c m where
  wn : ∀ x ∈ m.wt, 0 ≤ x
  hn : ∀ x ∈ m.hd, 0 ≤ x
theorem send_len (W : Nat) : ∀ (es : List Int) (p : List Int × List Int), ((es.foldl (sendM W) p).1.length = p.1.length) ∧ ((es.foldl (sendM W) p).2.length = p.2.length)
  | [], p => ⟨rfl, rfl⟩
  | e :: es, p => by
    obtain ⟨h1, h2⟩ := send_len W es (sendM W p e)
    rw [List.foldl_cons]
    refine ⟨h1.trans ?_, h2.trans ?_⟩
    · unfold sendM
      split
      · exact bump_len
      · rfl
    · unfold sendM
      split
      · rfl
      · exact bump_len
theorem bump_nn {l : List Int} {i : Nat} {d : Int} (h : ∀ x ∈ l, 0 ≤ x) (hd : 0 ≤ l.getD i 0 + d) : ∀ x ∈ bump l i d, 0 ≤ x := by
  intro x hx
  rcases List.mem_or_eq_of_mem_set hx with hx | hx
  · exact h x hx
  · rw [hx]
    exact hd
theorem getD_nn {l : List Int} {i : Nat} (h : ∀ x ∈ l, 0 ≤ x) : 0 ≤ l.getD i 0 := by
  rw [List.getD_eq_getElem?_getD]
  cases e : l[i]? with
  | none => exact Int.le_refl 0
  | some x => exact h x (List.mem_of_getElem? e)
theorem send_nn (W : Nat) : ∀ (es : List Int) (p : List Int × List Int), (∀ x ∈ p.1, 0 ≤ x) → (∀ x ∈ p.2, 0 ≤ x) → (∀ x ∈ (es.foldl (sendM W) p).1, 0 ≤ x) ∧ ∀ x ∈ (es.foldl (sendM W) p).2, 0 ≤ x
  | [], p, h1, h2 => ⟨h1, h2⟩
  | e :: es, p, h1, h2 => by
    rw [List.foldl_cons]
    refine send_nn W es _ ?_ ?_
    · unfold sendM
      split
      · exact bump_nn h1 (by have := getD_nn (i := e.toNat) h1; omega)
      · exact h1
    · unfold sendM
      split
      · exact h2
      · exact bump_nn h2 (by have := getD_nn (i := (e - (W : Int)).toNat) h2; omega)
theorem MoF.handle {ws : List (List (List Int))} {c : Int} {m : Mo} {w : Nat} (h : MoF ws c m) (hw : ∀ x ∈ ws, 1 ≤ x.length) : MoF ws c (handleM ws m w) := by
  obtain ⟨l1, l2⟩ := send_len ws.length (endsAt ws m.st w) (bump m.wt w (-1), m.hd)
  refine ⟨?_, fun i s x e1 e2 => ?_, ?_, ?_⟩
  · show (m.st.set _ _).length = _
    rw [List.length_set]
    exact h.sl
  · have e1' : (m.st.set w ((m.st.getD w 0 + 1) % ((ws.getD w []).length : Int)))[i]? = some s := e1
    rw [List.getElem?_set] at e1'
    split at e1'
    · rename_i q
      subst q
      split at e1'
      · have e3 := Option.some.inj e1'
        have hx := hw x (List.mem_of_getElem? e2)
        have e4 : ws.getD w [] = x := by
          rw [List.getD_eq_getElem?_getD, e2]
          rfl
        rw [← e3, e4]
        exact ⟨Int.emod_nonneg _ (by omega), Int.emod_lt_of_pos _ (by omega)⟩
      · cases e1'
    · exact h.sr i s x e1' e2
  · show (sentM ws m w).1.length = _
    unfold sentM
    rw [l1, bump_len]
    exact h.wl
  · show ((sentM ws m w).2.length : Int) = _
    unfold sentM
    rw [l2]
    exact h.hl
theorem MoOk.handle {ws : List (List (List Int))} {c : Int} {m : Mo} {w : Nat} (h : MoOk ws c m) (hw : ∀ x ∈ ws, 1 ≤ x.length) (hp : 0 < m.wt.getD w 0) : MoOk ws c (handleM ws m w) := by
  obtain ⟨n1, n2⟩ := send_nn ws.length (endsAt ws m.st w) (bump m.wt w (-1), m.hd) (bump_nn h.wn (by omega)) h.hn
  exact ⟨h.toMoF.handle hw, n1, n2⟩
/-! ### the lists in the heap -/
theorem getI {l : List Int} {i : Nat} (h : i < l.length) : (l.map V.int)[i]? = some (.int (l.getD i 0)) := by
  rw [List.getElem?_map, List.getD_eq_getElem?_getD, List.getElem?_eq_getElem h]
  rfl
theorem ixN_nat {n j : Nat} (h : j < n) : ixN n (j : Int) = some j := by
  unfold ixN
  rw [if_pos (Int.natCast_nonneg j), if_pos (by omega)]
  rfl
theorem setI {l : List Int} {i : Nat} {z : Int} : (l.map V.int).set i (.int z) = (l.set i z).map V.int := (List.map_set ..).symm
theorem KT.kpN {N : Addr → Prop} {H H' : Hp} (hl : ∀ b, N b → ∃ xs, H b = some (.lst xs)) (k : Kp N H H') : KT H H' := fun b ys e => k b _ e fun n => by
  obtain ⟨xs, e'⟩ := hl b n
  rw [e] at e'
  cases e'
def N3 (a b c : Addr) : Addr → Prop := fun x => x = a ∨ x = b ∨ x = c
/-- a moment's three lists -/
structure Laid (H : Hp) (a b c : Addr) (m : Mo) : Prop where
  s : H a = some (.lst (m.st.map V.int))
  w : H b = some (.lst (m.wt.map V.int))
  h : H c = some (.lst (m.hd.map V.int))
  nab : a ≠ b
  nac : a ≠ c
  nbc : b ≠ c
theorem Laid.kt {H H' : Hp} {a b c : Addr} {m : Mo} (l : Laid H a b c m) (k : Kp (N3 a b c) H H') : KT H H' := KT.kpN (fun x n => by
  rcases n with rfl | rfl | rfl
  · exact ⟨_, l.s⟩
  · exact ⟨_, l.w⟩
  · exact ⟨_, l.h⟩) k
theorem TdAll.wheelAt {H : Hp} {ys : List V} {ws : List (List (List Int))} (h : TdAll H ys (ws.map wheelD)) {i : Nat} (hi : i < ws.length) : ∃ az zs, ys[i]? = some (.ref az) ∧ H az = some (.tup zs) ∧ TdAll H zs ((ws.getD i []).map stepD) := by
  obtain ⟨v, e1, e2⟩ := h.at (i := i) (d := wheelD (ws.getD i [])) (by
    rw [List.getElem?_map, List.getD_eq_getElem?_getD, List.getElem?_eq_getElem hi]
    rfl)
  obtain ⟨az, zs, rfl, ez, hz⟩ := Td.tupOf e2
  exact ⟨az, zs, e1, ez, hz⟩
theorem TdAll.stepAt {H : Hp} {zs : List V} {w : List (List Int)} (h : TdAll H zs (w.map stepD)) {i : Nat} (hi : i < w.length) : ∃ ae, zs[i]? = some (.ref ae) ∧ H ae = some (.tup ((w.getD i []).map V.int)) := by
  obtain ⟨v, e1, e2⟩ := h.at (i := i) (d := stepD (w.getD i [])) (by
    rw [List.getElem?_map, List.getD_eq_getElem?_getD, List.getElem?_eq_getElem hi]
    rfl)
  obtain ⟨ae, es, rfl, ee, he⟩ := Td.tupOf e2
  refine ⟨ae, e1, ?_⟩
  rw [ee]
  have : ∀ (ns : List Int) (vs : List V), TdAll H vs (ns.map PyData.int) → vs = ns.map V.int := by
    intro ns
    induction ns with
    | nil => intro vs h; cases h; rfl
    | cons n ns ih =>
      intro vs h
      cases h with
      | cons h1 h2 => rw [h1.intOf, ih _ h2]; rfl
  rw [this _ _ he]
theorem Td.boardOf {H : Hp} {v : V} {ws : List (List (List Int))} {c : Int} (h : Td H v (boardD ws c)) : ∃ ab aw ys, v = .ref ab ∧ H ab = some (.tup [.ref aw, .int c]) ∧ H aw = some (.tup ys) ∧ TdAll H ys (ws.map wheelD) := by
  obtain ⟨ab, xs, rfl, eb, hx⟩ := Td.tupOf h
  cases hx with
  | @cons vw vs1 _ _ hw hr1 =>
  cases hr1 with
  | @cons vc vs2 _ _ hc hr2 =>
  cases hr2
  obtain rfl := hc.intOf
  obtain ⟨aw, ys, rfl, ew, hy⟩ := Td.tupOf hw
  exact ⟨ab, aw, ys, rfl, eb, ew, hy⟩
end HX

set_option maxRecDepth 100000
set_option maxHeartbeats 1000000
namespace HX
open PySem PySem.Spec PyProof.Rows L2
/-! ### sum of a tuple, count in a tuple -/
def rSumT (K : PySem.W.Frag) : List V → Hp → VK → Prop := fun vs H Q => ∃ (a : Addr) (ns : List Int), vs = [V.ref a] ∧ SqT K H a (ns.map V.int) ∧ Q (.int ns.sum) H
theorem cr_sumT {X : Cx} (hc : X.calm = true) : CallR X (.builtin "sum") (rSumT X.K) := by
  intro pins s σ H vs us Q I r h
  obtain ⟨a, ns, rfl, hs, q⟩ := h
  obtain ⟨its, rv, hl, _⟩ := I.tuple hs
  obtain ⟨u, rfl, ru⟩ := vals1 r
  cases ru
  have hi := ints_of_vals rv
  obtain ⟨xs, e⟩ := hi.allInts.items
  have hn : numsOf (intItems xs).toList = ns := by rw [← e]; exact hi.numsOf
  rw [nums_intItems] at hn
  rw [e] at hl
  refine PySem.W.ktm_sumG (I.ok.hd hc) hl fun h' tk t' hk => ?_
  have fin : EP X pins σ Q (.int ns.sum t') { s with heap := h', toks := tk } := ⟨.int _, H, I.kept hk, ⟨_, rfl⟩, q⟩
  rw [preSum_eq, List.take_of_length_le (by simp), hn]
  exact fin
def rCntT (K : PySem.W.Frag) : V → List V → Hp → VK → Prop := fun x xs H Q => ∃ (p : Addr) (ns : List Int) (k : Int), x = .ref p ∧ xs = [.int k] ∧ SqT K H p (ns.map V.int) ∧ Q (.int (ns.count k : Nat)) H
theorem mt_tcount {X : Cx} : MtR X "tuple.count" (rCntT X.K) := by
  intro pins s σ H x xs v us Q I rx rxs h
  obtain ⟨p, ns, k, rfl, rfl, hs, q⟩ := h
  cases rx
  obtain ⟨u, rfl, ru⟩ := rxs.one
  obtain ⟨t, rfl⟩ := ru
  obtain ⟨its, rv, ⟨⟨cls, dd, data, sl⟩, ho, hc, n, hd⟩, hlen⟩ := I.tuple hs
  simp only at hc hd
  subst hc hd
  have hi := ints_of_vals rv
  refine call_meets PySem.F.slot_tuple_count ⟨_, ho, rfl⟩ PySem.F.entry_tuple_count (PySem.F.args_tuple_count_2 _ _)
    (SeqAt.tuple_countAt p its.toArray n dd sl (.int k t) (eqk k)) ⟨ho, fun y hy => (eqk_gives hi y (by simpa using hy)).at _ _, ?_⟩
  have ec : its.toArray.toList.countP (eqk k) = ns.count k := eqk_count hi
  refine ⟨.int (ns.count k : Nat), H, I.tok _, ⟨s.toks, ?_⟩, q⟩
  show Value.int ((its.toArray.toList.countP (eqk k) : Nat) : Int) s.toks = Value.int ((ns.count k : Nat) : Int) s.toks
  rw [ec]
/-! ### zip of three -/
def Itz3 (K : PySem.W.Frag) (k1 : Ki) (a : Addr) (k2 : Ki) (b : Addr) (k3 : Ki) (c : Addr) : It :=
  ⟨fun i H => ∃ (xs ys zs : List V) (x y z : V), SqK K H k1 a xs ∧ SqK K H k2 b ys ∧ SqK K H k3 c zs ∧ xs[i]? = some x ∧ ys[i]? = some y ∧ zs[i]? = some z,
    fun i H v H' => ∃ T x y z, v = .ref T ∧ H T = none ∧ H' = upd H T (.tup [x, y, z]) ∧ (∀ xs, SqK K H k1 a xs → xs[i]? = some x) ∧ (∀ ys, SqK K H k2 b ys → ys[i]? = some y) ∧ ∀ zs, SqK K H k3 c zs → zs[i]? = some z,
    fun i H => ∃ xs ys zs : List V, SqK K H k1 a xs ∧ SqK K H k2 b ys ∧ SqK K H k3 c zs ∧ i = min (min xs.length ys.length) zs.length⟩
theorem turn_zip3 {P : Program} {w : World} {K : PySem.W.Frag} {elts : List Expr} {kk : Nat} {tpos : Pos} {k1 k2 k3 : Ki} {a b c z TI TO i1 i2 i3 : Addr} (S : ZipSep3 z TI TO i1 i2 i3 [i1, a] [i2, b] [i3, c]) (na : a ≠ i1) (nb : b ≠ i2) (nc : c ≠ i3) :
    Turn P w K (.Tuple elts kk tpos) (Itz3 K k1 a k2 b k3 c) [z, TI, TO, i1, i2, i3] z (fun i h => IsZip h z TI TO .none ∧ IsTupOf3 h TI (.ref i1) (.ref i2) (.ref i3) ∧ (∃ x y u, IsTupOf3 h TO x y u) ∧ ItrK h k1 i1 a i ∧ ItrK h k2 i2 b i ∧ ItrK h k3 i3 c i) where
  mem := by simp
  obj := fun i h st d hc => by
    obtain ⟨hz, hTI, ⟨x, y, u, hTO⟩, h1, h2, h3⟩ := st
    have e' : d = z ∨ d = TI ∨ d = TO ∨ d = i1 ∨ d = i2 ∨ d = i3 := by simpa using hc
    rcases e' with rfl | rfl | rfl | rfl | rfl | rfl
    · exact ⟨_, hz, fun v q => nomatch q⟩
    · exact ⟨_, hTI, fun v q => nomatch q⟩
    · exact ⟨_, hTO, fun v q => nomatch q⟩
    · exact itrK_obj h1
    · exact itrK_obj h2
    · exact itrK_obj h3
  keep := fun i h h' st k => by
    obtain ⟨hz, hTI, ⟨x, y, u, hTO⟩, h1, h2, h3⟩ := st
    exact ⟨k z (by simp) _ hz, k TI (by simp) _ hTI, ⟨x, y, u, k TO (by simp) _ hTO⟩, itrK_at h1 fun o q => k i1 (by simp) o q, itrK_at h2 fun o q => k i2 (by simp) o q, itrK_at h3 fun o q => k i3 (by simp) o q⟩
  item := by
    intro X hP hw hK hc i pins s σ H E I hf st hg
    subst hP hw hK
    obtain ⟨hz, hTI, hTO, h1, h2, h3⟩ := st
    obtain ⟨xs, ys, zs, x, y, t, hqx, hqy, hqz, hx, hy, ht⟩ := hg
    obtain ⟨its, rv, p⟩ := inv_seqK I hqx
    obtain ⟨its2, rv2, p2⟩ := inv_seqK I hqy
    obtain ⟨its3, rv3, p3⟩ := inv_seqK I hqz
    have l1 := rv.length
    have l2 := rv2.length
    have l3 := rv3.length
    have b1 := (List.getElem?_eq_some_iff.mp hx).1
    have b2 := (List.getElem?_eq_some_iff.mp hy).1
    have b3 := (List.getElem?_eq_some_iff.mp ht).1
    have hh : X.A.in1.handled = none := I.ok.hd hc
    have G := GoesN.zip3 (A := X.A) (elts := elts) (x1 := kk) (pos := tpos) S (drawsK (prog := X.prog) (w := X.w) hh k1 i1 a na its.toArray) (drawsK (prog := X.prog) (w := X.w) hh k2 i2 b nb its2.toArray) (drawsK (prog := X.prog) (w := X.w) hh k3 i3 c nc its3.toArray)
    refine G.goes i s _ E (by rw [List.size_toArray, List.size_toArray, List.size_toArray]; omega) ⟨hz, hTI, hTO, ⟨h1, p⟩, ⟨h2, p2⟩, ⟨h3, p3⟩⟩ fun v h' tk hY st' hk htk => ?_
    obtain ⟨T, u, u2, u3, rfl, hT, hu, hu2, hu3, hTup⟩ := hY
    obtain ⟨q1, q2, q3, q4, q5, q6⟩ := st'
    obtain ⟨u', e1, ru⟩ := rv.get hx
    obtain ⟨u2', e2, ru2⟩ := rv2.get hy
    obtain ⟨u3', e3, ru3⟩ := rv3.get ht
    have f1 : u' = u := Option.some.inj (e1.symm.trans (by simpa using hu))
    have f2 : u2' = u2 := Option.some.inj (e2.symm.trans (by simpa using hu2))
    have f3 : u3' = u3 := Option.some.inj (e3.symm.trans (by simpa using hu3))
    subst f1 f2 f3
    have new : ObjOk X.prog X.w (upd H T (.tup [x, y, t])) h' T (.tup [x, y, t]) := ⟨by show 3 ≤ sizeLine; decide, [u', u2', u3'], .cons ru (.cons ru2 (.cons ru3 .nil)), hTup⟩
    have I1 : Inv X pins σ (upd H T (.tup [x, y, t])) { s with heap := h', toks := tk } :=
      I.turnedNew (t' := tk) (ch := [z, TI, TO, i1, i2, i3]) (fun d o hb q => hk d o (fun m => hb (by
        have e' : d = z ∨ d = TO ∨ d = i1 ∨ d = i2 ∨ d = i3 := by simpa using m
        rcases e' with rfl | rfl | rfl | rfl | rfl <;> simp)) q) hf hT new
    refine ⟨.ref T, _, I1, rfl, ⟨T, x, y, t, rfl, I.hok.fresh hT, rfl, fun l hl => by rw [inv_seqK_inj I hl hqx]; exact hx, fun l hl => by rw [inv_seqK_inj I hl hqy]; exact hy, fun l hl => by rw [inv_seqK_inj I hl hqz]; exact ht⟩, ⟨q1, q2, q3, q4.1, q5.1, q6.1⟩, fun d hcm => ?_⟩
    have hlt : d < s.heap.objs.size := by
      have e' : d = z ∨ d = TI ∨ d = TO ∨ d = i1 ∨ d = i2 ∨ d = i3 := by simpa using hcm
      obtain ⟨x0, y0, u0, hTO'⟩ := hTO
      rcases e' with rfl | rfl | rfl | rfl | rfl | rfl
      · exact Heap.lt_size hz
      · exact Heap.lt_size hTI
      · exact Heap.lt_size hTO'
      · exact Heap.lt_size (itrK_obj h1).choose_spec.1
      · exact Heap.lt_size (itrK_obj h2).choose_spec.1
      · exact Heap.lt_size (itrK_obj h3).choose_spec.1
    rw [upd_ne (Nat.ne_of_lt (Nat.lt_of_lt_of_le hlt hT))]
    exact (hf d hcm).1
  done := by
    intro X hP hw hK hc i pins s σ H E I hf st hg
    subst hP hw hK
    obtain ⟨hz, hTI, hTO, h1, h2, h3⟩ := st
    obtain ⟨xs, ys, zs, hqx, hqy, hqz, hend⟩ := hg
    obtain ⟨its, rv, p⟩ := inv_seqK I hqx
    obtain ⟨its2, rv2, p2⟩ := inv_seqK I hqy
    obtain ⟨its3, rv3, p3⟩ := inv_seqK I hqz
    have l1 := rv.length
    have l2 := rv2.length
    have l3 := rv3.length
    have hh : X.A.in1.handled = none := I.ok.hd hc
    have G := GoesN.zip3 (A := X.A) (elts := elts) (x1 := kk) (pos := tpos) S (drawsK (prog := X.prog) (w := X.w) hh k1 i1 a na its.toArray) (drawsK (prog := X.prog) (w := X.w) hh k2 i2 b nb its2.toArray) (drawsK (prog := X.prog) (w := X.w) hh k3 i3 c nc its3.toArray)
    have ei : i = min (min its.toArray.size its2.toArray.size) its3.toArray.size := by rw [List.size_toArray, List.size_toArray, List.size_toArray]; omega
    subst ei
    exact G.stops s _ E ⟨hz, hTI, hTO, ⟨h1, p⟩, ⟨h2, p2⟩, ⟨h3, p3⟩⟩ fun h' tk hk htk => I.turnedL (t' := tk) (ch := [z, TI, TO, i1, i2, i3]) (fun d o hb q => hk d o (fun m => hb (by
        have e' : d = z ∨ d = TO ∨ d = i1 ∨ d = i2 ∨ d = i3 := by simpa using m
        rcases e' with rfl | rfl | rfl | rfl | rfl <;> simp)) q) hf
  self := fun A i s Q E st h => wpAny_pyIter_zip st.1 h
def iZip3 (K : PySem.W.Frag) (ta : TA) : TI := fun σ H R => ta σ H fun vs H1 => ∃ k1 a k2 b k3 c xs ys zs, vs = [.ref a, .ref b, .ref c] ∧ SqK K H1 k1 a xs ∧ SqK K H1 k2 b ys ∧ SqK K H1 k3 c zs ∧ R (Itz3 K k1 a k2 b k3 c) H1
theorem vals3 {v1 v2 v3 : V} {us : List Value} (h : Vals [v1, v2, v3] us) : ∃ u1 u2 u3, us = [u1, u2, u3] ∧ RelV v1 u1 ∧ RelV v2 u2 ∧ RelV v3 u3 := by
  cases h with
  | cons r rr =>
    cases rr with
    | cons r2 rr2 =>
      cases rr2 with
      | cons r3 rr3 =>
        cases rr3
        exact ⟨_, _, _, rfl, r, r2, r3⟩
theorem pi_zip3 {X : Cx} {e e2 e3 : Expr} {ta : TA} {p pos tpos : Pos} {elts : List Expr} {kk : Nat} (hg : Gl X "zip") (hm : X.mg "zip" = none) (ha : PA X [e, e2, e3] ta)
    (hs : starEach [e, e2, e3] X.env = (false, eval e X.env) :: starEach [e2, e3] X.env := by rfl) (hpl : (backTo pos (starEach [e2, e3] X.env)).any (·.1) = false := by rfl) :
    PI X (.Tuple elts kk tpos) (.Call (.Name "zip" p) [e, e2, e3] [] pos) (iZip3 X.K ta) := by
  refine ⟨fun pins s σ H R I h => ?_⟩
  refine Call_ (ld_blt I hg hm PyProof.Rows.boot_zip (PyProof.Rows.callWith_type1 (thn (ha.run pos pins s σ H _ I h) fun us s1 ⟨vs, H1, I1, r1, q1⟩ => ?_) hs hpl))
  obtain ⟨k1, a, k2, b, k3, c, xs, ys, zs, rfl, hqx, hqy, hqz, q⟩ := q1
  obtain ⟨u1, u2, u3, rfl, r, r', r''⟩ := vals3 r1
  cases r
  cases r'
  cases r''
  obtain ⟨its, rv, p1⟩ := inv_seqK I1 hqx
  obtain ⟨its2, rv2, p2⟩ := inv_seqK I1 hqy
  obtain ⟨its3, rv3, p3⟩ := inv_seqK I1 hqz
  have la := seqK_lt p1
  have lb := seqK_lt p2
  have lc := seqK_lt p3
  refine zip_begins3 (beginsK k1 a its.toArray) (beginsK k2 b its2.toArray) (beginsK k3 c its3.toArray) p1 p2 p3 fun h' hz hTI hTO g1 g2 g3 hsz hk => wpAny_pyIter_zip hz ?_
  have I2 : Inv X pins σ H1 { s1 with heap := h' } := I1.kept (t' := s1.toks) hk
  refine ⟨s1.heap.objs.size + 5, [s1.heap.objs.size + 5, s1.heap.objs.size + 3, s1.heap.objs.size + 4, s1.heap.objs.size, s1.heap.objs.size + 1, s1.heap.objs.size + 2], _, _, H1, rfl, I2,
    turn_zip3 (zip_sep3 (N := s1.heap.objs.size) (fp1 := [a]) (fp2 := [b]) (fp3 := [c]) (fun d m => by rw [List.mem_singleton.mp m]; exact la) (fun d m => by rw [List.mem_singleton.mp m]; exact lb) (fun d m => by rw [List.mem_singleton.mp m]; exact lc)) (Nat.ne_of_lt la) (Nat.ne_of_lt (Nat.lt_succ_of_lt lb)) (Nat.ne_of_lt (Nat.lt_succ_of_lt (Nat.lt_succ_of_lt lc))),
    ⟨hz, hTI, ⟨_, _, _, hTO⟩, itrK_of g1, itrK_of g2, itrK_of g3⟩, fun d hcm => ?_, q⟩
  have hle : s1.heap.objs.size ≤ d := by
    have e' : d = s1.heap.objs.size + 5 ∨ d = s1.heap.objs.size + 3 ∨ d = s1.heap.objs.size + 4 ∨ d = s1.heap.objs.size ∨ d = s1.heap.objs.size + 1 ∨ d = s1.heap.objs.size + 2 := by simpa using hcm
    rcases e' with e' | e' | e' | e' | e' | e' <;> rw [e'] <;> first | exact Nat.le_refl _ | exact Nat.le_add_right _ _
  exact I1.fpOk hle (I1.hok.fresh hle)
def YTri (xs ys zs : Nat → Option V) : Nat → Hp → V → Hp → Prop := fun i H v H' => ∃ T x y z, v = .ref T ∧ H T = none ∧ H' = upd H T (.tup [x, y, z]) ∧ xs i = some x ∧ ys i = some y ∧ zs i = some z
theorem walk_zip3 {K : PySem.W.Frag} {k1 k2 k3 : Ki} {a b c : Addr} {xs ys zs : List V} {n : Nat} (hn : n = min (min xs.length ys.length) zs.length) : Walk (Itz3 K k1 a k2 b k3 c) n (fun H => SqK K H k1 a xs ∧ SqK K H k2 b ys ∧ SqK K H k3 c zs) (YTri (fun i => xs[i]?) (fun i => ys[i]?) (fun i => zs[i]?)) := by
  refine ⟨fun i _ hi q => ⟨xs, ys, zs, xs[i]'(by omega), ys[i]'(by omega), zs[i]'(by omega), q.1, q.2.1, q.2.2, by simp, by simp, by simp⟩, fun H q => ⟨xs, ys, zs, q.1, q.2.1, q.2.2, hn⟩, fun i H v H' _ q y => ?_⟩
  obtain ⟨T, x, y, z, h1, h2, h3, h4, h5, h6⟩ := y
  exact ⟨T, x, y, z, h1, h2, h3, h4 xs q.1, h5 ys q.2.1, h6 zs q.2.2⟩
end HX

set_option maxRecDepth 100000
set_option maxHeartbeats 1000000
namespace HX
open PySem PySem.Spec PyProof.Rows L2
theorem mt_tcountK {X : Cx} {K : PySem.W.Frag} (h : X.K = K := by rfl) : MtR X "tuple.count" (rCntT K) := by
  subst h
  exact mt_tcount
theorem pe_bmK {X : Cx} {K : PySem.W.Frag} {T name id : String} {r : V → List V → Hp → VK → Prop} {o e : Expr} {es : List Expr} {to : TE} {t : TA} {apos cpos : Pos} (pa : PlainAttrs T) (slot : Slot T name id) (hty : typeOf (.builtin id) = pure (.type "method_descriptor")) (hm : MtR X id r) (ho : PE X o to) (ha : PA X (e :: es) t) (hK : X.K = K := by rfl)
    (hbase : attributeBase o name X.env (eval o X.env) = eval o X.env := by rfl)
    (hfew : ((backTo cpos (starEach (e :: es) X.env)).all (fun x => !x.1) && (backToKw cpos (keywordEach [] X.env)).all (fun x => x.1.isSome)
      && decide ((e :: es).length + ([] : List Keyword).length + (if ([] : List Keyword).isEmpty then 0 else 1) < 30)) = true := by rfl)
    (hline : (apos.endLine == cpos.line) = true := by rfl) (hs : starEach (e :: es) X.env = (false, eval e X.env) :: starEach es X.env := by rfl) (hplain : (backTo cpos (starEach es X.env)).any (·.1) = false := by rfl) :
    PE X (.Call (.Attribute o name apos) (e :: es) [] cpos) (tBM K T r to t) := by
  subst hK
  exact pe_bm pa slot hty hm ho ha hbase hfew hline hs hplain
theorem hu64 {A : Around} {k : Nat} (hr : Room k A) : A.units + 64 < cLine := by
  have := hu150 hr
  omega
theorem s_cb1 {r : List V → Hp → VK → Prop} {t : TE} {σ : L2.St} {H : Hp} {Q : VK} (h : t σ H fun x H1 => r [x] H1 Q) : tCB r (tCons t tNil) σ H Q := h
theorem s_cons {t : TE} {u : TA} {σ : L2.St} {H : Hp} {Q : List V → Hp → Prop} (h : t σ H fun x H1 => u σ H1 fun xs H2 => Q (x :: xs) H2) : tCons t u σ H Q := h
theorem wipe3 {σ : L2.St} {i j l : Nat} (h : i ≠ j) (h2 : i ≠ l) (h3 : j ≠ l) (x y z : V) : wipe ((((wipe σ [i, j, l]).set i (some x)).set j (some y)).set l (some z)) [i, j, l] = wipe σ [i, j, l] := by
  show ((((((((σ.set l none).set j none).set i none).set i (some x)).set j (some y)).set l (some z)).set l none).set j none).set i none = ((σ.set l none).set j none).set i none
  apply List.ext_getElem?
  intro m
  simp only [List.getElem?_set, List.length_set]
  by_cases e1 : i = m <;> by_cases e2 : j = m <;> by_cases e3 : l = m <;> simp [e1, e2, e3]
/-- a comprehension of numbers that turns nothing -/
theorem lc_intsG {J : It} {n : Nat} {G : Hp → Prop} {Y : Nat → Hp → V → Hp → Prop} (wk : Walk J n G Y) {σ : L2.St} {H : Hp} {Q : VK} {g : TG} {te : TE} {wi : TI} {vs : List Nat} (z : Nat → Int) (hwi : ∀ R : It → Hp → Prop, R J H → wi σ H R) (hz : n ≤ 1000) (hG : ∀ H', Same H H' → G H')
    (ht : ∀ (i : Nat) (x : V) (H1 H2 : Hp), i < n → Same H H1 → Y i H1 x H2 → ∀ Q' : VK, (∀ H3, Same H1 H3 → Q' (.int (z i)) H3) → g x (wipe σ vs) H2 fun σ2 H3 => wipe σ2 vs = wipe σ vs ∧ te σ2 H3 Q')
    (q : ∀ (D : Addr) (H' : Hp), Same H H' → H' D = some (.lst (((List.range n).map z).map V.int)) → H D = none → Q (.ref D) H') : tLc wi g tYes te vs σ H Q := by
  refine hwi _ fun D hD => ?_
  refine lc_it wk (fun i H' => Same H H' ∧ H' D = some (.lst (((List.range i).map z).map V.int))) ⟨Same.new hD, by rw [upd_same]; rfl⟩ (fun i H' _ h => hG H' h.1) (fun i x H1 H2 hi h y => ?_) (fun H' h => q D H' h.1 h.2 hD)
  obtain ⟨s1, eD⟩ := h
  refine ht i x H1 H2 hi s1 y (fun v H4 => ∃ acc, H4 D = some (.lst acc) ∧ acc.length < sizeLine ∧ (Same H (upd H4 D (.lst (acc ++ [v]))) ∧ upd H4 D (.lst (acc ++ [v])) D = some (.lst (((List.range (i + 1)).map z).map V.int)))) fun H3 s3 => ?_
  refine ⟨_, s3 _ _ eD, ?_, fun c o e => ?_, ?_⟩
  · rw [List.length_map, List.length_map, List.length_range]
    exact small1000 (by omega)
  · rw [upd_ne (ne_of_none e hD)]
    exact s3 _ _ (s1 _ _ e)
  · rw [upd_same, List.range_succ, List.map_append, List.map_append]
    rfl
/-! ### a tuple known to the last: it has no dict of its own -/
theorem call_tuple_frz {X : Cx} : CallR X (.type "tuple") (fun xs H Q => ∃ p ys, xs = [.ref p] ∧ SqL X.K H p ys ∧ ∀ l o, H l = none → o.dict = none → Q (.ref l) (upd H l (.frz o (.tup ys)))) := by
  intro pins s σ H xs us Q I r h
  obtain ⟨p, ys, rfl, hq, q⟩ := h
  obtain ⟨u, rfl, rx⟩ := vals1 r
  cases rx
  obtain ⟨its, r', pl, hz⟩ := I.list hq
  have hlen := r'.length
  refine call_tuple_list pl.isList (fun h' kp => ?_) (by simp only [List.size_toArray] <;> omega)
  have I1 : Inv X pins σ H { s with heap := h' } := I.kept (t' := s.toks) kp
  have I2 : Inv X pins σ (upd H h'.objs.size (.frz { cls := .type "tuple", data := .seq its.toArray } (.tup ys))) { s with heap := h'.push { cls := .type "tuple", data := .seq its.toArray } } :=
    I1.laid (t' := s.toks) (fun b o e => Heap.get?_push_of_some _ e) (Nat.le_refl _) (show ObjOk X.prog X.w _ _ _ (.frz _ (.tup ys)) from ⟨Heap.get?_push_size _ rfl, hz, its, r', IsTup.new _ _⟩)
  exact ⟨.ref h'.objs.size, _, I2, rfl, q _ _ (I1.hok.fresh (Nat.le_refl _)) rfl⟩
def tBMT (r : V → List V → Hp → VK → Prop) (to : TE) (t : TA) : TE := fun σ H Q => to σ H fun x H1 => (∃ p o xs, x = .ref p ∧ H1 p = some (.frz o (.tup xs)) ∧ o.dict = none) ∧ t σ H1 fun xs H2 => r x xs H2 Q
theorem pe_bmT {X : Cx} {name : Str} {id : String} {r : V → List V → Hp → VK → Prop} {o e : Expr} {es : List Expr} {to : TE} {t : TA} {apos cpos : Pos} (pa : PlainAttrs "tuple") (slot : Slot "tuple" name id) (hty : typeOf (.builtin id) = pure (.type "method_descriptor")) (hm : MtR X id r) (ho : PE X o to) (ha : PA X (e :: es) t)
    (hbase : attributeBase o name X.env (eval o X.env) = eval o X.env := by rfl)
    (hfew : ((backTo cpos (starEach (e :: es) X.env)).all (fun x => !x.1) && (backToKw cpos (keywordEach [] X.env)).all (fun x => x.1.isSome)
      && decide ((e :: es).length + ([] : List Keyword).length + (if ([] : List Keyword).isEmpty then 0 else 1) < 30)) = true := by rfl)
    (hline : (apos.endLine == cpos.line) = true := by rfl) (hs : starEach (e :: es) X.env = (false, eval e X.env) :: starEach es X.env := by rfl) (hplain : (backTo cpos (starEach es X.env)).any (·.1) = false := by rfl) :
    PE X (.Call (.Attribute o name apos) (e :: es) [] cpos) (tBMT r to t) := by
  refine ⟨fun pins s σ H Q I h => ?_⟩
  refine wpAny_Call_method_late hbase hfew hline rfl (thn (ho.run pins s σ H _ I h) fun v s1 ⟨x, H1, I1, r1, ty, q1⟩ => ?_)
  obtain ⟨p, ob, xs, rfl, ep, dn⟩ := ty
  cases r1
  obtain ⟨eo, _, its, _, o', eo', hc, _⟩ := (show ObjOk X.prog X.w H1 s1.heap p (.frz ob (.tup xs)) from I1.hok p _ ep)
  have e1 : o' = ob := Option.some.inj (eo'.symm.trans eo)
  subst e1
  refine ⟨"tuple", id, pa, slot, hty, ⟨o', eo, hc⟩, fun a e => ⟨o', by cases e; exact eo, dn⟩, ?_⟩
  have hA := ha.run cpos pins s1 σ H1 _ I1 q1
  rw [hs] at hA ⊢
  refine Calls.callWith_builtin (by show (false || (backTo cpos (starEach es X.env)).any (·.1)) = false; rw [hplain] <;> rfl) (Calls.evalArgs_plain ?_)
  exact thn hA fun us s2 ⟨vs, H2, I2, r2, q2⟩ => hm pins s2 σ H2 (.ref p) vs (.ref p) us Q I2 rfl r2 q2
def rowV (row : List Nat) : List V := row.map fun n : Nat => V.int (n : Int)
/-- the row's tuple; known to the last -/
def RowF (H : Hp) (r : Addr) (row : List Nat) : Prop := ∃ o : Obj, o.dict = none ∧ H r = some (.frz o (.tup (rowV row)))
def RowAt (H : Hp) (r : Addr) (row : List Nat) : Prop := H r = some (.tup (rowV row)) ∨ RowF H r row
theorem RowF.same {H H' : Hp} {r : Addr} {row : List Nat} (h : RowF H r row) (s : Same H H') : RowF H' r row := by
  obtain ⟨o, d, e⟩ := h
  exact ⟨o, d, s _ _ e⟩
theorem RowAt.same {H H' : Hp} {r : Addr} {row : List Nat} (h : RowAt H r row) (s : Same H H') : RowAt H' r row := by
  rcases h with h | h
  · exact .inl (s _ _ h)
  · exact .inr (h.same s)
theorem RowAt.sq {K : PySem.W.Frag} {H : Hp} {r : Addr} {row : List Nat} (h : RowAt H r row) : SqT K H r (rowV row) := by
  rcases h with h | ⟨o, _, h⟩
  · exact .inl (.inl h)
  · exact .inl (.inr ⟨o, h⟩)
theorem RowAt.ty {K : PySem.W.Frag} {H : Hp} {r : Addr} {row : List Nat} (h : RowAt H r row) : TyX K H (.ref r) (.type "tuple") := by
  rcases h with h | ⟨o, _, h⟩
  · exact .base (.tup h)
  · exact .fTuple h
theorem read_allR {K : PySem.W.Frag} {σ : L2.St} {H : Hp} {Q : VK} {i j : Nat} {te : TE} {r : Addr} {row : List Nat} (p : Nat → Bool) (hs : σ[i]? = some (some (.ref r))) (hx : RowAt H r row) (hz : row.length ≤ 1000)
    (ht : ∀ (n : Nat) (H' : Hp), Same H H' → ∀ Q' : VK, (∀ H2, Same H' H2 → Q' (.bl (p n)) H2) → te ((wipe σ [j]).set j (some (.int (n : Int)))) H' Q')
    (q : ∀ H', Same H H' → Q (.bl (row.all p)) H') : tCB (rAll K) (tCons (tLc (iTup K (tVar i)) (gName j) tYes te [j]) tNil) σ H Q := by
  refine ⟨.ref r, hs, r, rfl, ⟨_, hx.sq⟩, fun D hD => ?_⟩
  refine lc_tup (xs := rowV row) (fun i H' => Same H H' ∧ H' D = some (.lst ((row.take i).map fun n => V.bl (p n)))) ⟨Same.new hD, ?_⟩ (fun i H' _ h => (hx.same h.1).sq) (fun i x H' hi h => ?_) (fun H' h => ?_)
  · rw [upd_same]
    rfl
  · unfold rowV at hi
    rw [List.getElem?_map] at hi
    cases e1 : row[i]? with
    | none => rw [e1] at hi; cases hi
    | some n =>
      rw [e1] at hi
      cases hi
      refine ⟨wipe1 _, tYes_eq (iteT (ht n H' h.1 _ fun H2 s2 => ?_))⟩
      refine ⟨_, s2 _ _ h.2, ?_, fun b o e => ?_, ?_⟩
      · rw [List.length_map, List.length_take]
        have := (List.getElem?_eq_some_iff.mp e1).1
        exact small1000 (by omega)
      · rw [upd_ne (ne_of_none e hD)]
        exact s2 _ _ (h.1 _ _ e)
      · rw [upd_same, List.take_add_one, e1, List.map_append]
        rfl
  · refine ⟨D, row.map p, rfl, .inl (.inl ?_), ?_⟩
    · rw [h.2]
      unfold rowV
      rw [List.length_map, List.take_length, List.map_map]
      rfl
    · rw [List.all_map]
      exact q H' h.1
end HX

set_option maxRecDepth 100000
set_option maxHeartbeats 1000000
namespace HX
open PySem PySem.Spec PyProof.Rows L2
/-! ### likeness of data -/
mutual
theorem Td.dp {K : PySem.W.Frag} {H : Hp} : ∀ (d : PyData) (v : V), Td H v d → Dp K H v d
  | .none, _, h => by cases h; exact .non
  | .bool b, _, h => by cases h; exact .bl b
  | .int i, _, h => by cases h; exact .int i
  | .str x, _, h => by cases h; exact .str x
  | .tuple ds, _, h => by
    cases h with
    | tup e ha => exact .tup (.inl (.inl e)) (TdAll.dp ds _ ha)
  | .list _, _, h => by cases h
  | .dict _, _, h => by cases h
theorem TdAll.dp {K : PySem.W.Frag} {H : Hp} : ∀ (ds : List PyData) (vs : List V), TdAll H vs ds → DpAll K H vs ds
  | [], _, h => by cases h; exact .nil
  | d :: ds, _, h => by
    cases h with
    | cons h1 h2 => exact .cons (Td.dp d _ h1) (TdAll.dp ds _ h2)
end
theorem dp_row {K : PySem.W.Frag} {H : Hp} : ∀ row : List Nat, DpAll K H (rowV row) (row.map fun n : Nat => PyData.int (n : Int))
  | [] => .nil
  | n :: r => .cons (.int _) (dp_row r)
theorem canLay_nums : ∀ ns : List Int, PyData.canLayAll0 (ns.map PyData.int) = true
  | [] => rfl
  | n :: ns => by
    show (PyData.canLay0 (.int n) && PyData.canLayAll0 (ns.map PyData.int)) = true
    rw [canLay_nums ns]
    rfl
theorem depth_nums : ∀ ns : List Int, PyData.depthAll (ns.map PyData.int) ≤ 1
  | [] => by simp [PyData.depthAll]
  | n :: ns => by
    have := depth_nums ns
    simp only [List.map_cons, PyData.depthAll, PyData.depth]
    omega
theorem shaped_row (row : List Nat) : SeqAt.shaped (.list (row.map fun n : Nat => PyData.int (n : Int))) = true := by
  have e : (row.map fun n : Nat => PyData.int (n : Int)) = (row.map fun n : Nat => (n : Int)).map PyData.int := by rw [List.map_map]; rfl
  rw [e]
  have h1 := canLay_nums (row.map fun n : Nat => (n : Int))
  have h2 := depth_nums (row.map fun n : Nat => (n : Int))
  unfold SeqAt.shaped
  rw [Bool.and_eq_true, decide_eq_true_eq]
  refine ⟨?_, ?_⟩
  · simpa only [PyData.canLay0] using h1
  · simp only [PyData.depth]
    omega
theorem canLay_mo (a b c : List Int) : PyData.canLay0 (.tuple [stepD a, stepD b, stepD c]) = true := by
  simp only [PyData.canLay0, PyData.canLayAll0, stepD, canLay_nums]
  rfl
theorem shaped_mo (a b c : List Int) : SeqAt.shaped (.tuple [stepD a, stepD b, stepD c]) = true := by
  have h1 := depth_nums a
  have h2 := depth_nums b
  have h3 := depth_nums c
  unfold SeqAt.shaped
  rw [Bool.and_eq_true, decide_eq_true_eq]
  refine ⟨canLay_mo a b c, ?_⟩
  simp only [PyData.depth, PyData.depthAll, stepD]
  omega
end HX

set_option maxRecDepth 100000
set_option maxHeartbeats 1000000
namespace HX
open PySem PySem.Spec PyProof.Rows L2
/-! ### what the counts tell -/
def cnt (es : List Int) (e : Nat) : Int := ((es.count (e : Int) : Nat) : Int)
theorem cnt_cons (x : Int) (es : List Int) (e : Nat) : cnt (x :: es) e = cnt es e + (if x = (e : Int) then 1 else 0) := by
  unfold cnt
  rw [List.count_cons]
  by_cases h : x = (e : Int)
  · simp [h]
  · simp [h]
theorem bump_get {l : List Int} {i e : Nat} {d : Int} (hi : i < l.length) : (bump l i d).getD e 0 = l.getD e 0 + (if i = e then d else 0) := by
  unfold bump
  rw [List.getD_eq_getElem?_getD, List.getElem?_set]
  by_cases h : i = e
  · subst h
    rw [if_pos rfl, if_pos hi, if_pos rfl]
    rfl
  · rw [if_neg h, if_neg h, Int.add_zero, List.getD_eq_getElem?_getD]
def addE (f : List Int) (e : Int) : List Int := bump f e.toNat 1
theorem addE_len : ∀ (es : List Int) (f : List Int), (es.foldl addE f).length = f.length
  | [], f => rfl
  | x :: es, f => (addE_len es _).trans bump_len
theorem addE_get : ∀ (es : List Int) (f : List Int) (e : Nat), (∀ x ∈ es, 0 ≤ x ∧ x < (f.length : Int)) → (es.foldl addE f).getD e 0 = f.getD e 0 + cnt es e
  | [], f, e, _ => by simp [cnt]
  | x :: es, f, e, h => by
    obtain ⟨x0, x1⟩ := h x (List.mem_cons_self ..)
    rw [List.foldl_cons, addE_get es (addE f x) e (fun y hy => by
      unfold addE
      rw [bump_len]
      exact h y (List.mem_cons_of_mem _ hy)), cnt_cons]
    unfold addE
    rw [bump_get (by omega)]
    have : (x.toNat = e) ↔ x = (e : Int) := by omega
    by_cases g : x = (e : Int)
    · rw [if_pos (this.mpr g), if_pos g]
      omega
    · rw [if_neg (fun z => g (this.mp z)), if_neg g]
      omega
theorem send_get {W : Nat} : ∀ (es : List Int) (p : List Int × List Int), (∀ x ∈ es, 0 ≤ x ∧ x < (W : Int) + (p.2.length : Int)) → p.1.length = W →
    (∀ e, e < W → (es.foldl (sendM W) p).1.getD e 0 = p.1.getD e 0 + cnt es e) ∧ ∀ j, (es.foldl (sendM W) p).2.getD j 0 = p.2.getD j 0 + cnt es (W + j)
  | [], p, _, _ => ⟨fun e _ => by simp [cnt], fun j => by simp [cnt]⟩
  | x :: es, p, h, hw => by
    obtain ⟨x0, x1⟩ := h x (List.mem_cons_self ..)
    rw [List.foldl_cons]
    by_cases g : x < (W : Int)
    · have e1 : sendM W p x = (bump p.1 x.toNat 1, p.2) := if_pos g
      rw [e1]
      obtain ⟨h1, h2⟩ := send_get (W := W) es (bump p.1 x.toNat 1, p.2) (fun y hy => h y (List.mem_cons_of_mem _ hy)) (bump_len.trans hw)
      refine ⟨fun e he => ?_, fun j => ?_⟩
      · rw [h1 e he, cnt_cons]
        show (bump p.1 x.toNat 1).getD e 0 + _ = _
        rw [bump_get (by omega)]
        have : (x.toNat = e) ↔ x = (e : Int) := by omega
        by_cases g' : x = (e : Int)
        · rw [if_pos (this.mpr g'), if_pos g']
          omega
        · rw [if_neg (fun z => g' (this.mp z)), if_neg g']
          omega
      · rw [h2 j, cnt_cons, if_neg (by omega)]
        show p.2.getD j 0 + _ = _
        omega
    · have e1 : sendM W p x = (p.1, bump p.2 (x - (W : Int)).toNat 1) := if_neg g
      rw [e1]
      obtain ⟨h1, h2⟩ := send_get (W := W) es (p.1, bump p.2 (x - (W : Int)).toNat 1) (fun y hy => by
        show 0 ≤ y ∧ y < (W : Int) + ((bump p.2 (x - (W : Int)).toNat 1).length : Int)
        rw [bump_len]
        exact h y (List.mem_cons_of_mem _ hy)) hw
      refine ⟨fun e he => ?_, fun j => ?_⟩
      · rw [h1 e he, cnt_cons, if_neg (by omega)]
        show p.1.getD e 0 + _ = _
        omega
      · rw [h2 j, cnt_cons]
        show (bump p.2 (x - (W : Int)).toNat 1).getD j 0 + _ = _
        rw [bump_get (by omega)]
        have : ((x - (W : Int)).toNat = j) ↔ x = ((W + j : Nat) : Int) := by omega
        by_cases g' : x = ((W + j : Nat) : Int)
        · rw [if_pos (this.mpr g'), if_pos g']
          omega
        · rw [if_neg (fun z => g' (this.mp z)), if_neg g']
          omega
/-! sums up to -/
def sumTo : Nat → (Nat → Int) → Int
  | 0, _ => 0
  | n + 1, f => sumTo n f + f n
theorem sumTo_congr : ∀ (n : Nat) {f g : Nat → Int}, (∀ u, u < n → f u = g u) → sumTo n f = sumTo n g
  | 0, _, _, _ => rfl
  | n + 1, f, g, h => by
    show sumTo n f + f n = sumTo n g + g n
    rw [sumTo_congr n (fun u hu => h u (by omega)), h n (by omega)]
theorem sumTo_one : ∀ (n : Nat) {f g : Nat → Int} {a : Nat}, a < n → (∀ u, u < n → u ≠ a → f u = g u) → sumTo n f = sumTo n g + (f a - g a)
  | 0, _, _, _, h, _ => absurd h (by omega)
  | n + 1, f, g, a, ha, h => by
    show sumTo n f + f n = sumTo n g + g n + (f a - g a)
    by_cases e : a = n
    · subst e
      rw [sumTo_congr a (fun u hu => h u (by omega) (by omega))]
      omega
    · rw [sumTo_one n (a := a) (by omega) (fun u hu => h u (by omega)), h n (by omega) (fun z => e z.symm)]
      omega
theorem sumTo_front (n : Nat) (f : Nat → Int) : sumTo (n + 1) f = f 0 + sumTo n fun t => f (t + 1) := by
  induction n with
  | zero => show 0 + f 0 = f 0 + 0; omega
  | succ n ih =>
    show sumTo (n + 1) f + f (n + 1) = f 0 + (sumTo n (fun t => f (t + 1)) + f (n + 1))
    rw [ih]
    omega
/-- the ends of wheel u at step number s (any number, turned on) -/
def endsOf (ws : List (List (List Int))) (u : Nat) (s : Int) : List Int := (ws.getD u []).getD (s % ((ws.getD u []).length : Int)).toNat []
/-- how often e gets one, when wheel u is turned k times from s -/
def sent (ws : List (List (List Int))) (u : Nat) (s : Int) (k : Nat) (e : Nat) : Int := sumTo k fun t => cnt (endsOf ws u (s + (t : Int))) e
theorem endsOf_mod {ws : List (List (List Int))} {u : Nat} {s t : Int} : endsOf ws u (s % ((ws.getD u []).length : Int) + t) = endsOf ws u (s + t) := by
  unfold endsOf
  rw [Int.emod_add_emod]
theorem sent_front {ws : List (List (List Int))} {u : Nat} {s : Int} {k e : Nat} : sent ws u s (k + 1) e = cnt (endsOf ws u s) e + sent ws u ((s + 1) % ((ws.getD u []).length : Int)) k e := by
  unfold sent
  rw [sumTo_front]
  have h0 : s + ((0 : Nat) : Int) = s := by omega
  rw [h0]
  congr 1
  refine sumTo_congr k fun t _ => ?_
  rw [endsOf_mod]
  have : s + ((t + 1 : Nat) : Int) = s + 1 + (t : Int) := by omega
  rw [this]
def came (ws : List (List (List Int))) (st : List Int) (cs : Nat → Nat) (e : Nat) : Int := sumTo ws.length fun u => sent ws u (st.getD u 0) (cs u) e
end HX

set_option maxRecDepth 100000
set_option maxHeartbeats 3200000
namespace HX
open PySem PySem.Spec PyProof.Rows L2
structure Bi3 (mg : Str → Option Value) : Prop where
  sorted_ : mg "sorted" = none
  set_ : mg "set" = none
/-! ### set(xs), xs a list of whole numbers -/
def noneYet (w : World) : Obj := { cls := .type "set", dict := none, data := .set #[] 0 (.fresh 0 0 (!w.params.followText "set-order")) }
section
variable {P : Program} {w : World} {A : Around} {E : Value → Shared → Prop} {s : Shared}
theorem setOfInts {l : Addr} {its : Array Value} {ns : List Int} {Q : Value → Shared → Prop} (free : A.handled = none) (lies : s.heap.IsList l its) (are : IntsAre its.toList ns) (few : ns.length + 1 < scanBound)
    (q : ∀ (h' : Heap) (tk c : Nat), SetR w h' s.heap.objs.size (fun j => decide (j ∈ ns)) c → c ≤ ns.length → (∀ b o, s.heap.get? b = some o → h'.get? b = some o) → Q (.ref s.heap.objs.size) { s with heap := h', toks := tk }) :
    wpAny (model P w) A (call (.type "set") [.ref l]) Q E s := by
  have size : its.size = ns.length := by rw [← IntsAre.length are, Array.length_toList]
  obtain ⟨_, _, f0⟩ := F.called_set.mro
  have f1 := F.called_set.made
  have f2 := F.called_set.sub
  have f3 := F.called_set.notType
  have f4 := F.called_set.canCreate
  have f5 := F.typeCall_set_1 (.ref l)
  refine wpAny_call (codeAny_of_tree (show wpAny _ _ (callAny (.type "set") _) _ _ _ from wpAny_pure ⟨Code.quiet_builtin _ (by decide +kernel), codeAny_builtin F.entry_type_call ?_⟩))
  rw [Around.under_plain (weight_type_call_type "set" [.ref l] []) rfl]
  repeat (any_goals (first | assumption | wp_step))
  refine codeAny_mono (code_set_led1 (.ref l) (E := E) (Q₁ := fun v t => v = .ref s.heap.objs.size ∧ t = { s with heap := s.heap.push (noneYet w) }) ⟨rfl, rfl⟩) fun r t ht => ?_
  cases r with
  | error e => exact ht
  | ok fl =>
    cases fl with
    | next => exact ht.elim
    | brk => exact ht.elim
    | cont => exact ht.elim
    | ret v =>
      obtain ⟨rfl, rfl⟩ := ht
      have g0 : (s.heap.push (noneYet w)).get? s.heap.objs.size = some (noneYet w) := Heap.get?_push_size _ rfl
      have g1 : Shared.TypeIs { s with heap := s.heap.push (noneYet w) } (.ref s.heap.objs.size) "set" := ⟨_, g0, rfl⟩
      have g2 := F.called_set.init.lookup
      have g3 := F.called_set.init.bind (.ref s.heap.objs.size)
      repeat (any_goals (first | assumption | wp_step))
      refine codeAny_mono (codeAny_call_builtin (R := wants (fun r t => r = .none ∧ ∃ h' tk c, t = { s with heap := h', toks := tk } ∧ SetR w h' s.heap.objs.size (fun j => decide (j ∈ ns)) c ∧ c ≤ ns.length ∧ (∀ b o, s.heap.get? b = some o → h'.get? b = some o)) E) F.called_set.init.plain F.entry_set_init (check_set_init_1 g1 ?_)) fun r t ht => ?_
      · obtain ⟨⟨cl, di, da, sl⟩, e0, e1, nl, e2⟩ := lies
        simp only at e1 e2
        subst e1 e2
        have e3 : (s.heap.push (noneYet w)).get? l = some { cls := .type "list", dict := di, data := .seq its nl, slots := sl } := Heap.get?_push_of_some _ e0
        have d1 := F.sub_list_set
        have d2 := F.sub_list_frozenset
        have d3 : (Value.type "list" == Value.type "dict") = false := by decide
        have lies1 : (s.heap.push (noneYet w)).IsList l its := ⟨_, e3, rfl, nl, rfl⟩
        have under : l < s.heap.objs.size := Heap.lt_size e0
        have ne1 : l ≠ (s.heap.push (noneYet w)).objs.size := by
          rw [Heap.size_push]
          exact Nat.ne_of_lt (Nat.lt_succ_of_lt under)
        have ne2 : s.heap.objs.size ∉ [(s.heap.push (noneYet w)).objs.size, l] := by
          rw [Heap.size_push]
          intro z
          rcases List.mem_cons.mp z with z | z
          · exact absurd z (Nat.ne_of_lt (Nat.lt_succ_self _))
          · exact absurd (List.mem_singleton.mp z) (Nat.ne_of_gt under)
        have free3 : A.in1.in1.in1.handled = none := by simp [free]
        have each : ∀ (i : Nat) (v : Value), its[i]? = some v → ∃ k t, ns[i]? = some k ∧ v = .int k t := by
          intro i v hv
          obtain ⟨t, e⟩ := IntsAre.int_at are i v (by rw [Array.getElem?_toList]; exact hv)
          have hi : i < ns.length := by
            rw [← size]
            exact (Array.getElem?_eq_some_iff.mp hv).1
          exact ⟨ns[i], t, List.getElem?_eq_getElem hi, by rw [e, List.getD_eq_getElem?_getD, List.getElem?_eq_getElem hi]; rfl⟩
        unfold Builtin.«set.__init__» noKeywords Builtin.Frozenset.updateFrom
        generalize hI : pyIter = PI
        wp_walk
        subst hI
        refine wpAny_pyIter_list lies1 (wpAny_bind (wpAny_runValue ?_))
        refine set_update_ints ((Walks.list free3 _ l ne1 its).toS) s.heap.objs.size ne2 ns size few each (its.size - 0) 0 _ (by omega) (Nat.zero_le _) ⟨⟨_, Heap.get?_push_size _ rfl, rfl, rfl⟩, (lies1.push _)⟩ ⟨0, Nat.le_refl 0, setR_new_at (Heap.get?_push_of_some _ g0)⟩ ?_
        intro t c mv hc hS
        obtain ⟨h', _, _, tk, _⟩ := t
        obtain rfl := mv.gens
        obtain rfl := mv.drawn
        obtain rfl := mv.os
        show wpAny _ _ _ _ _ _
        refine wpAny_pure (show wpAny _ _ (ret Value.none) _ _ _ from ?_)
        rw [size] at hc
        refine wpAny_pure ⟨rfl, h', tk, c, rfl, hS, hc, fun b o e => ?_⟩
        have hb : b < s.heap.objs.size := Heap.lt_size e
        refine mv.heap b o (fun z => ?_) (Heap.get?_push_of_some _ (Heap.get?_push_of_some _ e))
        rcases List.mem_cons.mp z with z | z
        · exact absurd z (Nat.ne_of_lt hb)
        · have z' := List.mem_singleton.mp z
          rw [Heap.size_push] at z'
          exact absurd z' (Nat.ne_of_lt (Nat.lt_succ_of_lt hb))
      · cases r with
        | error e => exact ht
        | ok fl =>
          cases fl with
          | next => exact ht.elim
          | brk => exact ht.elim
          | cont => exact ht.elim
          | ret v =>
            obtain ⟨rfl, h', tk, c, rfl, hS, hc, hk⟩ := ht
            repeat (any_goals (first | assumption | wp_step))
            exact q _ _ _ hS hc hk
end
section
variable {X : Cx}
def rSetL (w : World) (K : PySem.W.Frag) : List V → Hp → VK → Prop := fun vs H Q => ∃ (l : Addr) (ns : List Int), vs = [.ref l] ∧ SqL K H l (ns.map V.int) ∧ ns.length ≤ 1000 ∧ ∀ (p : Addr) (c : Nat), c ≤ ns.length → H p = none → Q (.ref p) (upd H p (SetO w p (fun j => decide (j ∈ ns)) c))
theorem call_setL (hc : X.calm = true) : CallR X (.type "set") (rSetL X.w X.K) := by
  intro pins s σ H vs us Q I r h
  obtain ⟨l, ns, rfl, hq, hz, q⟩ := h
  obtain ⟨u, rfl, rx⟩ := vals1 r
  cases rx
  obtain ⟨its, r', pl, _⟩ := I.list hq
  refine setOfInts (I.ok.hd hc) pl.isList (ints_of_vals r') (by unfold scanBound; omega) fun h' tk c hS hcn kp => ?_
  exact ⟨.ref s.heap.objs.size, _, I.laid (t' := tk) kp (Nat.le_refl _) (setO_new hS), rfl, q _ c hcn (I.hok.fresh (Nat.le_refl _))⟩
/-- sorted(set(xs)) -/
theorem read_sortedSet {w : World} {K : PySem.W.Frag} {σ : L2.St} {H : Hp} {R : V → Hp → Prop} {te : TE} {l : Addr} {ns : List Int} (hv : ∀ Q : VK, Q (.ref l) H → te σ H Q) (hl : SqL K H l (ns.map V.int)) (hz : ns.length < 64)
    (q : ∀ (p : Addr) (zs : List Int) (H' : Hp), Same H H' → H' p = some (.lst (zs.map V.int)) → (∀ z, z ∈ zs ↔ z ∈ ns) → zs.length ≤ ns.length → R (.ref p) H') : tCB (rSortedSet w) (tCons (tCB (rSetL w K) (tCons te tNil)) tNil) σ H R := by
  refine hv _ ⟨l, ns, rfl, hl, by omega, fun p c hc np => ?_⟩
  refine ⟨p, _, c, rfl, upd_same, by omega, fun zs p2 _ hm hn np2 => ?_⟩
  refine q p2 zs _ ((Same.new np).trans (Same.new np2)) upd_same (fun z => ?_) (by omega)
  rw [hm z, decide_eq_true_eq]
end
end HX

set_option maxRecDepth 100000
set_option maxHeartbeats 2000000
namespace HX
open PySem PySem.Spec PyProof.Rows L2 L2H
/-! ### defs that may raise -/
def CalX (P : Program) (w : World) (K : PySem.W.Frag) (mg : Str → Option Value) (base : Heap) (k : Nat) (x : Str) (ps : List Str) (sp : Sp) : Prop :=
  ∃ (f : Addr) (fd : FuncData), FnOk P w K mg base (L2.CX P w) k f fd ps sp ∧ mg x = some (.ref f) ∧ PySem.W.keepIn K (.ref f) = true ∧ Binds K fd ps []
section
variable {P : Program} {w : World} {K : PySem.W.Frag} {mg : Str → Option Value} {base : Heap} {j k : Nat} {x : Str} {ps : List Str} {sp : Sp}
theorem CalX.mono (c : CalX P w K mg base j x ps sp) (h : j ≤ k) : CalX P w K mg base k x ps sp := by
  obtain ⟨f, fd, F, a, b, d⟩ := c
  exact ⟨f, fd, F.mono h, a, b, d⟩
theorem Def.okX {st : Stmt} {N : List Str} (D : Def K mg x st ps) (S : FnScope N ps (defScope st)) (len : ∀ vs H Q E, sp vs H Q E → vs.length = ps.length)
    (hbody : ∀ (f : Addr) (cdv : Value) (A : Around) (outer : List Env) (s : Shared) (H : Hp) (vs : List V) (Q : VK) (E : XK), Room k (A.deeper (envOfC x (defScope st) s.heap.objs.size f cdv)) → sp vs H Q E →
      Takes (cxOf (L2.CX P w) P w K mg base N x (defScope st) f cdv A outer s H E) (fun cls d _ H => E cls d H) →
      ∃ t, PSs (cxOf (L2.CX P w) P w K mg base N x (defScope st) f cdv A outer s H E) (defBody st) t ∧ t { nx := fun _ H' => Q .non H', rt := Q } (start N vs) H) : CalX P w K mg base (k + 1) x ps sp := by
  obtain ⟨f, fd, F, hm, hb⟩ := D
  exact ⟨f, fd, Fun.okX F S len fun cdv A outer s H vs Q E hr h => hbody f cdv A outer s H vs Q E hr h (takes_of rfl rfl rfl rfl), hm, F.kp, hb⟩
end
section
variable {X : Cx} {k : Nat} {x : Str} {ps : List Str} {sp : Sp} {p pos : Pos} {e : Expr} {es : List Expr} {t : TA} {W : WX}
theorem pe_calX (tk : Takes X W) (c : CalX X.prog X.w X.K X.mg X.base k x ps sp) (hr : Room k X.A) (hg : Gl X x) (ha : PA X (e :: es) t) (hdb : (x == ("__debug__" : Str)) = false := by decide) (he : starEach (e :: es) X.env = (false, eval e X.env) :: starEach es X.env := by rfl)
    (hpl : (backTo pos (starEach es X.env)).any (·.1) = false := by rfl) : PE X (.Call (.Name x p) (e :: es) [] pos) (tCallS sp (WE W) t) := by
  obtain ⟨f, fd, F, hm, hk, hb⟩ := c
  exact pe_callS F hr hg hm hk hb (passAt tk) ha hdb he hpl
theorem pe_never {e : Expr} : PE X e (fun _ _ _ => False) := ⟨fun _ _ _ _ _ _ h => h.elim⟩
end
/-! ### an own class of errors, made of nothing -/
abbrev veTail : List Value := [.type "ValueError", .type "Exception", .type "BaseException", .type "object"]
structure Err (K : PySem.W.Frag) (mg : Str → Option Value) (x : Str) (C : Addr) : Prop where
  gC : mg x = some (.ref C)
  kC : PySem.W.keepIn K (.ref C) = true
  ex : PySem.W.excIn K C veTail "ValueError.__new__" = true
  sb : PySem.W.subIn K (.ref C) (.type "BaseException") = some true
  ty : PySem.W.typeIn K (.ref C) = some (.type "type")
section
variable {X : Cx} {C : Addr}
theorem pmk_err {x : Str} {p pos : Pos} (R : Err X.K X.mg x C) (hg : Gl X x) (hdb : (x == ("__debug__" : Str)) = false := by decide) : PMk X (.Call (.Name x p) [] [] pos) (fun _ H Q => Q (.ref C) none H) := by
  intro pins s σ H Q I h
  refine wpAny_Call_Name_kw (ld_glob I hg R.gC (PySem.W.callWith_K0 I.kIn R.kC ?_) hdb)
  obtain ⟨_, _, _, _, _, _, _, _, _, _, _, _, _, _, _, _, _, hC, hN, hni, T⟩ := exc_obj I.kIn R.ex
  refine wpAny_call_exc_subT PySem.F.excBase_ValueError T hC hN hni (fun h' e hm => ?_) (Nat.zero_le _)
  exact mk_of I hm (raises_own R.sb R.ty) h (I.hok.gone hm.new)
theorem ps_err {x : Str} {p pos pos2 : Pos} {W : WX} (R : Err X.K X.mg x C) (tk : Takes X W) (hc : X.calm = true := by rfl) (hg : Gl X x := by rfl) (hdb : (x == ("__debug__" : Str)) = false := by decide) :
    PS X (.Raise (some (.Call (.Name x p) [] [] pos)) none pos2) (fun _ σ H => W (.ref C) none σ H) := ps_raise hc tk (pmk_err R hg hdb)
/-! ### isinstance of an error that the context bears -/
theorem call_isP {a D : Addr} {oe : Obj} (hp : (a, oe) ∈ X.pn) (C : ExcC X.K D) (hz : Zc (.ref D) none oe) (hf : ∃ vs, oe.data = .fields vs) : CallR X (.builtin "isinstance") (rIsE X.K D a) := by
  intro pins s σ H xs us Q I r h
  obtain ⟨c, cv, b, rfl, hcv, e, q⟩ := h
  obtain ⟨u1, u2, rfl, r1, r2⟩ := r.two
  obtain rfl := hcv _ r2
  cases r1
  obtain ⟨hget, _⟩ := I.pin (a, oe) (List.mem_append_left _ hp)
  obtain ⟨vs, hv⟩ := hf
  have J : PySem.W.InstAt s.heap a oe D none := by
    obtain ⟨_, _, _, _⟩ := oe
    obtain ⟨h1, h2⟩ := hz
    dsimp only at h1 h2 hv
    subst h1 h2 hv
    exact ⟨hget, rfl, rfl, trivial⟩
  exact PySem.W.kia_one (PySem.W.handS_kitx_exc C.hg C.hk C.hs C.hd C.ha C.hn C.ht C.hm) I.kIn J e (fun z => nomatch z) fun tk => ⟨.bl b, H, I.kept (t' := tk) fun _ _ z => z, rfl, q⟩
/-! ### xs.count(y), flat items -/
def rCntF (K : PySem.W.Frag) : V → List V → Hp → VK → Prop := fun x xs H Q => ∃ (a : Addr) (ys : List V) (y : V), x = V.ref a ∧ xs = [y] ∧ SqL K H a ys ∧ flatV y = true ∧ ys.all flatV = true ∧ Q (.int ((ys.countP fun z => eqV z y : Nat) : Int)) H
theorem countP_flat {y : V} : ∀ {ys : List V} {us : List Value}, Vals ys us → ys.all flatV = true → us.countP (eqU y) = ys.countP fun z => eqV z y
  | _, _, .nil, _ => rfl
  | z :: ys, u :: us, .cons r t, f => by
    rw [List.all_cons, Bool.and_eq_true] at f
    rw [List.countP_cons, List.countP_cons, countP_flat t f.2, eqU_of r f.1]
theorem mt_countF : MtR X "list.count" (rCntF X.K) := by
  intro pins s σ H x xs v us Q I rx rxs h
  obtain ⟨a, ys, y, rfl, rfl, hs, fy, fys, q⟩ := h
  cases rx
  obtain ⟨u, rfl, ru⟩ := rxs.one
  obtain ⟨its, rv, ⟨⟨cls, dd, data, sl⟩, n, ho, hc, _, hd⟩, hlen⟩ := I.list hs
  simp only at hc hd
  subst hc hd
  refine call_meets PySem.F.slot_list_count ⟨_, ho, rfl⟩ PySem.F.entry_list_count (PySem.F.args_list_count_2 _ _) (SeqAt.list_countAt a its.toArray n dd sl u (eqU y)) ⟨ho, fun z hz => mem_eqAt ru fy rv fys z (by simpa using hz), ?_⟩
  refine ⟨.int ((ys.countP fun z => eqV z y : Nat) : Int), H, I.tok _, ⟨s.toks, ?_⟩, q⟩
  show Value.int ((its.toArray.toList.countP (eqU y) : Nat) : Int) s.toks = _
  rw [show its.toArray.toList = its from rfl, countP_flat rv fys]
end
/-! ### a def that gets the caught error -/
structure FnE (P : Program) (w : World) (K : PySem.W.Frag) (mg : Str → Option Value) (base : Heap) (k : Nat) (f : Addr) (fd : FuncData) (a : Str) (sp : Addr → Value → Option Addr → Hp → VK → Prop) : Prop where
  run : ∀ (A : Around) (outer : List Env) (s : Shared) (H : Hp) (p : Addr × Obj) (cls : Value) (d : Option Addr) (Q : VK), RoomH k A → PinOk outer H s p → Zc cls d p.2 → (∃ vs, p.2.data = .fields vs) → Env0 P w K mg base A outer s H → BindsTo s fd ⟨[.ref p.1], []⟩ [(a, .ref p.1)] → sp p.1 cls d H Q →
    codeAny (model P w) A (.call (.ref f) ⟨[.ref p.1], []⟩) (CR CX0 outer P w H s Q E0) s
def CalE (P : Program) (w : World) (K : PySem.W.Frag) (mg : Str → Option Value) (base : Heap) (k : Nat) (x a : Str) (sp : Addr → Value → Option Addr → Hp → VK → Prop) : Prop :=
  ∃ (f : Addr) (fd : FuncData), FnE P w K mg base k f fd a sp ∧ mg x = some (.ref f) ∧ PySem.W.keepIn K (.ref f) = true ∧ Binds K fd [a] []
section
variable {P : Program} {w : World} {K : PySem.W.Frag} {mg : Str → Option Value} {base : Heap} {k : Nat} {x a : Str} {sp : Addr → Value → Option Addr → Hp → VK → Prop}
theorem CalE.mono {j : Nat} (c : CalE P w K mg base j x a sp) (h : j ≤ k) : CalE P w K mg base k x a sp := by
  obtain ⟨f, fd, F, b1, b2, b3⟩ := c
  exact ⟨f, fd, ⟨fun A outer s H p cls d Q hr => F.run A outer s H p cls d Q (hr.mono h)⟩, b1, b2, b3⟩
theorem Def.okE {st : Stmt} {N : List Str} (D : Def K mg x st [a]) (S : FnScope N [a] (defScope st))
    (hbody : ∀ (f : Addr) (cdv : Value) (A : Around) (outer : List Env) (s : Shared) (H : Hp) (p : Addr × Obj) (cls : Value) (d : Option Addr) (Q : VK), Zc cls d p.2 → (∃ vs, p.2.data = .fields vs) → RoomH k (A.deeper (envOfC x (defScope st) s.heap.objs.size f cdv)) → sp p.1 cls d H Q →
      ∃ t, PSs (cxH CX0 P w K mg base N x (defScope st) f cdv A outer s H E0 p) (defBody st) t ∧ t { nx := fun _ H' => Q .non H', rt := Q } (start N [.ref p.1]) H) : CalE P w K mg base (k + 1) x a sp := by
  obtain ⟨f, fd, F, hm, hb⟩ := D
  obtain ⟨oc, od, kV, doc, pm, an, cdv, ct, osl, rfl, lk, hcd⟩ := F.ex
  refine ⟨f, _, ⟨fun A outer s H p cls d Q hr hpin hz hf e0 hbn hsp => ?_⟩, hm, F.kp, hb⟩
  have KX : K.In s.heap := e0.mod.kin.keeps fun b o e => (e0.bs b o e).1
  have lim : s.heap.NoLimit := e0.mod.nolimit.keeps fun b o e => (e0.bs b o e).1
  have hkind : ∀ y ∈ [a].zip [Value.ref p.1], (defScope st).names.lookup y.1 = some .local ∨ ((defScope st).names.lookup y.1 = some .cell ∧ ((cellsFrom (s.heap.objs.size + 1) (defScope st).names []).lookup y.1).isSome = true) := by
    rintro ⟨n, v⟩ hy
    rcases S.par n (List.of_mem_zip hy).1 with z | z
    · exact .inl z
    · exact .inr ⟨z, PySem.W.cellsFrom_some _ _ _ (.inl z)⟩
  refine codeAny_call_function hr.depth (KX _ _ lk) rfl S.co S.gen rfl (PySem.W.codeRec_of KX hcd) (hbn _ _ _ _ ?_)
  refine wpAny_newFunctionEnv_cells S.kind hkind fun env he s1 xx => ?_
  subst he
  refine ⟨lim.keeps xx.toInCall.keep, codeAny_func ?_⟩
  obtain ⟨t, ht, hq⟩ := hbody f cdv A outer s H p cls d Q hz hf (hr.deeper _) hsp
  have I : Inv (cxH CX0 P w K mg base N x (defScope st) f cdv A outer s H E0 p) [] (start N [.ref p.1]) H s1 := inv_startH (vs := [.ref p.1]) (us := [.ref p.1]) S hpin e0 rfl (.cons rfl .nil) xx
  refine wpAny_mono (ht.run [] s1 _ H _ I hq) (fun fl s' hs => ?_) fun e s' hs => hs
  cases fl with
  | ret u =>
    obtain ⟨v, σ', H', J, rv, q⟩ := hs
    exact ⟨v, H', J.os, J.bare, J.base, J.hok, rv, q⟩
  | next =>
    obtain ⟨σ', H', J, q⟩ := hs
    exact ⟨V.non, H', J.os, J.bare, J.base, J.hok, rfl, q⟩
  | brk =>
    obtain ⟨_, _, _, q⟩ := hs
    exact False.elim q
  | cont =>
    obtain ⟨_, _, _, q⟩ := hs
    exact False.elim q
/-- x(e) in the suite that holds the error -/
theorem pe_calE {X : Cx} {ea : Addr} {oe : Obj} {cls : Value} {d : Option Addr} {pn : List (Addr × Obj)} {e : Expr} {te : TE} {q pos : Pos} (c : CalE X.prog X.w X.K X.mg X.base k x a sp) (hr : RoomH k X.A) (hz : Zc cls d oe) (hf : ∃ vs, oe.data = .fields vs) (hg : Gl X x) (he : PE (X.suite ea ((ea, oe) :: pn)) e te) (hdb : (x == ("__debug__" : Str)) = false := by decide)
    (hst : starEach [e] X.env = (false, eval e X.env) :: starEach [] X.env := by rfl) : PE (X.suite ea ((ea, oe) :: pn)) (.Call (.Name x q) [e] [] pos) (fun σ H Q => te σ H fun v H1 => [v] = [.ref ea] ∧ sp ea cls d H1 Q) := by
  obtain ⟨f, fd, F, hm, hk, hb⟩ := c
  refine ⟨fun pins s σ H Q I h => ?_⟩
  refine wpAny_Call_Name_kw (ld_glob (X := X.suite ea ((ea, oe) :: pn)) I hg hm ?_ hdb)
  have ha : PA (X.suite ea ((ea, oe) :: pn)) [e] (tCons te tNil) := pa_cons he pa_nil hst
  refine PySem.W.callWith_K (h₀ := X.base) I.ok.mod.kin hk (thn (ha.run pos pins s σ H (fun vs H1 => vs = [.ref ea] ∧ sp ea cls d H1 Q) I h) fun us s1 ⟨vs, H1, I1, r, q⟩ => ⟨I1.kIn, ?_⟩) hst rfl
  · obtain ⟨rfl, q⟩ := q
    obtain ⟨u, rfl, ru⟩ := r.one
    cases ru
    have P1 := I1.pin (ea, oe) (List.mem_append_left _ List.mem_cons_self)
    have hpin : PinOk X.stack H1 s1 (ea, oe) := ⟨P1.1, P1.2.1, fun hm => (List.mem_cons.mp (I1.stkSub ea hm)).elim P1.2.2.1 P1.2.2.2.1, P1.2.2.2.2⟩
    have b := hb s1 [.ref ea] I1.kIn rfl
    refine wpAny_call (codeAny_mono (F.run (X.A.mark (some (.ref ea))) X.stack s1 H1 (ea, oe) cls d Q ⟨hr.dp, hr.un⟩ hpin hz hf I1.env0 b q) fun r s' hq => ?_)
    cases r with
    | error e => exact False.elim hq
    | ok fl =>
      cases fl with
      | ret u => exact I1.after hq
      | next => exact False.elim hq
      | brk => exact False.elim hq
      | cont => exact False.elim hq
end
end HX

set_option maxRecDepth 100000
set_option maxHeartbeats 2000000
namespace HX
open PySem PySem.Spec PyProof.Rows L2 L2H LamX
/-! ### a def that calls what it got, and words the error -/
/-- what such a def makes of the reading of what it got -/
def TSaid (K : PySem.W.Frag) (CM : Addr) (told : Str) (spW : Addr → Value → Option Addr → Hp → VK → Prop) : (XK → Hp → VK → Prop) → Hp → VK → Prop := fun tl H Q =>
  tl (fun cls d H' => ∃ b, PySem.W.exmOne K cls (.ref CM) = some b ∧ (b = true → ∀ a, H' a = none → spW a cls d H' Q) ∧ (b = false → False)) H fun v H1 => [V.str told, v].length ≤ sizeLine ∧ ∀ p, H1 p = none → Q (.ref p) (upd H1 p (.tup [.str told, v]))
theorem takes_len {X : Cx} {W : WX} (tk : Takes X W) : Takes X (fun cls d σ H => σ.length = X.N.length → W cls d σ H) := fun u s' ⟨a, B, sI, pins, σ, H, cls, d, e, I, nb, up, sky, na, os, ag, w⟩ =>
  tk u s' ⟨a, B, sI, pins, σ, H, cls, d, e, I, nb, up, sky, na, os, ag, w I.len⟩
theorem said_gives {X : Cx} {k : Nat} {x a n e wd aw q told : Str} {sg : Scope} {g CM : Addr} {cdg : Value} {spW : Addr → Value → Option Addr → Hp → VK → Prop} {j kt : Nat} {p1 p2 p3 p4 p5 p6 p7 p8 p9 p10 p11 p12 : Pos} (cw : CalE X.prog X.w X.K X.mg X.base k wd aw spW) (hr : Room (k + 1) X.A)
    (hge : sg.names.lookup e = some .globalImplicit) (hme : X.mg e = some (.ref CM)) (hnd : [a, n].Nodup) (hln : sg.names.lookup n = some .local) (hgw : sg.names.lookup wd = some .globalImplicit) (hde : (e == ("__debug__" : Str)) = false := by decide) (hdw : (wd == ("__debug__" : Str)) = false := by decide)
    (hdn : (n == ("__debug__" : Str)) = false := by decide) (hcn : (n == ("__classdict__" : Str)) = false := by decide) :
    GivesTo X [a, n] x sg g cdg [.Try [.Return (some (.Tuple [.Constant (.str told) j p1, .Call (.Name a p2) [] [] p3] kt p4)) p5] [.ExceptHandler (some (.Name e p6)) (some n) [.Return (some (.Call (.Name wd p7) [.Name n p8] [] p9)) p10] p11] [] [] p12] a q (TSaid X.K CM told spW) := by
  intro f c' s H Q tl act hc h
  have hgl : Gl (cxOf C8.CX0 X.prog X.w X.K X.mg X.base [a, n] x sg g cdg X.A X.stack s H C8.E0).nox e := hge
  have hrm : RoomH k (cxOf C8.CX0 X.prog X.w X.K X.mg X.base [a, n] x sg g cdg X.A X.stack s H C8.E0).nox.A := roomH_of (hr.deeper _)
  refine ⟨_, pss_one (ps_try_as (X := (cxOf C8.CX0 X.prog X.w X.K X.mg X.base [a, n] x sg g cdg X.A X.stack s H C8.E0).nox) (c := .ref CM) (i := 1)
      (tb := fun W D σ H => ∃ Ech : XK, (∀ cls d σ' H', σ'.length = 2 → Ech cls d H' → W cls d σ' H') ∧ σ[0]? = some (some (.ref f)) ∧ H c' = some (CodeO c' q) ∧ tl Ech H fun v H1 => [V.str told, v].length ≤ sizeLine ∧ ∀ p, H1 p = none → D.rt (.ref p) (upd H1 p (.tup [.str told, v])))
      rfl rfl hnd rfl hln ⟨hgl, hde, .inl hme⟩ LamX.takes0 (fun W pn xe tk _ => ?_) (fun ea oe cls d pn hz hf => pss_one (ps_ret (pe_calE cw hrm hz hf hgw (pe_var (i := 1) rfl (.inl hln) hdn hcn) hdw)))), ?_⟩
  · refine ⟨fun pins s' σ H' D I h' => ?_⟩
    obtain ⟨Ech, hW, h1, h2, h3⟩ := h'
    have hp := act (fun cls d σ H => σ.length = 2 → W cls d σ H) pn xe Ech p2 p3 (takes_len tk) fun cls d σ' H' he hl => hW cls d σ' H' hl he
    exact (pss_one (ps_ret (pos := p5) (pe_tup (pa_cons pe_str (pa_cons hp pa_nil))))).run pins s' σ H' D I ⟨h1, h2, h3⟩
  · refine ⟨fun cls d H' => ∃ b, PySem.W.exmOne X.K cls (.ref CM) = some b ∧ (b = true → ∀ a, H' a = none → spW a cls d H' Q) ∧ (b = false → False), ?_, rfl, hc, h⟩
    rintro cls d σ' H' hl ⟨b, e1, e2, e3⟩
    refine ⟨b, e1, fun hb ea na => ?_, fun hb => (e3 hb).elim⟩
    refine ⟨.ref ea, ?_, rfl, e2 hb ea na⟩
    rw [List.getElem?_set_self (by omega)]
/-! ### the law's end, with tables of code objects, for a law that makes texts of values -/
theorem law_callTG {P : Program} {w : World} {K : PySem.W.Frag} {mg mb : Str → Option Value} {k : Nat} {fa a : Addr} {cs : List (Addr × Addr)} {fd : FuncData} {x : Str} {sp : Sp} {s1 : Shared} {vs : List Value} {ns : List Int}
    (KX : K.In s1.heap) (hns : s1.heap.Ns mainGlobals mg) (hb : s1.heap.Ns builtinsNs mb) (hbb : ∀ x : Str, x ≠ "__name__" → mb x = bootBuiltins x) (hlim : s1.heap.NoLimit) (hsys : ∃ mm, s1.heap.Ns sysModules mm) (hg : s1.gens = #[])
    (hT : ∀ p ∈ cs, s1.heap.get? p.2 = some { cls := .none, data := .fields #[] }) (nT : ∀ p ∈ cs, K.lookup p.2 = none) (hC : ∀ p ∈ cs, PySem.W.CodeHd s1.heap p.1 p.2)
    (hbm : ∃ (bm : Addr) (ob : Obj), mg "__builtins__" = some (.ref bm) ∧ bm ≠ builtinsNs ∧ s1.heap.get? bm = some ob ∧ ob.cls = .type "module" ∧ ob.dict = some builtinsNs ∧ ob.data = .plain)
    (ha : s1.heap.get? a = some { cls := .type "list", data := .seq vs.toArray }) (hi : IntsAre vs ns) (hl : ns.length ≤ sizeLine) (hr : Room k callerA)
    (F : ∀ base : Heap, K.In base → base.Ns mainGlobals mg → (∀ p ∈ cs, TabB base mg p.1 p.2) → FnG P w K mg base k fa fd [x] sp) (hbind : ∀ (s : Shared) (u : Value), K.In s.heap → BindsTo s fd ⟨[u], []⟩ [(x, u)])
    (hsp : ∀ H : Hp, (∀ p ∈ cs, H p.2 = some (.tbl #[])) → SqL K H a (ns.map V.int) → sp [.ref a] H (fun v _ => v = .bl true) fun _ _ _ => False) :
    codeAny (model P w) callerA (.call (.ref fa) ⟨[.ref a], []⟩) (fun r s' => r = .ok (.ret (.bool true)) ∧ OldK s1.heap s'.heap ∧ s'.os = s1.os ∧ AllBare s'.gens) s1 := by
  have rv := vals_ints hi
  have lenV := hi.length
  let tab : Addr → Prop := fun b => b ∈ cs.map (·.2)
  have tabAt : ∀ {b : Addr}, tab b → s1.heap.get? b = some { cls := .none, data := .fields #[] } := by
    intro b hb
    obtain ⟨p, hp, rfl⟩ := List.mem_map.mp hb
    exact hT p hp
  have aNo : ¬ tab a := fun z => by
    have e := tabAt z
    rw [ha] at e
    cases e
  have tabOf : ∀ {p}, p ∈ cs → tab p.2 := fun {p} hp => List.mem_map.mpr ⟨p, hp, rfl⟩
  have main : ∀ H : Hp, (∀ p ∈ cs, H p.2 = some (.tbl #[])) → (∀ b, ¬ tab b → H b = none ∨ ∃ o xs, H b = some (.frz o (.lst xs))) → SqL K H a (ns.map V.int) → HOk P w H s1.heap → (∀ b, H b ≠ none → b = a ∨ tab b) → (H a ≠ none → K.lookup a = none) →
      codeAny (model P w) callerA (.call (.ref fa) ⟨[.ref a], []⟩) (fun r s' => r = .ok (.ret (.bool true)) ∧ OldK s1.heap s'.heap ∧ s'.os = s1.os ∧ AllBare s'.gens) s1 := by
    intro H hH hO hS hok hA hK
    have out : ∀ {b : Addr} {o : Obj}, s1.heap.get? b = some o → (∀ vs n, o.data ≠ .seq vs n) → o.data ≠ .fields #[] → H b = none := by
      intro b o e n1 n2
      cases q : H b with
      | none => rfl
      | some u =>
        exfalso
        rcases hA b (by rw [q]; exact fun z => nomatch z) with z | z
        · rw [z, ha] at e
          cases e
          exact n1 _ _ rfl
        · rw [tabAt z] at e
          cases e
          exact n2 rfl
    have at_dict : ∀ {b : Addr} {o : Obj} {es : Array DictEntry} {ep : Nat}, s1.heap.get? b = some o → o.data = .dict es ep → H b = none := fun {b o es ep} e d => out e (fun _ _ z => by rw [d] at z; cases z) fun z => by rw [d] at z; cases z
    have keepNs : ∀ {b : Addr} {m : Str → Option Value}, s1.heap.Ns b m → (hidT s1.heap H).Ns b m := by
      rintro b m ⟨o, es, ep, e, d, r⟩
      exact ⟨o, es, ep, hidT_get e (at_dict e d), d, r⟩
    have hKb : K.In (hidT s1.heap H) := by
      intro b o e
      refine hidT_get (KX b o e) ?_
      cases q : H b with
      | none => rfl
      | some u =>
        exfalso
        have hn : H b ≠ none := by rw [q]; exact fun z => nomatch z
        rcases hA b hn with z | z
        · subst z
          rw [hK hn] at e
          cases e
        · obtain ⟨p, hp, rfl⟩ := List.mem_map.mp z
          rw [nT p hp] at e
          cases e
    have e0 : Env0 P w K mg (hidT s1.heap H) callerA [] s1 H := by
      refine ⟨rfl, ⟨hKb, keepNs hns, ⟨mb, keepNs hb, hbb⟩, ?_⟩, fun b o e => of_hidT e, Nat.le_of_eq (hidT_size _ _), trivial, fun b hb => ?_, hok, .of_eq hg⟩
      · obtain ⟨mc, h1, h2⟩ := hlim
        exact ⟨mc, keepNs h1, h2⟩
      · exact absurd (show b ∈ ([] : List Addr) from hb) (by simp)
    have en : Ent callerA s1 H := by
      obtain ⟨mm, o, es, ep, e, d, _⟩ := hsys
      exact ⟨rfl, ⟨o, e⟩, at_dict e d⟩
    have tb : ∀ p ∈ cs, TabB (hidT s1.heap H) mg p.1 p.2 := by
      intro p hp
      refine ⟨?_, ?_, fun z => ?_⟩
      · obtain ⟨o, us, file, tf, flags, tg, inF, text, tt, e1, r1, r2, r3, rest⟩ := hC p hp
        refine ⟨o, us, file, tf, flags, tg, inF, text, tt, hidT_get e1 (out e1 (fun _ _ z => by rw [r2] at z; cases z) fun z => ?_), r1, r2, r3, rest⟩
        rw [r2] at z
        cases z
        simp at r3
      · obtain ⟨bm, ob, b1, b2, b3, b4, b5, b6⟩ := hbm
        refine ⟨bm, ob, b1, b2, fun z => ?_, fun z => ?_, hidT_get b3 (out b3 (fun _ _ z => by rw [b6] at z; cases z) fun z => by rw [b6] at z; cases z), b4, b5, b6⟩
        · obtain ⟨o, es, ep, e, d, _⟩ := hns
          rw [z, e] at b3
          cases b3
          rw [d] at b6
          cases b6
        · rw [z, hT p hp] at b3
          cases b3
          cases b6
      · obtain ⟨o, es, ep, e, d, _⟩ := hns
        rw [z, hT p hp] at e
        cases e
        cases d
    refine codeAny_mono ((F _ hKb (keepNs hns) tb).run callerA [] s1 H ⟨[.ref a], []⟩ [.ref a] [.ref a] _ _ en hr e0 (hbind s1 (.ref a) KX) (.cons rfl .nil) (hsp H hH hS)) fun r s' h => ?_
    cases r with
    | error e => exact False.elim h
    | ok fl =>
      cases fl with
      | next => exact False.elim h
      | brk => exact False.elim h
      | cont => exact False.elim h
      | ret u =>
        obtain ⟨v, H', os, bare, un, hok', r', q⟩ := h
        obtain rfl : v = .bl true := q
        obtain rfl : u = Value.bool true := r'
        have stays : ∀ b o, ¬ tab b → s1.heap.get? b = some o → s'.heap.get? b = some o := by
          intro b o nb e
          rcases hO b nb with z | ⟨ob, xs, z⟩
          · exact un.keep b o e z (fun m => absurd (show b ∈ ([] : List Addr) from m) (by simp)) (by simp)
          · have e1 := (hok b _ z).1
            have e2 := (hok' b _ (un.frzs b ob _ z)).1
            rw [e] at e1
            cases e1
            exact e2
        have grows : ∀ p ∈ cs, ∃ more : Array Value, s'.heap.get? p.2 = some { cls := .none, data := .fields more } := by
          intro p hp
          obtain ⟨more, z⟩ := un.tbls p.2 #[] (hH p hp)
          exact ⟨_, hok' p.2 _ z⟩
        refine ⟨rfl, ⟨fun b o e => ?_, fun b o e => ?_⟩, os, bare⟩
        · by_cases hb : tab b
          · obtain ⟨p, hp, rfl⟩ := List.mem_map.mp hb
            obtain ⟨more, hm⟩ := grows p hp
            have e' := e
            rw [hT p hp] at e'
            cases e'
            exact .inr (.inl ⟨((hC p hp).tab (hT p hp)).isCodeTable, rfl, #[], more, rfl, by rw [Array.empty_append]; exact hm⟩)
          · exact .inl (stays b o hb e)
        · by_cases hb : tab b
          · obtain ⟨p, hp, rfl⟩ := List.mem_map.mp hb
            obtain ⟨more, hm⟩ := grows p hp
            exact ⟨_, hm⟩
          · exact ⟨o, stays b o hb e⟩
  cases hk : K.lookup a with
  | some o =>
    have e := KX a o hk
    rw [ha] at e
    cases e
    let Hs : Hp := fun b => if b ∈ cs.map (·.2) then some (.tbl #[]) else none
    have in_ : ∀ b, tab b → Hs b = some (.tbl #[]) := fun b hb => if_pos hb
    have out_ : ∀ b, ¬ tab b → Hs b = none := fun b hb => if_neg hb
    refine main Hs (fun p hp => in_ _ (tabOf hp)) (fun b nb => .inl (out_ b nb)) (.inr ⟨_, vs.toArray, _, hk, rfl, rfl, rfl, ?_, ?_⟩) (fun b u z => ?_) (fun b z => ?_) fun z => absurd (out_ a aNo) z
    · rw [List.size_toArray, lenV]
      exact hl
    · simpa using rv
    · by_cases hb : tab b
      · rw [in_ b hb] at z
        cases z
        exact tabAt hb
      · rw [out_ b hb] at z
        cases z
    · by_cases hb : tab b
      · exact .inr hb
      · exact absurd (out_ b hb) z
  | none =>
    let Hs : Hp := fun b => if b = a then some (.frz { cls := .type "list", data := .seq vs.toArray } (.lst (ns.map V.int))) else if b ∈ cs.map (·.2) then some (.tbl #[]) else none
    have at_a : Hs a = some (.frz { cls := .type "list", data := .seq vs.toArray } (.lst (ns.map V.int))) := if_pos rfl
    have in_ : ∀ b, tab b → Hs b = some (.tbl #[]) := fun b hb => (if_neg (fun z : b = a => aNo (z ▸ hb))).trans (if_pos hb)
    have out_ : ∀ b, b ≠ a → ¬ tab b → Hs b = none := fun b h1 h2 => (if_neg h1).trans (if_neg h2)
    refine main Hs (fun p hp => in_ _ (tabOf hp)) (fun b nb => ?_) (.inl (.inr ⟨_, at_a⟩)) (fun b u z => ?_) (fun b z => ?_) fun _ => hk
    · by_cases hb : b = a
      · rw [hb]
        exact .inr ⟨_, _, at_a⟩
      · exact .inl (out_ b hb nb)
    · by_cases hb : b = a
      · rw [hb, at_a] at z
        cases z
        rw [hb]
        exact ⟨ha, by rw [List.length_map]; exact hl, vs, _, rv, ha⟩
      · by_cases hb2 : tab b
        · rw [in_ b hb2] at z
          cases z
          exact tabAt hb2
        · rw [out_ b hb hb2] at z
          cases z
    · by_cases hb : b = a
      · exact .inl hb
      · by_cases hb2 : tab b
        · exact .inr hb2
        · exact absurd (out_ b hb hb2) z
/-- what is known of the law's promise at the head's heap -/
def LawTG (l : PySem.W.OpenLaw) (w : World) (K : PySem.W.Frag) (k n : Nat) (x : Str) (mg : Str → Option Value) (fa : Addr) (h : Heap) : Prop :=
  ∃ (fd : FuncData) (cs : List (Addr × Addr)) (sp : Sp), (∀ p ∈ cs, h.get? p.2 = some { cls := .none, data := .fields #[] }) ∧ (∀ p ∈ cs, K.lookup p.2 = none) ∧ (∀ p ∈ cs, PySem.W.CodeHd h p.1 p.2) ∧ (∀ (s : Shared) (u : Value), K.In s.heap → BindsTo s fd ⟨[u], []⟩ [(x, u)]) ∧
    (∀ (H : Hp) (a : Addr) (ns : List Int), ns.length ≤ n → (∀ p ∈ cs, H p.2 = some (.tbl #[])) → SqL K H a (ns.map V.int) → sp [.ref a] H (fun v _ => v = .bl true) fun _ _ _ => False) ∧
    ∀ base : Heap, K.In base → base.Ns mainGlobals mg → (∀ p ∈ cs, TabB base mg p.1 p.2) → FnG l.prog w K mg base k fa fd [x] sp
theorem walk_ofTG {l : PySem.W.OpenLaw} {n k : Nat} {q : Program} {loose : List Str} {XP : (Str → Option Value) → Heap → Prop} {YP : World → Heap → Prop} {d : DefRec} {K : Params → PySem.W.Frag} {x : Str}
    (hn : l.most = some n) (hn2 : n ≤ sizeLine) (hdf : d.params.defaults = []) (hr : Room k callerA) (hi : importsNone q = true) (hY : ∀ (w : World) (h : Heap), YP w h → (K w.params).In h)
    (F : ∀ (w : World) (mg : Str → Option Value) (fa : Addr) (h : Heap), (K w.params).In h → h.Ns mainGlobals mg → mg d.name = some (.ref fa) →
      (∀ (y : Str) (e : DefRec) (c T : Addr), (recsOf q).find? (fun e => e.name == y) = some e → PySem.W.tabIn (K w.params) y = some (c, T) → PySem.W.CodeHd h c T ∧ h.get? T = some { cls := .none, data := .fields #[] }) → LawTG l w (K w.params) k n x mg fa h) :
    PySem.W.WalkO q loose XP YP l.row.toRowW d [] (fun f vs => PySem.call f vs) := by
  refine Att.attach_callB hn hdf fun w s0 s1 mg mb fa o pm cd doc a vs ns G Y ho hd hcd hmg hobj hints hlen hbits hg => ?_
  have KX := hY w _ Y
  obtain ⟨fd, cs, sp, hT, nT, hC, hb, hsp, hF⟩ := F w mg fa _ KX G.T.g hmg fun y e c T h1 h2 => PySem.W.tab_of G.T KX h1 h2
  obtain ⟨mm, hm, _⟩ := (G.T.seer hi).mods
  exact law_callTG KX G.T.g G.T.b G.T.builtins G.T.nolimit ⟨mm, hm⟩ hg hT nT hC G.T.bmain hobj hints (Nat.le_trans hlen hn2) hr hF hb fun H hH hS => hsp H a ns hlen hH hS
/-! ### a def whose code object is known -/
theorem fun_code {K : PySem.W.Frag} {x : Str} {st : Stmt} {f c T : Addr} {fd : FuncData} (F : Fun K x x st f fd) (hn : PySem.W.nsIn K mainGlobals x = some (some (.ref f))) (ht : PySem.W.tabIn K x = some (c, T)) : fd.code = .ref c := by
  obtain ⟨oc, od, kV, doc, pm, an, cdv, ct, osl, rfl, lk, hcd⟩ := F.ex
  unfold PySem.W.tabIn at ht
  rw [hn] at ht
  dsimp only at ht
  rw [lk] at ht
  dsimp only [PySem.W.fnOf] at ht ⊢
  split at ht
  · split at ht
    · split at ht
      · cases ht
        rfl
      · cases ht
    · cases ht
  · cases ht
section
variable {P : Program} {w : World} {K : PySem.W.Frag} {mg : Str → Option Value} {base : Heap}
theorem Fun.okGC {x qual : Str} {st : Stmt} {f c : Addr} {fd : FuncData} {N ps : List Str} {k : Nat} {sp : Sp} (F : Fun K x qual st f fd) (hc : fd.code = .ref c) (S : FnScope N ps (defScope st)) (len : ∀ vs H Q E, sp vs H Q E → vs.length = ps.length)
    (hbody : ∀ (A : Around) (outer : List Env) (s : Shared) (H : Hp) (vs : List V) (Q : VK) (E : XK), Ent A s H → Room k (A.deeper (envOfC qual (defScope st) s.heap.objs.size f (.ref c))) → sp vs H Q E →
      ∃ t, PSs (cxOf CX0 P w K mg base N qual (defScope st) f (.ref c) A outer s H E).nox (defBody st) t ∧ t { nx := fun _ H' => Q .non H', rt := Q } (start N vs) H) : FnG P w K mg base (k + 1) f fd ps sp := by
  obtain ⟨oc, od, kV, doc, pm, an, cdv, ct, osl, rfl, lk, hcd⟩ := F.ex
  obtain rfl : cdv = .ref c := hc
  refine ⟨len, fun A outer s H args us vs Q E en hr e0 hb r hsp => ?_⟩
  have hl := len _ _ _ _ hsp
  have KX : K.In s.heap := e0.mod.kin.keeps fun b o e => (e0.bs b o e).1
  have lim : s.heap.NoLimit := e0.mod.nolimit.keeps fun b o e => (e0.bs b o e).1
  have hkind : ∀ y ∈ ps.zip us, (defScope st).names.lookup y.1 = some .local ∨ ((defScope st).names.lookup y.1 = some .cell ∧ ((cellsFrom (s.heap.objs.size + 1) (defScope st).names []).lookup y.1).isSome = true) := by
    rintro ⟨n, v⟩ hy
    rcases S.par n (List.of_mem_zip hy).1 with q | q
    · exact .inl q
    · exact .inr ⟨q, PySem.W.cellsFrom_some _ _ _ (.inl q)⟩
  refine codeAny_call_function hr.depth (KX _ _ lk) rfl S.co S.gen rfl (PySem.W.codeRec_of KX hcd) (hb _ _ _ _ ?_)
  refine wpAny_newFunctionEnv_cells S.kind hkind fun env he s1 xx => ?_
  subst he
  refine ⟨lim.keeps xx.toInCall.keep, codeAny_func ?_⟩
  obtain ⟨t, ht, hq⟩ := hbody A outer s H vs Q E en (hr.deeper _) hsp
  have I := inv_start (CX := CX0) (E := E) S hr.hd e0 hl r xx
  refine wpAny_mono (ht.nox.run [] s1 (start N vs) H _ I hq) (fun fl s' hs => ?_) fun e s' hs => hs
  cases fl with
  | ret u =>
    obtain ⟨v, σ', H', J, rv, q⟩ := hs
    exact ⟨v, H', J.os, J.bare, J.base, J.hok, rv, q⟩
  | next =>
    obtain ⟨σ', H', J, q⟩ := hs
    exact ⟨V.non, H', J.os, J.bare, J.base, J.hok, rfl, q⟩
  | brk =>
    obtain ⟨_, _, _, q⟩ := hs
    exact False.elim q
  | cont =>
    obtain ⟨_, _, _, q⟩ := hs
    exact False.elim q
end
/-! ### what stays while tables grow -/
mutual
theorem Da.extN {N : Addr → Prop} {H H' : Hp} (k : ExtN H H') : ∀ (d : PyData) (v : V), Da N H v d → Da N H' v d
  | .none, _, h => by cases h; exact .non
  | .bool b, _, h => by cases h; exact .bl b
  | .int i, _, h => by cases h; exact .int i
  | .str x, _, h => by cases h; exact .str x
  | .list ds, _, h => by
    cases h with
    | lst e n ha => exact .lst (k _ _ e (fun _ z => nomatch z)) n (DaAll.extN k ds _ ha)
  | .tuple ds, _, h => by
    cases h with
    | tup e n ha => exact .tup (k _ _ e (fun _ z => nomatch z)) n (DaAll.extN k ds _ ha)
  | .dict ds, _, h => by
    cases h with
    | dct e n h1 h2 => exact .dct (k _ _ e (fun _ z => nomatch z)) n (DaAll.extNK k ds _ h1) (DaAll.extNV k ds _ h2)
theorem DaAll.extN {N : Addr → Prop} {H H' : Hp} (k : ExtN H H') : ∀ (ds : List PyData) (vs : List V), DaAll N H vs ds → DaAll N H' vs ds
  | [], _, h => by cases h; exact .nil
  | d :: ds, _, h => by
    cases h with
    | cons h1 h2 => exact .cons (Da.extN k d _ h1) (DaAll.extN k ds _ h2)
theorem DaAll.extNK {N : Addr → Prop} {H H' : Hp} (k : ExtN H H') : ∀ (ds : List (PyData × PyData)) (vs : List V), DaAll N H vs (ds.map (·.1)) → DaAll N H' vs (ds.map (·.1))
  | [], _, h => by cases h; exact .nil
  | (a, b) :: ds, _, h => by
    cases h with
    | cons h1 h2 => exact .cons (Da.extN k a _ h1) (DaAll.extNK k ds _ h2)
theorem DaAll.extNV {N : Addr → Prop} {H H' : Hp} (k : ExtN H H') : ∀ (ds : List (PyData × PyData)) (vs : List V), DaAll N H vs (ds.map (·.2)) → DaAll N H' vs (ds.map (·.2))
  | [], _, h => by cases h; exact .nil
  | (a, b) :: ds, _, h => by
    cases h with
    | cons h1 h2 => exact .cons (Da.extN k b _ h1) (DaAll.extNV k ds _ h2)
end
theorem KT.extN {H H' : Hp} (k : ExtN H H') : KT H H' := fun b ys e => k b _ e fun _ z => nomatch z
theorem ExtN.seq {K : PySem.W.Frag} {H H' : Hp} {a : Addr} {xs : List V} (k : ExtN H H') (h : SqL K H a xs) : SqL K H' a xs := by
  rcases h with (h | ⟨o, h⟩) | h
  · exact .inl (.inl (k _ _ h fun _ z => nomatch z))
  · exact .inl (.inr ⟨o, k _ _ h fun _ z => nomatch z⟩)
  · exact .inr h
theorem Tabs.kp {T : List (Addr × Str)} {H H' : Hp} {pn : Addr} {xs : List V} (t : Tabs T H) (e : H pn = some (.lst xs)) (k : Kp (· = pn) H H') : Tabs T H' := fun p hp => by
  obtain ⟨ps, h1, h2, h3⟩ := t p hp
  refine ⟨ps, k _ _ h1 fun z => ?_, h2, fun pos cv hc => ?_⟩
  · rw [z, e] at h1
    cases h1
  · obtain ⟨c, e1, e2⟩ := h3 pos cv hc
    refine ⟨c, e1, k _ _ e2 fun z => ?_⟩
    rw [z, e] at e2
    unfold CodeO at e2
    cases e2
end HX

set_option maxRecDepth 100000
set_option maxHeartbeats 2000000
namespace HX
open PySem PySem.Spec PyProof.Rows L2 L2H LamX
/-! ### the classes of errors by their names -/
structure Cls21 (mg : Str → Option Value) (C : Nat → Addr) : Prop where
  NoBoard : mg "NoBoard" = some (.ref (C 0))
  NoStand : mg "NoStand" = some (.ref (C 1))
  NoMoment : mg "NoMoment" = some (.ref (C 2))
  NoWheel : mg "NoWheel" = some (.ref (C 3))
  NotNow : mg "NotNow" = some (.ref (C 4))
  NoRow : mg "NoRow" = some (.ref (C 5))
  NoDrain : mg "NoDrain" = some (.ref (C 6))
  NoDrops : mg "NoDrops" = some (.ref (C 7))
  NoAgain : mg "NoAgain" = some (.ref (C 8))
  NoNumber : mg "NoNumber" = some (.ref (C 9))
  NoLinks : mg "NoLinks" = some (.ref (C 10))
  NoMouths : mg "NoMouths" = some (.ref (C 11))
  NoWord : mg "NoWord" = some (.ref (C 12))
  NotAlike : mg "NotAlike" = some (.ref (C 13))
  NoFault : mg "NoFault" = some (.ref (C 14))
  NoSeen : mg "NoSeen" = some (.ref (C 15))
  NoHands : mg "NoHands" = some (.ref (C 16))
  NoDeed : mg "NoDeed" = some (.ref (C 17))
  NoLine : mg "NoLine" = some (.ref (C 18))
  NoText : mg "NoText" = some (.ref (C 19))
  TooMany : mg "TooMany" = some (.ref (C 20))
/-- of which of them an error of class D is one -/
structure EF (K : PySem.W.Frag) (C : Nat → Addr) (D : Addr) (i : Nat) : Prop where
  ec : ExcC K D
  ve : PySem.W.kitOne K (.ref D) (.type "ValueError") = some true
  is : ∀ j, j < 21 → PySem.W.kitOne K (.ref D) (.ref (C j)) = some (decide (j = i))
structure Bi4 (mg : Str → Option Value) : Prop where
  ValueError : mg "ValueError" = none
def words21 : List V := [.str "board", .str "stand", .str "moment", .str "wheel", .str "now", .str "row", .str "drain", .str "drops", .str "again", .str "number", .str "links", .str "mouths", .str "word", .str "alike", .str "fault", .str "seen", .str "hands", .str "deed", .str "line", .str "text", .str "many"]
def wordAt : Nat → Str
  | 0 => "board" | 1 => "stand" | 2 => "moment" | 3 => "wheel" | 4 => "now" | 5 => "row" | 6 => "drain" | 7 => "drops" | 8 => "again" | 9 => "number" | 10 => "links" | 11 => "mouths" | 12 => "word" | 13 => "alike" | 14 => "fault" | 15 => "seen" | 16 => "hands" | 17 => "deed" | 18 => "line" | 19 => "text" | _ => "many"
def marks (i : Nat) : List V := (List.range 21).map fun j => V.bl (decide (j = i))
theorem marks_flat (i : Nat) : (marks i).all flatV = true := by
  rw [List.all_eq_true]
  intro v hv
  obtain ⟨j, _, rfl⟩ := List.mem_map.mp hv
  rfl
theorem marks_one : ∀ i, i < 21 → (marks i).countP (fun z => eqV z (.bl true)) = 1 := by decide +kernel
theorem marks_at {i : Nat} (h : i < 21) : (marks i)[i]? = some (.bl true) := by
  unfold marks
  rw [List.getElem?_map, List.getElem?_range h]
  show some (V.bl (decide (i = i))) = _
  rw [decide_eq_true rfl]
theorem marks_no {i m : Nat} {z : V} (h : m < i) (e : (marks i)[m]? = some z) : eqV z (.bl true) = false := by
  unfold marks at e
  rw [List.getElem?_map] at e
  cases q : (List.range 21)[m]? with
  | none => rw [q] at e; cases e
  | some j =>
    rw [q] at e
    cases e
    have : j = m := by
      have := List.getElem?_eq_some_iff.mp q
      obtain ⟨h1, h2⟩ := this
      rw [List.getElem_range] at h2
      omega
    subst this
    have : decide (j = i) = false := decide_eq_false (by omega)
    show eqV (.bl (decide (j = i))) (.bl true) = false
    rw [this]
    rfl
theorem words_at : ∀ i, i < 21 → words21[i]? = some (.str (wordAt i)) := by
  intro i h
  match i, h with
  | 0, _ | 1, _ | 2, _ | 3, _ | 4, _ | 5, _ | 6, _ | 7, _ | 8, _ | 9, _ | 10, _ | 11, _ | 12, _ | 13, _ | 14, _ | 15, _ | 16, _ | 17, _ | 18, _ | 19, _ | 20, _ => rfl
  | n + 21, h => omega
theorem word_ne : ∀ i, i < 19 → wordAt i ≠ "many" ∧ wordAt i ≠ "text" := by
  intro i h
  match i, h with
  | 0, _ | 1, _ | 2, _ | 3, _ | 4, _ | 5, _ | 6, _ | 7, _ | 8, _ | 9, _ | 10, _ | 11, _ | 12, _ | 13, _ | 14, _ | 15, _ | 16, _ | 17, _ | 18, _ => exact ⟨by decide, by decide⟩
  | n + 19, h => omega
/-- the tuple of one word -/
def spWord (K : PySem.W.Frag) (C : Nat → Addr) (a : Addr) (cls : Value) (d : Option Addr) (H : Hp) (Q : VK) : Prop :=
  ∃ (D : Addr) (i : Nat), cls = .ref D ∧ d = none ∧ i < 19 ∧ EF K C D i ∧ ∀ p H', Same H H' → H' p = some (.tup [.str (wordAt i)]) → Q (.ref p) H'
def lamQ (x : Str) : Str := x ++ ".<locals>." ++ "<lambda>"
theorem qual_cx {CX : CXT} {P : Program} {w : World} {K : PySem.W.Frag} {mg : Str → Option Value} {base : Heap} {N : List Str} {q : Str} {sc : Scope} {f : Addr} {cd : Value} {A : Around} {outer : List Env} {s : Shared} {H : Hp} {E : XK} : (cxOf CX P w K mg base N q sc f cd A outer s H E).nox.env.qual ++ "<lambda>" = lamQ q := rfl
/-! ### the end's facts, one after the other -/
theorem tab_in {K : PySem.W.Frag} {x : Str} {f c T : Addr} {fd : FuncData} {oc e : Value} {od dd : Option Addr} {sl sl' : Array (Option Value)} {vs : Array Value} (a : PySem.W.nsIn K mainGlobals x = some (some (.ref f))) (l : K.lookup f = some ⟨oc, od, .func fd, sl⟩) (hc : fd.code = .ref c) (lc : K.lookup c = some ⟨e, dd, .fields vs, sl'⟩) (hv : vs[11]? = some (.ref T)) : PySem.W.tabIn K x = some (c, T) := by
  unfold PySem.W.tabIn
  rw [a]
  dsimp only
  rw [l]
  dsimp only
  rw [hc]
  dsimp only
  rw [lc]
  dsimp only
  rw [hv]
theorem law_cut {G0 : Prop} {K : PySem.W.Frag} {mg : Str → Option Value} {h : Heap} {q : Program} {x : Str} {st : Stmt} {ps : List Str} {f c T : Addr} {od an dd : Option Addr} {sl sl' : Array (Option Value)} {oc kV dc pm ct e : Value} {vs : Array Value} {rec : DefRec} (X : K.In h) (G : h.Ns mainGlobals mg)
    (tabs : ∀ (y : Str) (e : DefRec) (c T : Addr), (recsOf q).find? (fun e => e.name == y) = some e → PySem.W.tabIn K y = some (c, T) → PySem.W.CodeHd h c T ∧ h.get? T = some { cls := .none, data := .fields #[] })
    (a : PySem.W.nsIn K mainGlobals x = some (some (.ref f))) (l : K.lookup f = some ⟨oc, od, .func (PySem.W.fnOf x x (defArgs st) (defBody st) (defScope st) .none kV dc pm an (.ref c) ct), sl⟩) (cc : PySem.W.codeIn K (.ref c) x = true) (k : PySem.W.keepIn K (.ref f) = true)
    (hb : ∀ (kV doc pm : Value) (an : Option Addr) (cdv ct : Value) (us : List Value), us.length = ps.length → bindArgs (PySem.W.fnOf x x (defArgs st) (defBody st) (defScope st) .none kV doc pm an cdv ct) ⟨us, []⟩ = pure (ps.zip us))
    (lc : K.lookup c = some ⟨e, dd, .fields vs, sl'⟩) (hv : vs[11]? = some (.ref T)) (nT : K.lookup T = none) (r : (recsOf q).find? (fun e => e.name == x) = some rec)
    (z : ∀ (f : Addr) (fd : FuncData), Fun K x x st f fd → mg x = some (.ref f) → Binds K fd ps [] → fd.code = .ref c → K.lookup T = none → PySem.W.CodeHd h c T → h.get? T = some { cls := .none, data := .fields #[] } → G0) : G0 := by
  have t := tab_in a l rfl lc hv
  obtain ⟨h1, h2⟩ := tabs x rec c T r t
  exact z f _ (fun_mk l cc k) (PySem.W.mg_of X G a) ((fun_mk l cc k).binds hb) rfl nT h1 h2
theorem cls_cut {G0 : Prop} {K : PySem.W.Frag} {mg : Str → Option Value} {h : Heap} {c0 c1 c2 c3 c4 c5 c6 c7 c8 c9 c10 c11 c12 c13 c14 c15 c16 c17 c18 c19 c20 cM : Addr} (X : K.In h) (G : h.Ns mainGlobals mg)
    (a0 : PySem.W.nsIn K mainGlobals "NoBoard" = some (some (.ref c0))) (a1 : PySem.W.nsIn K mainGlobals "NoStand" = some (some (.ref c1))) (a2 : PySem.W.nsIn K mainGlobals "NoMoment" = some (some (.ref c2))) (a3 : PySem.W.nsIn K mainGlobals "NoWheel" = some (some (.ref c3)))
    (a4 : PySem.W.nsIn K mainGlobals "NotNow" = some (some (.ref c4))) (a5 : PySem.W.nsIn K mainGlobals "NoRow" = some (some (.ref c5))) (a6 : PySem.W.nsIn K mainGlobals "NoDrain" = some (some (.ref c6))) (a7 : PySem.W.nsIn K mainGlobals "NoDrops" = some (some (.ref c7)))
    (a8 : PySem.W.nsIn K mainGlobals "NoAgain" = some (some (.ref c8))) (a9 : PySem.W.nsIn K mainGlobals "NoNumber" = some (some (.ref c9))) (a10 : PySem.W.nsIn K mainGlobals "NoLinks" = some (some (.ref c10))) (a11 : PySem.W.nsIn K mainGlobals "NoMouths" = some (some (.ref c11)))
    (a12 : PySem.W.nsIn K mainGlobals "NoWord" = some (some (.ref c12))) (a13 : PySem.W.nsIn K mainGlobals "NotAlike" = some (some (.ref c13))) (a14 : PySem.W.nsIn K mainGlobals "NoFault" = some (some (.ref c14))) (a15 : PySem.W.nsIn K mainGlobals "NoSeen" = some (some (.ref c15)))
    (a16 : PySem.W.nsIn K mainGlobals "NoHands" = some (some (.ref c16))) (a17 : PySem.W.nsIn K mainGlobals "NoDeed" = some (some (.ref c17))) (a18 : PySem.W.nsIn K mainGlobals "NoLine" = some (some (.ref c18))) (a19 : PySem.W.nsIn K mainGlobals "NoText" = some (some (.ref c19)))
    (a20 : PySem.W.nsIn K mainGlobals "TooMany" = some (some (.ref c20))) (aM : PySem.W.nsIn K mainGlobals "MarbleError" = some (some (.ref cM)))
    (z : Cls21 mg (fun j => [c0, c1, c2, c3, c4, c5, c6, c7, c8, c9, c10, c11, c12, c13, c14, c15, c16, c17, c18, c19, c20].getD j 0) → mg "NoBoard" = some (.ref c0) → mg "NoStand" = some (.ref c1) → mg "NoMoment" = some (.ref c2) → mg "NoWheel" = some (.ref c3) → mg "NotNow" = some (.ref c4) → mg "NoRow" = some (.ref c5) → mg "NoDrain" = some (.ref c6) → mg "NoDrops" = some (.ref c7) → mg "NoAgain" = some (.ref c8) → mg "NoNumber" = some (.ref c9) → mg "NoLinks" = some (.ref c10) → mg "NoMouths" = some (.ref c11) → mg "NoWord" = some (.ref c12) → mg "NotAlike" = some (.ref c13) → mg "NoFault" = some (.ref c14) → mg "NoSeen" = some (.ref c15) → mg "NoHands" = some (.ref c16) → mg "NoDeed" = some (.ref c17) → mg "NoLine" = some (.ref c18) → mg "NoText" = some (.ref c19) → mg "TooMany" = some (.ref c20) → mg "MarbleError" = some (.ref cM) → G0) : G0 :=
  z ⟨PySem.W.mg_of X G a0, PySem.W.mg_of X G a1, PySem.W.mg_of X G a2, PySem.W.mg_of X G a3, PySem.W.mg_of X G a4, PySem.W.mg_of X G a5, PySem.W.mg_of X G a6, PySem.W.mg_of X G a7, PySem.W.mg_of X G a8, PySem.W.mg_of X G a9, PySem.W.mg_of X G a10, PySem.W.mg_of X G a11, PySem.W.mg_of X G a12, PySem.W.mg_of X G a13, PySem.W.mg_of X G a14, PySem.W.mg_of X G a15, PySem.W.mg_of X G a16, PySem.W.mg_of X G a17, PySem.W.mg_of X G a18, PySem.W.mg_of X G a19, PySem.W.mg_of X G a20⟩ (PySem.W.mg_of X G a0) (PySem.W.mg_of X G a1) (PySem.W.mg_of X G a2) (PySem.W.mg_of X G a3) (PySem.W.mg_of X G a4) (PySem.W.mg_of X G a5) (PySem.W.mg_of X G a6) (PySem.W.mg_of X G a7) (PySem.W.mg_of X G a8) (PySem.W.mg_of X G a9) (PySem.W.mg_of X G a10) (PySem.W.mg_of X G a11) (PySem.W.mg_of X G a12) (PySem.W.mg_of X G a13) (PySem.W.mg_of X G a14) (PySem.W.mg_of X G a15) (PySem.W.mg_of X G a16) (PySem.W.mg_of X G a17) (PySem.W.mg_of X G a18) (PySem.W.mg_of X G a19) (PySem.W.mg_of X G a20) (PySem.W.mg_of X G aM)
/-- what is known of the class at place i of them, its address d -/
theorem err_cut {G0 : Prop} {K : PySem.W.Frag} {h : Heap} {mg : Str → Option Value} {x : Str} {c0 c1 c2 c3 c4 c5 c6 c7 c8 c9 c10 c11 c12 c13 c14 c15 c16 c17 c18 c19 c20 cM d : Addr} (X : K.In h) (i : Nat)
    (h0 : mg "NoBoard" = some (.ref c0)) (h1 : mg "NoStand" = some (.ref c1)) (h2 : mg "NoMoment" = some (.ref c2)) (h3 : mg "NoWheel" = some (.ref c3)) (h4 : mg "NotNow" = some (.ref c4)) (h5 : mg "NoRow" = some (.ref c5)) (h6 : mg "NoDrain" = some (.ref c6)) (h7 : mg "NoDrops" = some (.ref c7)) (h8 : mg "NoAgain" = some (.ref c8)) (h9 : mg "NoNumber" = some (.ref c9)) (h10 : mg "NoLinks" = some (.ref c10)) (h11 : mg "NoMouths" = some (.ref c11)) (h12 : mg "NoWord" = some (.ref c12)) (h13 : mg "NotAlike" = some (.ref c13)) (h14 : mg "NoFault" = some (.ref c14)) (h15 : mg "NoSeen" = some (.ref c15)) (h16 : mg "NoHands" = some (.ref c16)) (h17 : mg "NoDeed" = some (.ref c17)) (h18 : mg "NoLine" = some (.ref c18)) (h19 : mg "NoText" = some (.ref c19)) (h20 : mg "TooMany" = some (.ref c20)) (hM : mg "MarbleError" = some (.ref cM)) (g : mg x = some (.ref d))
    (kC : PySem.W.keepIn K (.ref d) = true) (ex : PySem.W.excIn K d veTail "ValueError.__new__" = true) (sb : PySem.W.subIn K (.ref d) (.type "BaseException") = some true) (ty : PySem.W.typeIn K (.ref d) = some (.type "type"))
    (e1 : PySem.W.findIn K (.ref d) "__getattribute__" = some (some (.builtin "BaseException.__getattribute__"))) (e2 : PySem.W.findIn K (.ref d) "__getattr__" = some none) (e3 : PySem.W.hasDictIn K d = true) (e4 : PySem.W.findIn K (.ref d) "__class__" = some (some (.builtin "object.__class__")))
    (e5 : PySem.W.specialIn K (.builtin "object.__class__") "__get__" = some (some (.builtin "getset_descriptor.__get__"))) (e6 : PySem.W.takesIn K (.builtin "object.__class__") = some true) (e7 : PySem.W.mroIn K d (.type "object") = some true) (ve : PySem.W.kitOne K (.ref d) (.type "ValueError") = some true) (xm : PySem.W.exmOne K (.ref d) (.ref cM) = some true)
    (k0 : PySem.W.kitOne K (.ref d) (.ref c0) = some (decide (0 = i))) (k1 : PySem.W.kitOne K (.ref d) (.ref c1) = some (decide (1 = i))) (k2 : PySem.W.kitOne K (.ref d) (.ref c2) = some (decide (2 = i))) (k3 : PySem.W.kitOne K (.ref d) (.ref c3) = some (decide (3 = i))) (k4 : PySem.W.kitOne K (.ref d) (.ref c4) = some (decide (4 = i))) (k5 : PySem.W.kitOne K (.ref d) (.ref c5) = some (decide (5 = i))) (k6 : PySem.W.kitOne K (.ref d) (.ref c6) = some (decide (6 = i))) (k7 : PySem.W.kitOne K (.ref d) (.ref c7) = some (decide (7 = i))) (k8 : PySem.W.kitOne K (.ref d) (.ref c8) = some (decide (8 = i))) (k9 : PySem.W.kitOne K (.ref d) (.ref c9) = some (decide (9 = i))) (k10 : PySem.W.kitOne K (.ref d) (.ref c10) = some (decide (10 = i))) (k11 : PySem.W.kitOne K (.ref d) (.ref c11) = some (decide (11 = i))) (k12 : PySem.W.kitOne K (.ref d) (.ref c12) = some (decide (12 = i))) (k13 : PySem.W.kitOne K (.ref d) (.ref c13) = some (decide (13 = i))) (k14 : PySem.W.kitOne K (.ref d) (.ref c14) = some (decide (14 = i))) (k15 : PySem.W.kitOne K (.ref d) (.ref c15) = some (decide (15 = i))) (k16 : PySem.W.kitOne K (.ref d) (.ref c16) = some (decide (16 = i))) (k17 : PySem.W.kitOne K (.ref d) (.ref c17) = some (decide (17 = i))) (k18 : PySem.W.kitOne K (.ref d) (.ref c18) = some (decide (18 = i))) (k19 : PySem.W.kitOne K (.ref d) (.ref c19) = some (decide (19 = i))) (k20 : PySem.W.kitOne K (.ref d) (.ref c20) = some (decide (20 = i)))
    (z : Err K mg x d → EF K (fun j => [c0, c1, c2, c3, c4, c5, c6, c7, c8, c9, c10, c11, c12, c13, c14, c15, c16, c17, c18, c19, c20].getD j 0) d i → PySem.W.exmOne K (.ref d) (.ref cM) = some true → G0) : G0 := by
  refine z ⟨g, kC, ex, sb, ty⟩ ⟨⟨e1, e2, sb, e3, e4, e5, e6, e7⟩, ve, fun j hj => ?_⟩ xm
  match j, hj with
  | 0, _ => exact k0
  | 1, _ => exact k1
  | 2, _ => exact k2
  | 3, _ => exact k3
  | 4, _ => exact k4
  | 5, _ => exact k5
  | 6, _ => exact k6
  | 7, _ => exact k7
  | 8, _ => exact k8
  | 9, _ => exact k9
  | 10, _ => exact k10
  | 11, _ => exact k11
  | 12, _ => exact k12
  | 13, _ => exact k13
  | 14, _ => exact k14
  | 15, _ => exact k15
  | 16, _ => exact k16
  | 17, _ => exact k17
  | 18, _ => exact k18
  | 19, _ => exact k19
  | 20, _ => exact k20
  | n + 21, h => omega
theorem pss_nev {X : Cx} {ss : List Stmt} : PSs X ss (fun _ _ _ => False) := ⟨fun _ _ _ _ _ _ h => h.elim⟩
end HX

set_option maxRecDepth 100000
set_option maxHeartbeats 2000000
namespace HX
open PySem PySem.Spec PyProof.Rows L2
/-! ### tuples known to the last: cut, put together, turned about, written -/
section
variable {X : Cx}
theorem laidF {pins : List (Addr × Obj)} {σ : L2.St} {H : Hp} {s : Shared} {ys : List V} {its : List Value} {Q : VK} (I : Inv X pins σ H s) (hz : ys.length ≤ sizeLine) (r : Vals ys its) (q : ∀ p o, H p = none → o.dict = none → Q (.ref p) (upd H p (.frz o (.tup ys)))) :
    EP X pins σ Q (.ref s.heap.objs.size) { s with heap := s.heap.push { cls := .type "tuple", data := .seq its.toArray } } := by
  have I2 : Inv X pins σ (upd H s.heap.objs.size (.frz { cls := .type "tuple", data := .seq its.toArray } (.tup ys))) { s with heap := s.heap.push { cls := .type "tuple", data := .seq its.toArray } } :=
    I.laid (t' := s.toks) (fun b o e => Heap.get?_push_of_some _ e) (Nat.le_refl _) (show ObjOk X.prog X.w _ _ _ (.frz _ (.tup ys)) from ⟨Heap.get?_push_size _ rfl, hz, its, r, IsTup.new _ _⟩)
  exact ⟨.ref s.heap.objs.size, _, I2, rfl, q _ _ (I.hok.fresh (Nat.le_refl _)) rfl⟩
def rSlF (K : PySem.W.Frag) : V → Option Int → Option Int → Hp → VK → Prop := fun x lo hi H Q => ∃ a xs, x = .ref a ∧ SqT K H a xs ∧ (HT.sIx xs.length 0 lo = 0 ∧ HT.sIx xs.length xs.length hi = xs.length → Q (.ref a) H) ∧
  (¬ (HT.sIx xs.length 0 lo = 0 ∧ HT.sIx xs.length xs.length hi = xs.length) → ∀ p o, H p = none → o.dict = none → Q (.ref p) (upd H p (.frz o (.tup (cutV xs lo hi)))))
theorem sl_tupF : SlR X (rSlF X.K) := by
  intro pins s σ H x v vl vu lo hi sl Q I rx hs pl pu h
  obtain ⟨a, xs, rfl, hx, q1, q2⟩ := h
  cases rx
  obtain ⟨its, r, ht, hz⟩ := I.tuple hx
  have hn : its.toArray.size = xs.length := by rw [List.size_toArray]; exact r.length.symm
  refine ⟨"tuple", _, PyProof.Rows.slot_tuple_getitem.lookup, ht.typeIs, ?_⟩
  by_cases hw : HT.sIx xs.length 0 lo = 0 ∧ HT.sIx xs.length xs.length hi = xs.length
  · exact getItem_tuple_whole ht hs pl pu (by rw [hn]; exact hw) ⟨.ref a, H, I, rfl, q1 hw⟩
  · refine HT.getItem_tuple_cut ht hs pl pu (by rw [hn]; exact hw) ?_ (by rw [hn]; exact hz)
    rw [hn]
    exact laidF I (Nat.le_trans (cutV_length xs lo hi) hz) ((r.drop (HT.sIx xs.length 0 lo)).take (HT.sIx xs.length xs.length hi - HT.sIx xs.length 0 lo)) (q2 hw)
def rCatF (K : PySem.W.Frag) : R2 := fun x y H Q => ∃ a b xs ys, x = .ref a ∧ y = .ref b ∧ SqT K H a xs ∧ SqT K H b ys ∧ xs.length + ys.length ≤ sizeLine ∧
  (xs = [] → Q (.ref b) H) ∧ (xs ≠ [] → ys = [] → Q (.ref a) H) ∧ (xs ≠ [] → ys ≠ [] → ∀ p o, H p = none → o.dict = none → Q (.ref p) (upd H p (.frz o (.tup (xs ++ ys)))))
theorem op_catF : OpR X (binaryOp .Add) (rCatF X.K) := by
  intro pins s σ H x y v u Q I rx ry h
  obtain ⟨a, b, xs, ys, rfl, rfl, ha, hb, hz, q0, q1, q2⟩ := h
  cases rx
  cases ry
  obtain ⟨i1, r1, p1, _⟩ := I.tuple ha
  obtain ⟨i2, r2, p2, _⟩ := I.tuple hb
  by_cases hx : xs = []
  · subst hx
    cases r1
    exact cat_tup0 p1 p2 ⟨.ref b, H, I, rfl, q0 rfl⟩
  · refine HT.cat_tup p1 p2 (fun z => hx (r1.nil_iff.mp z)) (fun z => ⟨.ref a, H, I, rfl, q1 hx (r2.nil_iff.mp z)⟩) (fun z => ?_) (by rw [← r1.length, ← r2.length]; exact hz)
    exact laidF I (by rw [List.length_append]; exact hz) (r1.append r2) (q2 hx (fun w => z (r2.nil_iff.mpr w)))
def tTupF (t : TA) : TE := fun σ H Q => t σ H fun xs H1 => xs.length ≤ sizeLine ∧ ∀ p o, H1 p = none → o.dict = none → Q (.ref p) (upd H1 p (.frz o (.tup xs)))
theorem pe_tupF {es : List Expr} {t : TA} {x1} {pos : Pos} (h : PA X es t) : PE X (.Tuple es x1 pos) (tTupF t) := by
  refine ⟨fun pins s σ H Q I hq => ?_⟩
  refine wpAny_Tuple_spliced (thn (h.run pos pins s σ H _ I hq) fun us s1 ⟨xs, H1, I1, r, z, q⟩ => ⟨by rw [← r.length]; exact z, ?_⟩)
  exact laidF I1 z r q
def tRevF (K : PySem.W.Frag) (te : TE) : TE := fun σ H Q => te σ H fun x H1 => ∃ a xs, x = .ref a ∧ SqT K H1 a xs ∧ ∀ p o, H1 p = none → o.dict = none → Q (.ref p) (upd H1 p (.frz o (.tup xs.reverse)))
theorem pe_revF {e : Expr} {te : TE} {k : Nat} {p1 p2 p3 pos : Pos} (he : PE X e te) : PE X (.Subscript e (.Slice none none (some (.UnaryOp .USub (.Constant (.int 1) k p1) p2)) p3) pos) (tRevF X.K te) := by
  refine ⟨fun pins s σ H Q I h => ?_⟩
  refine Subscript_ (thn (he.run pins s σ H _ I h) fun v s1 ⟨x, H1, I1, r1, q1⟩ => ?_)
  obtain ⟨a, xs, ex, hx, q⟩ := q1
  subst ex
  cases r1
  have hst : PO X (some (.UnaryOp .USub (.Constant (.int 1) k p1) p2)) (tPart (tUn (rU fun i => .int (-i)) (tC (.int 1)))) := po_some (pe_un un_neg pe_int)
  refine wpAny_Slice (thn (po_none.run pins s1 σ H1 (fun o H2 => o = none ∧ H2 = H1) I1 ⟨rfl, rfl⟩) fun vl s2 ⟨l, H2, I2, pl, el, e2⟩ => ?_)
  subst el e2
  refine thn (po_none.run pins s2 σ H2 (fun o H3 => o = none ∧ H3 = H2) I2 ⟨rfl, rfl⟩) fun vu s3 ⟨u, H3, I3, pu, eu, e3⟩ => ?_
  subst eu e3
  refine thn (hst.run pins s3 σ H3 (fun o H4 => o = some (-1) ∧ H4 = H3) I3 ⟨1, rfl, -1, rfl, rfl, rfl⟩) fun vs s4 ⟨o, H4, I4, ps, eo, e4⟩ => ?_
  subst eo e4
  have I5 : Inv X pins σ H4 { s4 with heap := s4.heap.push { cls := .type "slice", data := .fields #[vl, vu, vs] } } := I4.kept (t' := s4.toks) fun b ob q => Heap.get?_push_of_some _ q
  obtain ⟨its, r, ht, hz⟩ := I5.tuple hx
  have hlen := r.length
  show wpAny (model X.prog X.w) X.A (subscriptTail e (.Slice none none (some (.UnaryOp .USub (.Constant (.int 1) k p1) p2)) p3) (.ref a) (.ref s4.heap.objs.size)) (EP X pins σ Q) X.xe { s4 with heap := s4.heap.push { cls := .type "slice", data := .fields #[vl, vu, vs] } }
  refine tail_any (ops := [.ref a, .ref s4.heap.objs.size]) ht.typeIs (PyProof.Rows.slot_tuple_getitem.lookup) ?_ (by with_unfolding_all rfl)
  refine getItem_tuple_rev ht (Heap.IsSliceOf.new _ vl vu vs) pl pu ps ?_ (by omega)
  exact laidF I5 (by rw [List.length_reverse]; exact hz) r.reverse q
end
/-! rows by these -/
theorem rowV_inj : ∀ (a b : List Nat), rowV a = rowV b → a = b
  | [], [], _ => rfl
  | [], _ :: _, h => by cases h
  | _ :: _, [], h => by cases h
  | x :: a, y :: b, h => by
    have h1 : V.int (x : Int) = V.int (y : Int) := (List.cons.inj h).1
    have h2 := V.int.inj h1
    rw [show x = y by omega, rowV_inj a b (List.cons.inj h).2]
theorem rowV_app (a b : List Nat) : rowV (a ++ b) = rowV a ++ rowV b := by
  unfold rowV
  rw [List.map_append]
theorem RowF.sq {K : PySem.W.Frag} {H : Hp} {r : Addr} {row : List Nat} (h : RowF H r row) : SqT K H r (rowV row) := RowAt.sq (.inr h)
theorem rd_sliceF {K : PySem.W.Frag} {H : Hp} {Q : VK} {r : Addr} {row : List Nat} {lo hi : Option Int} {row' : List Nat} (hx : RowF H r row) (hc : cutV (rowV row) lo hi = rowV row') (q : ∀ p H', Same H H' → RowF H' p row' → Q (.ref p) H') : rSlF K (.ref r) lo hi H Q := by
  refine ⟨r, rowV row, rfl, hx.sq, fun h => q r H (Same.refl H) ?_, fun _ p o hp od => q p _ (Same.new hp) ⟨o, od, by rw [upd_same, hc]⟩⟩
  have : rowV row' = rowV row := by
    rw [← hc]
    unfold cutV
    rw [h.1, h.2, List.drop_zero, Nat.sub_zero, List.take_length]
  rw [rowV_inj _ _ this]
  exact hx
theorem rd_catF {K : PySem.W.Frag} {H : Hp} {Q : VK} {a b : Addr} {xs ys : List Nat} (hx : RowF H a xs) (hy : RowF H b ys) (hz : xs.length + ys.length ≤ 1000) (q : ∀ p H', Same H H' → RowF H' p (xs ++ ys) → Q (.ref p) H') : rCatF K (.ref a) (.ref b) H Q := by
  have ln : ∀ l : List Nat, (rowV l).length = l.length := fun l => List.length_map ..
  refine ⟨a, b, rowV xs, rowV ys, rfl, rfl, hx.sq, hy.sq, by rw [ln, ln]; exact Nat.le_of_lt (small1000 hz), fun e => q b H (Same.refl H) ?_, fun _ e => q a H (Same.refl H) ?_, fun _ _ p o hp od => q p _ (Same.new hp) ⟨o, od, by rw [upd_same, rowV_app]⟩⟩
  · rw [rowV_inj xs [] e]
    exact hy
  · rw [rowV_inj ys [] e, List.append_nil]
    exact hx
end HX

set_option maxRecDepth 100000
set_option maxHeartbeats 2000000
namespace HX
open PySem PySem.Spec PyProof.Rows L2 L2H LamX
/-! ### repr(x), x of numbers, truths, texts, lists and tuples, whichever way known -/
def rReprP (K : PySem.W.Frag) : List V → Hp → VK → Prop := fun xs H Q => ∃ (v : V) (d : PyData), xs = [v] ∧ Dp K H v d ∧ d.hasDict = false ∧ Gd 16000000 100 d ∧ Q (.str d.shown) H
theorem call_reprP {X : Cx} (en : EntX X) (hu : X.A.units + 150 < cLine) : CallR X (.builtin "repr") (rReprP X.K) := by
  intro pins s σ H xs us Q I r h
  obtain ⟨v, d, rfl, hd, nd, hg, q⟩ := h
  obtain ⟨u, rfl, rv⟩ := vals1 r
  obtain ⟨as, hr⟩ := Dp.reads I d v u hd rv
  obtain ⟨z1, z2⟩ := shown_le (by decide) d hg.iw
  have hs : d.shown.length ≤ sizeLine := Nat.le_trans z1 (Nat.le_trans hg.wn (by decide))
  have hsm : d.hasDict = true → sysModules ∉ as := fun z => by rw [nd] at z; cases z
  have hdp := hg.dp
  cases hr with
  | none => exact PySem.P.repr_of_none ⟨.str _, H, I.tok _, ⟨_, rfl⟩, by simpa only [PyData.shown] using q⟩
  | bool b => exact PySem.P.repr_of_bool ⟨.str _, H, I.tok _, ⟨_, rfl⟩, by simpa only [PyData.shown] using q⟩
  | int i t => exact PySem.P.repr_of_int (by simpa [PyData.showable] using z2) ⟨.str _, H, I.tok _, ⟨_, rfl⟩, by simpa only [PyData.shown] using q⟩
  | str x t => exact PySem.P.repr_of_str ⟨.str _, H, I.tok _, ⟨_, rfl⟩, by simpa only [PyData.shown] using q⟩ (by simpa only [PyData.shown] using hs)
  | list a1 a2 a3 a4 => exact repr_of_reads' (.list a1 a2 a3 a4) z2 hsm en.gu (by omega) (fun _ _ e => e) (fun h' u' tk k => ⟨.str _, H, I.kept (t' := tk) k, ⟨_, rfl⟩, q⟩) hs
  | tuple a1 a2 a3 a4 => exact repr_of_reads' (.tuple a1 a2 a3 a4) z2 hsm en.gu (by omega) (fun _ _ e => e) (fun h' u' tk k => ⟨.str _, H, I.kept (t' := tk) k, ⟨_, rfl⟩, q⟩) hs
  | dict a1 a2 a3 a4 a5 => exact repr_of_reads' (.dict a1 a2 a3 a4 a5) z2 hsm en.gu (by omega) (fun _ _ e => e) (fun h' u' tk k => ⟨.str _, H, I.kept (t' := tk) k, ⟨_, rfl⟩, q⟩) hs
/-! ### a def whose code object is known -/
def DefC (K : PySem.W.Frag) (mg : Str → Option Value) (x : Str) (st : Stmt) (ps : List Str) (c : Addr) : Prop := ∃ (f : Addr) (fd : FuncData), Fun K x x st f fd ∧ mg x = some (.ref f) ∧ Binds K fd ps [] ∧ fd.code = .ref c
theorem DefC.okG {P : Program} {w : World} {K : PySem.W.Frag} {mg : Str → Option Value} {base : Heap} {k : Nat} {x : Str} {ps : List Str} {sp : Sp} {st : Stmt} {N : List Str} {c : Addr} (D : DefC K mg x st ps c) (S : FnScope N ps (defScope st)) (len : ∀ vs H Q E, sp vs H Q E → vs.length = ps.length)
    (hbody : ∀ (f : Addr) (A : Around) (outer : List Env) (s : Shared) (H : Hp) (vs : List V) (Q : VK) (E : XK), Ent A s H → Room k (A.deeper (envOfC x (defScope st) s.heap.objs.size f (.ref c))) → sp vs H Q E →
      ∃ t, PSs (cxOf CX0 P w K mg base N x (defScope st) f (.ref c) A outer s H E).nox (defBody st) t ∧ t { nx := fun _ H' => Q .non H', rt := Q } (start N vs) H) : CalG P w K mg base (k + 1) x ps sp := by
  obtain ⟨f, fd, F, hm, hb, hc⟩ := D
  exact ⟨f, fd, Fun.okGC F hc S len (hbody f), hm, F.kp, hb⟩
/-! ### a comprehension within a comprehension -/
def relabelS (scope sc : Scope) : Scope := { scope with names := scope.names.map fun (n, k) => if (k == .free && sc.kind == .function && sc.names.lookup n == some .cell) then (n, .cell) else (n, k) }
/-! ### all but the pen and tables stays -/
def KX (pn : Addr) (H H' : Hp) : Prop := ∀ b o, H b = some o → b ≠ pn → (∀ ps, o ≠ .tbl ps) → H' b = some o
theorem KX.refl (pn : Addr) (H : Hp) : KX pn H H := fun _ _ h _ _ => h
theorem KX.trans {pn : Addr} {H H1 H2 : Hp} (a : KX pn H H1) (b : KX pn H1 H2) : KX pn H H2 := fun c o h n t => b c o (a c o h n t) n t
theorem KX.kp {pn : Addr} {H H1 : Hp} (a : Kp (· = pn) H H1) : KX pn H H1 := fun c o h n _ => a c o h n
theorem KX.ext {pn : Addr} {H H1 : Hp} (a : ExtN H H1) : KX pn H H1 := fun c o h _ t => a c o h t
theorem KX.seq {K : PySem.W.Frag} {pn : Addr} {H H' : Hp} {a : Addr} {xs : List V} (k : KX pn H H') (n : H pn = none) (h : SqL K H a xs) : SqL K H' a xs := by
  rcases h with (h | ⟨o, h⟩) | h
  · exact .inl (.inl (k _ _ h (ne_of_none h n) fun _ z => nomatch z))
  · exact .inl (.inr ⟨o, k _ _ h (ne_of_none h n) fun _ z => nomatch z⟩)
  · exact .inr h
theorem RowF.extN {H H' : Hp} {r : Addr} {row : List Nat} (h : RowF H r row) (k : ExtN H H') : RowF H' r row := by
  obtain ⟨o, d, e⟩ := h
  exact ⟨o, d, k _ _ e fun _ z => nomatch z⟩
end HX
namespace HX
open PySem PySem.Spec PyProof.Rows L2
theorem pi_tupK {X : Cx} {K : PySem.W.Frag} {tg e : Expr} {te : TE} (he : PE X e te) (hK : X.K = K := by rfl) : PI X tg e (iTup K te) := by
  subst hK
  exact pi_tup he
def lcScB : List Stmt → Scope
  | _ :: .Assign _ (.Call _ [.ListComp _ _ sc _] _ _) _ :: _ => sc
  | _ => ⟨.function, [], false, false, []⟩
end HX

set_option maxRecDepth 100000
set_option maxHeartbeats 4000000
namespace K04
open PySem PySem.Spec PyProof.Rows L2 HX
def topS (i : Nat) : Stmt := PySem.Challenge.pw_marblefall_k04_rows_told.main.body.getD i (.Pass ⟨0, 0, 0, 0⟩)
abbrev s_is_whole : Stmt := topS 28
theorem sc_is_whole : FnScope ["thing"] ["thing"] (defScope s_is_whole) := ⟨rfl, rfl, rfl, by decide +kernel, rfl, by decide +kernel, by decide +kernel⟩
abbrev s_is_within : Stmt := topS 29
theorem sc_is_within : FnScope ["thing", "least", "most"] ["thing", "least", "most"] (defScope s_is_within) := ⟨rfl, rfl, rfl, by decide +kernel, rfl, by decide +kernel, by decide +kernel⟩
abbrev s_has_parts : Stmt := topS 30
theorem sc_has_parts : FnScope ["thing", "least", "most"] ["thing", "least", "most"] (defScope s_has_parts) := ⟨rfl, rfl, rfl, by decide +kernel, rfl, by decide +kernel, by decide +kernel⟩
abbrev s_is_step : Stmt := topS 31
theorem sc_is_step : FnScope ["thing", "ends", "end"] ["thing", "ends"] (defScope s_is_step) := ⟨rfl, rfl, rfl, by decide +kernel, rfl, by decide +kernel, by decide +kernel⟩
abbrev s_is_wheel : Stmt := topS 32
theorem sc_is_wheel : FnScope ["thing", "ends", "step"] ["thing", "ends"] (defScope s_is_wheel) := ⟨rfl, rfl, rfl, by decide +kernel, rfl, by decide +kernel, by decide +kernel⟩
abbrev s_is_board : Stmt := topS 33
theorem sc_is_board : FnScope ["thing", "wheels", "cups", "ends", "wheel"] ["thing"] (defScope s_is_board) := ⟨rfl, rfl, rfl, by decide +kernel, rfl, by decide +kernel, by decide +kernel⟩
/-! ### the mathematics -/
def wholeB : PyData → Bool
  | .int _ => true
  | _ => false
def withinB (d : PyData) (lo hi : Int) : Bool := match d with
  | .int i => decide (lo ≤ i) && decide (i ≤ hi)
  | _ => false
def partsB (d : PyData) (lo hi : Int) : Bool := match d with
  | .tuple ds => decide (lo ≤ (ds.length : Int)) && decide ((ds.length : Int) ≤ hi)
  | _ => false
def itemsD : PyData → List PyData
  | .tuple ds => ds
  | _ => []
def stepB (d : PyData) (ends : Int) : Bool := partsB d 0 3 && (itemsD d).all fun e => withinB e 0 (ends - 1)
def wheelB (d : PyData) (ends : Int) : Bool := partsB d 1 4 && (itemsD d).all fun e => stepB e ends
def boardB (d : PyData) : Bool := match d with
  | .tuple [w, .int c] => partsB w 1 6 && withinB (.int c) 0 4 && (itemsD w).all fun e => wheelB e (((itemsD w).length : Int) + c)
  | _ => false
theorem kit_int (d : PyData) : kitB (tyN d) "int" = some (wholeB d || (match d with | .bool _ => true | _ => false)) := by
  cases d
  · exact (by decide +kernel : kitB "NoneType" "int" = some false)
  · exact (by decide +kernel : kitB "bool" "int" = some true)
  · exact (by decide +kernel : kitB "int" "int" = some true)
  · exact (by decide +kernel : kitB "str" "int" = some false)
  · exact (by decide +kernel : kitB "list" "int" = some false)
  · exact (by decide +kernel : kitB "tuple" "int" = some false)
  · exact (by decide +kernel : kitB "dict" "int" = some false)

theorem kit_bool (d : PyData) : kitB (tyN d) "bool" = some (match d with | .bool _ => true | _ => false) := by
  cases d
  · exact (by decide +kernel : kitB "NoneType" "bool" = some false)
  · exact (by decide +kernel : kitB "bool" "bool" = some true)
  · exact (by decide +kernel : kitB "int" "bool" = some false)
  · exact (by decide +kernel : kitB "str" "bool" = some false)
  · exact (by decide +kernel : kitB "list" "bool" = some false)
  · exact (by decide +kernel : kitB "tuple" "bool" = some false)
  · exact (by decide +kernel : kitB "dict" "bool" = some false)
theorem kit_tuple (d : PyData) : kitB (tyN d) "tuple" = some (match d with | .tuple _ => true | _ => false) := by
  cases d
  · exact (by decide +kernel : kitB "NoneType" "tuple" = some false)
  · exact (by decide +kernel : kitB "bool" "tuple" = some false)
  · exact (by decide +kernel : kitB "int" "tuple" = some false)
  · exact (by decide +kernel : kitB "str" "tuple" = some false)
  · exact (by decide +kernel : kitB "list" "tuple" = some false)
  · exact (by decide +kernel : kitB "tuple" "tuple" = some true)
  · exact (by decide +kernel : kitB "dict" "tuple" = some false)
section
variable {P : Program} {w : World} {K : PySem.W.Frag} {mg : Str → Option Value} {base : Heap} {k : Nat}
/-! ### is_whole, is_within, has_parts -/
def spWhole : Sp := fun vs H Q _ => ∃ (N : Addr → Prop) (v : V) (d : PyData), vs = [v] ∧ Da N H v d ∧ Q (.bl (wholeB d)) H
theorem ok_is_whole (D : Def K mg "is_whole" s_is_whole ["thing"]) (B : Bi mg) : Cal P w K mg base (k + 1) "is_whole" ["thing"] spWhole := by
  refine D.ok sc_is_whole (fun vs H Q E h => ?_) (fun f cdv A outer s H vs Q E hr h => ?_)
  · obtain ⟨N, v, d, rfl, _⟩ := h
    rfl
  · obtain ⟨N, v, d, rfl, hd, q⟩ := h
    refine ⟨_, (pss_one (ps_ret (pe_and (pe_callB call_isi rfl B.isinstance_ (by decide +kernel) (pa_cons (pv 0) (pa_cons (pe_bltn (v := .ty "int") (u := .type "int") rfl B.int_ (by decide +kernel) rfl) pa_nil))) (pe_one (pe_not (pe_callB call_isi rfl B.isinstance_ (by decide +kernel) (pa_cons (pv 0) (pa_cons (pe_bltn (v := .ty "bool") (u := .type "bool") rfl B.bool_ (by decide +kernel) rfl) pa_nil)))))))), ?_⟩
    refine ⟨v, rfl, v, .ty "int", _, .type "int", _, rfl, .ty "int", hd.ty, kit_ty (kit_int d), _, rfl, ?_⟩
    cases d with
    | int i => exact iteT ⟨v, rfl, v, .ty "bool", _, .type "bool", _, rfl, .ty "bool", hd.ty, kit_ty (kit_bool _), _, rfl, q⟩
    | bool b => exact iteT ⟨v, rfl, v, .ty "bool", _, .type "bool", _, rfl, .ty "bool", hd.ty, kit_ty (kit_bool _), _, rfl, q⟩
    | none => exact iteF q
    | str x => exact iteF q
    | list ds => exact iteF q
    | tuple ds => exact iteF q
    | dict ds => exact iteF q
def spWithin : Sp := fun vs H Q _ => ∃ (N : Addr → Prop) (v : V) (d : PyData) (lo hi : Int), vs = [v, .int lo, .int hi] ∧ Da N H v d ∧ Q (.bl (withinB d lo hi)) H
theorem ok_is_within (D : Def K mg "is_within" s_is_within ["thing", "least", "most"]) (c_is_whole : Cal P w K mg base k "is_whole" ["thing"] spWhole) : Cal P w K mg base (k + 1) "is_within" ["thing", "least", "most"] spWithin := by
  refine D.ok sc_is_within (fun vs H Q E h => ?_) (fun f cdv A outer s H vs Q E hr h => ?_)
  · obtain ⟨N, v, d, lo, hi, rfl, _⟩ := h
    rfl
  · obtain ⟨N, v, d, lo, hi, rfl, hd, q⟩ := h
    refine ⟨_, (pss_one (ps_ret (pe_and (pe_cal c_is_whole hr rfl (pa_cons (pv 0) pa_nil)) (pe_one (pe_chain op_le op_le (pv 1) (pv 0) (pv 2)))))), ?_⟩
    refine ⟨v, rfl, N, v, d, rfl, hd, _, rfl, ?_⟩
    cases d with
    | int i =>
      cases hd
      refine iteT ⟨.int lo, rfl, .int i, rfl, lo, i, rfl, rfl, _, rfl, ?_⟩
      have q' : Q (.bl (decide (lo ≤ i) && decide (i ≤ hi))) H := q
      cases e : decide (lo ≤ i) with
      | true =>
        rw [e] at q'
        exact iteT ⟨.int hi, rfl, i, hi, rfl, rfl, q'⟩
      | false =>
        rw [e] at q'
        exact iteF q'
    | bool b => exact iteF q
    | none => exact iteF q
    | str x => exact iteF q
    | list ds => exact iteF q
    | tuple ds => exact iteF q
    | dict ds => exact iteF q
def spParts : Sp := fun vs H Q _ => ∃ (N : Addr → Prop) (v : V) (d : PyData) (lo hi : Int), vs = [v, .int lo, .int hi] ∧ Da N H v d ∧ Q (.bl (partsB d lo hi)) H
theorem ok_has_parts (D : Def K mg "has_parts" s_has_parts ["thing", "least", "most"]) (B : Bi mg) : Cal P w K mg base (k + 1) "has_parts" ["thing", "least", "most"] spParts := by
  refine D.ok sc_has_parts (fun vs H Q E h => ?_) (fun f cdv A outer s H vs Q E hr h => ?_)
  · obtain ⟨N, v, d, lo, hi, rfl, _⟩ := h
    rfl
  · obtain ⟨N, v, d, lo, hi, rfl, hd, q⟩ := h
    refine ⟨_, (pss_one (ps_ret (pe_and (pe_callB call_isi rfl B.isinstance_ (by decide +kernel) (pa_cons (pv 0) (pa_cons (pe_bltn (v := .ty "tuple") (u := .type "tuple") rfl B.tuple_ (by decide +kernel) rfl) pa_nil))) (pe_one (pe_chain op_le op_le (pv 1) (pe_callB call_len_seq rfl B.len_ (by decide +kernel) (pa_cons (pv 0) pa_nil)) (pv 2)))))), ?_⟩
    refine ⟨v, rfl, v, .ty "tuple", _, .type "tuple", _, rfl, .ty "tuple", hd.ty, kit_ty (kit_tuple d), _, rfl, ?_⟩
    cases d with
    | tuple ds =>
      obtain ⟨a, xs, rfl, e, _, ha⟩ := hd.tupOf
      refine iteT ⟨.int lo, rfl, .ref a, rfl, a, xs, rfl, .inr (SqT.of e), lo, xs.length, rfl, rfl, _, rfl, ?_⟩
      have q' : Q (.bl (decide (lo ≤ (ds.length : Int)) && decide ((ds.length : Int) ≤ hi))) H := q
      rw [← ha.len] at q'
      cases e : decide (lo ≤ (xs.length : Int)) with
      | true =>
        rw [e] at q'
        exact iteT ⟨.int hi, rfl, xs.length, hi, rfl, rfl, q'⟩
      | false =>
        rw [e] at q'
        exact iteF q'
    | bool b => exact iteF q
    | none => exact iteF q
    | str x => exact iteF q
    | list ds => exact iteF q
    | int i => exact iteF q
    | dict ds => exact iteF q
theorem parts_tup {d : PyData} {lo hi : Int} (h : partsB d lo hi = true) : ∃ ds, d = .tuple ds ∧ lo ≤ (ds.length : Int) ∧ (ds.length : Int) ≤ hi := by
  cases d with
  | tuple ds =>
    have h' : (decide (lo ≤ (ds.length : Int)) && decide ((ds.length : Int) ≤ hi)) = true := h
    simp only [Bool.and_eq_true, decide_eq_true_eq] at h'
    exact ⟨ds, rfl, h'.1, h'.2⟩
  | bool b => cases h
  | none => cases h
  | str x => cases h
  | list ds => cases h
  | int i => cases h
  | dict ds => cases h
/-! ### is_step, is_wheel, is_board -/
def spEnds (p : PyData → Int → Bool) : Sp := fun vs H Q _ => ∃ (N : Addr → Prop) (v : V) (d : PyData) (ends : Int), vs = [v, .int ends] ∧ Da N H v d ∧ ∀ H', Same H H' → Q (.bl (p d ends)) H'
theorem ok_is_step {t3 : Tok} (D : Def K mg "is_step" s_is_step ["thing", "ends"]) (B : Bi mg) (g_MOST_ENDS : mg "MOST_ENDS" = some (.int 3 t3)) (c_is_within : Cal P w K mg base k "is_within" ["thing", "least", "most"] spWithin)
    (c_has_parts : Cal P w K mg base k "has_parts" ["thing", "least", "most"] spParts) : Cal P w K mg base (k + 1) "is_step" ["thing", "ends"] (spEnds stepB) := by
  refine D.ok sc_is_step (fun vs H Q E h => ?_) (fun f cdv A outer s H vs Q E hr h => ?_)
  · obtain ⟨N, v, d, ends, rfl, _⟩ := h
    rfl
  · obtain ⟨N, v, d, ends, rfl, hd, q⟩ := h
    refine ⟨_, (pss_one (ps_ret (pe_and (pe_cal c_has_parts hr rfl (pa_cons (pv 0) (pa_cons pe_int (pa_cons (pe_gint rfl g_MOST_ENDS) pa_nil)))) (pe_one (pe_callB (cr_all rfl) rfl B.all_ (by decide +kernel) (pa_cons (pe_lc (own := [("end", 2)]) rfl sc_is_step.nd (pi_tup (pv 0)) (blkOk_by (N := ["thing", "ends", "end"]) (sc := defScope s_is_step) (by decide +kernel)) (fun _ _ _ _ _ => (pg_name (i := 2) sc_is_step.nd rfl (Or.inl rfl))) (fun _ _ _ _ _ => pts_nil) (fun _ _ _ _ _ => (pe_cal c_is_within hr rfl (pa_cons (pv 2) (pa_cons pe_int (pa_cons (pe_op op_sub (pv 1) pe_int) pa_nil)))))) pa_nil)))))), ?_⟩
    refine ⟨v, rfl, N, v, d, 0, 3, rfl, hd, _, rfl, ?_⟩
    cases e : partsB d 0 3 with
    | false =>
      refine iteF ?_
      have q' := q H (Same.refl H)
      unfold stepB at q'
      rw [e] at q'
      exact q'
    | true =>
      obtain ⟨ds, rfl, _, h3⟩ := parts_tup e
      obtain ⟨a, xs, rfl, ea, _, ha⟩ := hd.tupOf
      refine iteT (read_all (N := N) (ds := ds) (fun e => withinB e 0 (ends - 1)) rfl ea ha (by omega) (fun x d H' s' hx Q' q' => ?_) fun H' s' => ?_)
      · exact ⟨x, rfl, .int ends, rfl, ends, 1, rfl, rfl, N, x, d, 0, ends - 1, rfl, hx, q' H' (Same.refl H')⟩
      · have q' := q H' s'
        unfold stepB at q'
        rw [e] at q'
        exact q'
theorem ok_is_wheel {t4 : Tok} (D : Def K mg "is_wheel" s_is_wheel ["thing", "ends"]) (B : Bi mg) (g_MOST_STEPS : mg "MOST_STEPS" = some (.int 4 t4)) (c_is_step : Cal P w K mg base k "is_step" ["thing", "ends"] (spEnds stepB))
    (c_has_parts : Cal P w K mg base k "has_parts" ["thing", "least", "most"] spParts) : Cal P w K mg base (k + 1) "is_wheel" ["thing", "ends"] (spEnds wheelB) := by
  refine D.ok sc_is_wheel (fun vs H Q E h => ?_) (fun f cdv A outer s H vs Q E hr h => ?_)
  · obtain ⟨N, v, d, ends, rfl, _⟩ := h
    rfl
  · obtain ⟨N, v, d, ends, rfl, hd, q⟩ := h
    refine ⟨_, (pss_one (ps_ret (pe_and (pe_cal c_has_parts hr rfl (pa_cons (pv 0) (pa_cons pe_int (pa_cons (pe_gint rfl g_MOST_STEPS) pa_nil)))) (pe_one (pe_callB (cr_all rfl) rfl B.all_ (by decide +kernel) (pa_cons (pe_lc (own := [("step", 2)]) rfl sc_is_wheel.nd (pi_tup (pv 0)) (blkOk_by (N := ["thing", "ends", "step"]) (sc := defScope s_is_wheel) (by decide +kernel)) (fun _ _ _ _ _ => (pg_name (i := 2) sc_is_wheel.nd rfl (Or.inl rfl))) (fun _ _ _ _ _ => pts_nil) (fun _ _ _ _ _ => (pe_cal c_is_step hr rfl (pa_cons (pv 2) (pa_cons (pv 1) pa_nil))))) pa_nil)))))), ?_⟩
    refine ⟨v, rfl, N, v, d, 1, 4, rfl, hd, _, rfl, ?_⟩
    cases e : partsB d 1 4 with
    | false =>
      refine iteF ?_
      have q' := q H (Same.refl H)
      unfold wheelB at q'
      rw [e] at q'
      exact q'
    | true =>
      obtain ⟨ds, rfl, _, h3⟩ := parts_tup e
      obtain ⟨a, xs, rfl, ea, _, ha⟩ := hd.tupOf
      refine iteT (read_all (N := N) (ds := ds) (fun e => stepB e ends) rfl ea ha (by omega) (fun x d H' s' hx Q' q' => ?_) fun H' s' => ?_)
      · exact ⟨x, rfl, .int ends, rfl, N, x, d, ends, rfl, hx, q'⟩
      · have q' := q H' s'
        unfold wheelB at q'
        rw [e] at q'
        exact q'
def spThing (p : PyData → Bool) : Sp := fun vs H Q _ => ∃ (N : Addr → Prop) (v : V) (d : PyData), vs = [v] ∧ Da N H v d ∧ ∀ H', Same H H' → Q (.bl (p d)) H'
theorem boardB_no {d : PyData} (h : partsB d 2 2 = false) : boardB d = false := by
  unfold boardB
  split
  · cases h
  · rfl
theorem boardB_two {w c : PyData} : boardB (.tuple [w, c]) = (partsB w 1 6 && withinB c 0 4 && (itemsD w).all fun e => wheelB e (((itemsD w).length : Int) + (match c with | .int i => i | _ => 0))) := by
  cases c with
  | int i => rfl
  | bool b => simp [boardB, withinB]
  | none => simp [boardB, withinB]
  | str x => simp [boardB, withinB]
  | list ds => simp [boardB, withinB]
  | tuple ds => simp [boardB, withinB]
  | dict ds => simp [boardB, withinB]
theorem within_int {d : PyData} {lo hi : Int} (h : withinB d lo hi = true) : ∃ i, d = .int i ∧ lo ≤ i ∧ i ≤ hi := by
  cases d with
  | int i =>
    have h' : (decide (lo ≤ i) && decide (i ≤ hi)) = true := h
    simp only [Bool.and_eq_true, decide_eq_true_eq] at h'
    exact ⟨i, rfl, h'.1, h'.2⟩
  | bool b => cases h
  | none => cases h
  | str x => cases h
  | list ds => cases h
  | tuple i => cases h
  | dict ds => cases h
theorem ok_is_board {t6 t4 : Tok} (D : Def K mg "is_board" s_is_board ["thing"]) (B : Bi mg) (g_MOST_WHEELS : mg "MOST_WHEELS" = some (.int 6 t6)) (g_MOST_CUPS : mg "MOST_CUPS" = some (.int 4 t4)) (c_is_wheel : Cal P w K mg base k "is_wheel" ["thing", "ends"] (spEnds wheelB))
    (c_is_within : Cal P w K mg base k "is_within" ["thing", "least", "most"] spWithin) (c_has_parts : Cal P w K mg base k "has_parts" ["thing", "least", "most"] spParts) : Cal P w K mg base (k + 1) "is_board" ["thing"] (spThing boardB) := by
  refine D.ok sc_is_board (fun vs H Q E h => ?_) (fun f cdv A outer s H vs Q E hr h => ?_)
  · obtain ⟨N, v, d, rfl, _⟩ := h
    rfl
  · obtain ⟨N, v, d, rfl, hd, q⟩ := h
    refine ⟨_, (pss_cons (ps_if (pt_not (pt_val (pe_cal c_has_parts hr rfl (pa_cons (pv 0) (pa_cons pe_int (pa_cons pe_int pa_nil))))))
  (pss_one (ps_ret pe_bl))
  pss_nil)
  (pss_cons (ps_asg (pv 0) (pg_tup rfl (pgs_cons (pg_name (i := 1) sc_is_board.nd rfl (Or.inl rfl)) (pgs_cons (pg_name (i := 2) sc_is_board.nd rfl (Or.inl rfl)) pgs_nil))))
  (pss_cons (ps_if (PW.pt (pw_or (pt_not (pt_val (pe_cal c_has_parts hr rfl (pa_cons (pv 1) (pa_cons pe_int (pa_cons (pe_gint rfl g_MOST_WHEELS) pa_nil)))))) (pw_or1 (pt_not (pt_val (pe_cal c_is_within hr rfl (pa_cons (pv 2) (pa_cons pe_int (pa_cons (pe_gint rfl g_MOST_CUPS) pa_nil)))))))))
  (pss_one (ps_ret pe_bl))
  pss_nil)
  (pss_cons (ps_set (i := 3) sc_is_board.nd rfl (Or.inr rfl) (pe_op op_add (pe_callB call_len_seq rfl B.len_ (by decide +kernel) (pa_cons (pv 1) pa_nil)) (pv 2)))
  (pss_one (ps_ret (pe_callB (cr_all rfl) rfl B.all_ (by decide +kernel) (pa_cons (pe_lc (own := [("wheel", 4)]) rfl sc_is_board.nd (pi_tup (pv 1)) (blkOk_by (N := ["thing", "wheels", "cups", "ends", "wheel"]) (sc := defScope s_is_board) (by decide +kernel)) (fun _ _ _ _ _ => (pg_name (i := 4) sc_is_board.nd rfl (Or.inl rfl))) (fun _ _ _ _ _ => pts_nil) (fun _ _ _ _ _ => (pe_cal c_is_wheel hr rfl (pa_cons (pv 4) (pa_cons (pv 3) pa_nil))))) pa_nil)))))))), ?_⟩
    refine ⟨v, rfl, N, v, d, 2, 2, rfl, hd, _, rfl, ?_⟩
    cases e : partsB d 2 2 with
    | false =>
      refine iteT ?_
      have q' := q H (Same.refl H)
      rw [boardB_no e] at q'
      exact q'
    | true =>
      refine iteF ?_
      obtain ⟨ds, rfl, h2, h3⟩ := parts_tup e
      obtain ⟨a, xs, rfl, ea, _, ha⟩ := hd.tupOf
      obtain ⟨dw, dc, rfl⟩ : ∃ dw dc, ds = [dw, dc] := by
        match ds, h2, h3 with
        | [x, y], _, _ => exact ⟨x, y, rfl⟩
        | [], h, _ => simp at h
        | [x], h, _ => simp at h
        | x :: y :: z :: r, _, h => simp at h; omega
      cases ha with
      | @cons vw vs1 _ _ hw hr1 =>
      cases hr1 with
      | @cons vc vs2 _ _ hc hr2 =>
      cases hr2
      -- wheels, cups = thing
      refine ⟨.ref a, rfl, a, [vw, vc], rfl, SqT.of ea, rfl, vw, [vc], rfl, vc, [], rfl, rfl, ?_⟩
      -- the test
      refine ⟨vw, rfl, N, vw, dw, 1, 6, rfl, hw, _, rfl, ?_⟩
      rw [boardB_two] at q
      cases e1 : partsB dw 1 6 with
      | false =>
        rw [e1] at q
        exact iteT (iteT (q H (Same.refl H)))
      | true =>
        refine iteF ⟨vc, rfl, N, vc, dc, 0, 4, rfl, hc, _, rfl, ?_⟩
        rw [e1] at q
        cases e2 : withinB dc 0 4 with
        | false =>
          rw [e2] at q
          exact iteT (q H (Same.refl H))
        | true =>
          rw [e2] at q
          refine iteF ?_
          obtain ⟨c, rfl, c0, c4⟩ := within_int e2
          obtain ⟨ws, rfl, w1, w6⟩ := parts_tup e1
          obtain ⟨b, ys, rfl, eb, _, hb⟩ := hw.tupOf
          cases hc
          -- ends = len(wheels) + cups
          refine ⟨.ref b, rfl, b, ys, rfl, .inr (SqT.of eb), .int c, rfl, ys.length, c, rfl, rfl, ?_⟩
          refine read_all (N := N) (ds := ws) (fun e => wheelB e ((ys.length : Int) + c)) rfl eb hb (by omega) (fun x d H' s' hx Q' q' => ?_) fun H' s' => ?_
          · exact ⟨x, rfl, .int ((ys.length : Int) + c), rfl, N, x, d, (ys.length : Int) + c, rfl, hx, q'⟩
          · rw [hb.len]
            exact q H' s'
end
end K04

set_option maxRecDepth 100000
set_option maxHeartbeats 4000000
namespace K04
open PySem PySem.Spec PyProof.Rows L2 HX
abbrev s__law_cell_at : Stmt := topS 52
theorem sc__law_cell_at : FnScope ["_law_script", "_law_k"] ["_law_script", "_law_k"] (defScope s__law_cell_at) := ⟨rfl, rfl, rfl, by decide +kernel, rfl, by decide +kernel, by decide +kernel⟩
abbrev s__law_pen : Stmt := topS 53
theorem sc__law_pen : FnScope ["_law_cell"] ["_law_cell"] (defScope s__law_pen) := ⟨rfl, rfl, rfl, by decide +kernel, rfl, by decide +kernel, by decide +kernel⟩
abbrev s__law_draw : Stmt := topS 54
theorem sc__law_draw : FnScope ["_law_pen_here", "_law_many", "_law_digit", "_law_stir"] ["_law_pen_here", "_law_many"] (defScope s__law_draw) := ⟨rfl, rfl, rfl, by decide +kernel, rfl, by decide +kernel, by decide +kernel⟩
/-- the pen: what is left of the cell's digits, its rest, how often it was stirred; m draws are left -/
def PenAt (H : Hp) (pn : Addr) (m : Nat) : Prop := ∃ p0 p1 p2 : Int, H pn = some (.lst [.int p0, .int p1, .int p2]) ∧ 0 ≤ p0 ∧ 0 ≤ p1 ∧ p1 < 1000000007 ∧ 0 ≤ p2 ∧ p2 + (m : Int) ≤ 1000000000
theorem PenAt.less {H : Hp} {pn : Addr} {m n : Nat} (h : PenAt H pn m) (hn : n ≤ m) : PenAt H pn n := by
  obtain ⟨p0, p1, p2, e, h0, h1, h2, h3, h4⟩ := h
  exact ⟨p0, p1, p2, e, h0, h1, h2, h3, by omega⟩
section
variable {P : Program} {w : World} {K : PySem.W.Frag} {mg : Str → Option Value} {base : Heap} {k : Nat}
/-! ### the script's cell, the pen -/
def spCell (K : PySem.W.Frag) : Sp := fun vs H Q _ => ∃ (a : Addr) (ns : List Int) (i : Nat), vs = [.ref a, .int i] ∧ SqL K H a (ns.map V.int) ∧ ∀ c, Q (.int c) H
theorem ok_cell_at (D : Def K mg "_law_cell_at" s__law_cell_at ["_law_script", "_law_k"]) (B : Bi mg) : Cal P w K mg base (k + 1) "_law_cell_at" ["_law_script", "_law_k"] (spCell K) := by
  refine D.ok sc__law_cell_at (fun vs H Q E h => ?_) (fun f cdv A outer s H vs Q E hr h => ?_)
  · obtain ⟨a, ns, i, rfl, _⟩ := h
    rfl
  · obtain ⟨a, ns, i, rfl, hS, q⟩ := h
    refine ⟨_, (pss_cons (ps_if (pt_cmpR op_lt (pv 1) (pe_callB call_len_seq rfl B.len_ (by decide +kernel) (pa_cons (pv 0) pa_nil)) (nomark _))
  (pss_one (ps_ret (pe_ix ix_list (pv 0) (pv 1) (fun _ _ => rfl))))
  pss_nil)
  (pss_one (ps_ret pe_int))), ?_⟩
    refine ⟨.int i, rfl, .ref a, rfl, a, ns.map V.int, rfl, .inl hS, i, _, rfl, rfl, _, rfl, ite2 (fun e => ?_) (fun e => ?_)⟩
    · have hl : i < ns.length := by
        have e' := of_decide_eq_true e
        rw [List.length_map] at e'
        omega
      refine ⟨.ref a, rfl, .int i, rfl, a, _, i, .int ns[i], rfl, rfl, hS, atI_nat ?_, q _⟩
      rw [List.getElem?_map, List.getElem?_eq_getElem hl]
      rfl
    · exact q 0
def spPen : Sp := fun vs H Q _ => ∃ c : Int, vs = [.int c] ∧ ∀ pn H', H pn = none → Same H H' → PenAt H' pn 1000000000 → Q (.ref pn) H'
theorem ok_pen (D : Def K mg "_law_pen" s__law_pen ["_law_cell"]) (B : Bi mg) : Cal P w K mg base (k + 1) "_law_pen" ["_law_cell"] spPen := by
  refine D.ok sc__law_pen (fun vs H Q E h => ?_) (fun f cdv A outer s H vs Q E hr h => ?_)
  · obtain ⟨c, rfl, _⟩ := h
    rfl
  · obtain ⟨c, rfl, q⟩ := h
    refine ⟨_, (pss_one (ps_ret (pe_lst (pa_cons (pe_callB (call_max2 rfl) rfl B.max_ (by decide +kernel) (pa_cons pe_int (pa_cons (pe_op op_sub (pv 0) (pe_op op_pow pe_int pe_int)) pa_nil))) (pa_cons (pe_op op_mod (pv 0) pe_int) (pa_cons pe_int pa_nil)))))), ?_⟩
    refine ⟨.int c, rfl, 10, 18, rfl, rfl, ⟨by decide, by decide, by decide⟩, c, _, rfl, rfl, 0, _, rfl, .int c, rfl, c, 1000000007, rfl, rfl, (by show (0 : Int) < 1000000007; decide), (by show 3 ≤ sizeLine; decide), fun p hp => ?_⟩
    refine q p _ hp (Same.new hp) ⟨_, _, 0, upd_same, ?_, ?_, ?_, by decide, by decide⟩
    · split <;> omega
    · exact Int.emod_nonneg _ (by decide)
    · exact Int.emod_lt_of_pos _ (by decide)
/-! ### a draw -/
def spDraw : Sp := fun vs H Q _ => ∃ (pn : Addr) (many : Int) (m : Nat), vs = [.ref pn, .int many] ∧ 0 < many ∧ many ≤ 1000000 ∧ PenAt H pn (m + 1) ∧
  ∀ (r : Int) (H' : Hp), 0 ≤ r → r < many → Kp (· = pn) H H' → PenAt H' pn m → Q (.int r) H'
theorem mulW_small {i j : Int} (hi : i.natAbs < 2 ^ 100) (hj : j.natAbs < 2 ^ 100) : CMulW i j := wide_mul hi hj (by decide) (by decide) (by decide)
theorem divW_small {i j : Int} (h0 : 0 < j) (hj : j ≤ 1000000) : CDivW i j := wide_div (b := 100) h0 (by omega) (by decide) (by decide)
theorem ok_draw (D : Def K mg "_law_draw" s__law_draw ["_law_pen_here", "_law_many"]) (B : Bi mg) : Cal P w K mg base (k + 1) "_law_draw" ["_law_pen_here", "_law_many"] spDraw := by
  refine D.ok sc__law_draw (fun vs H Q E h => ?_) (fun f cdv A outer s H vs Q E hr h => ?_)
  · obtain ⟨pn, many, m, rfl, _⟩ := h
    rfl
  · obtain ⟨pn, many, m, rfl, h0, h1, ⟨p0, p1, p2, e, hp0, hp1, hp1', hp2, hm⟩, q⟩ := h
    refine ⟨_, (pss_cons (ps_if (pt_cmpR op_gt (pe_ix ix_list (pv 0) pe_int (fun _ _ => rfl)) pe_int (nomark _))
  (pss_cons (ps_set (i := 2) sc__law_draw.nd rfl (Or.inl rfl) (pe_op op_mod (pe_ix ix_list (pv 0) pe_int (fun _ _ => rfl)) (pv 1)))
  (pss_cons (ps_asg (pe_op op_fdivW (pe_ix ix_list (pv 0) pe_int (fun _ _ => rfl)) (pv 1)) (pg_sub (pv 0) pe_int set_list))
  (pss_one (ps_ret (pv 2)))))
  pss_nil)
  (pss_cons (ps_asg (pe_op op_add (pe_ix ix_list (pv 0) pe_int (fun _ _ => rfl)) pe_int) (pg_sub (pv 0) pe_int set_list))
  (pss_cons (ps_set (i := 3) sc__law_draw.nd rfl (Or.inl rfl) (pe_op op_mod (pe_op op_mulW (pe_op op_add (pe_ix ix_list (pv 0) pe_int (fun _ _ => rfl)) (pe_op op_mulW pe_int (pe_ix ix_list (pv 0) pe_int (fun _ _ => rfl)))) (pe_op op_add pe_int (pe_op op_mulW pe_int (pe_ix ix_list (pv 0) pe_int (fun _ _ => rfl))))) pe_int))
  (pss_cons (ps_set (i := 3) sc__law_draw.nd rfl (Or.inl rfl) (pe_op op_mod (pe_op op_add (pe_op op_add (pe_op op_mulW (pv 3) (pv 3)) (pe_op op_mulW pe_int (pe_ix ix_list (pv 0) pe_int (fun _ _ => rfl)))) pe_int) pe_int))
  (pss_one (ps_ret (pe_op op_mod (pe_op op_fdivW (pe_op op_mod (pe_op op_mulW (pv 3) pe_int) pe_int) pe_int) (pv 1)))))))), ?_⟩
    refine ⟨.ref pn, rfl, pn, _, 0, _, rfl, rfl, SqL.of e, atI_nat (j := 0) rfl, p0, 0, rfl, rfl, _, rfl, ite2 (fun g => ?_) (fun g => ?_)⟩
    · have g' : 0 < p0 := of_decide_eq_true g
      refine ⟨.ref pn, rfl, pn, _, 0, _, rfl, rfl, SqL.of e, atI_nat (j := 0) rfl, .int many, rfl, p0, many, rfl, rfl, h0, ?_⟩
      refine ⟨.ref pn, rfl, pn, _, 0, _, rfl, rfl, SqL.of e, atI_nat (j := 0) rfl, .int many, rfl, p0, many, rfl, rfl, divW_small h0 h1, .ref pn, rfl, pn, _, 0, 0, rfl, rfl, e, rfl, ?_⟩
      refine ⟨.int (p0 % many), rfl, q _ _ (Int.emod_nonneg _ (by omega)) (Int.emod_lt_of_pos _ h0) (Kp.put rfl) ?_⟩
      exact ⟨_, p1, p2, upd_same, Int.ediv_nonneg hp0 (by omega), hp1, hp1', hp2, by omega⟩
    · refine ⟨.ref pn, rfl, pn, _, 2, _, rfl, rfl, SqL.of e, atI_nat (j := 2) rfl, p2, 1, rfl, rfl, .ref pn, rfl, pn, _, 2, 2, rfl, rfl, e, rfl, ?_⟩
      have e' : upd H pn (.lst ([V.int p0, .int p1, .int p2].set 2 (.int (p2 + 1)))) pn = some (.lst [V.int p0, .int p1, .int (p2 + 1)]) := upd_same
      generalize hH : upd H pn (.lst ([V.int p0, .int p1, .int p2].set 2 (.int (p2 + 1)))) = H1 at e'
      have k1 : Kp (· = pn) H H1 := by
        rw [← hH]
        exact Kp.put rfl
      refine ⟨.ref pn, rfl, pn, _, 1, _, rfl, rfl, SqL.of e', atI_nat (j := 1) rfl, .ref pn, rfl, pn, _, 2, _, rfl, rfl, SqL.of e', atI_nat (j := 2) rfl, 17, p2 + 1, rfl, rfl, mulW_small (by decide) (by omega), p1, _, rfl, rfl,
        .ref pn, rfl, pn, _, 2, _, rfl, rfl, SqL.of e', atI_nat (j := 2) rfl, 2, p2 + 1, rfl, rfl, mulW_small (by decide) (by omega), 69621, _, rfl, rfl, _, _, rfl, rfl, mulW_small (by omega) (by omega), _, 2147483647, rfl, rfl, (by show (0 : Int) < 2147483647; decide), ?_⟩
      show tSeq _ _ _ (List.set _ 3 (some (V.int ((p1 + 17 * (p2 + 1)) * (69621 + 2 * (p2 + 1)) % 2147483647)))) H1
      generalize hz : (p1 + 17 * (p2 + 1)) * (69621 + 2 * (p2 + 1)) % 2147483647 = z
      have z0 : 0 ≤ z := by
        rw [← hz]
        exact Int.emod_nonneg _ (by decide)
      have z1 : z < 2147483647 := by
        rw [← hz]
        exact Int.emod_lt_of_pos _ (by decide)
      have zz : z * z ≤ 2147483647 * 2147483647 := Int.mul_le_mul (by omega) (by omega) z0 (by decide)
      have zz0 : 0 ≤ z * z := Int.mul_nonneg z0 z0
      refine ⟨.int z, rfl, .int z, rfl, z, z, rfl, rfl, mulW_small (by omega) (by omega), .ref pn, rfl, pn, _, 2, _, rfl, rfl, SqL.of e', atI_nat (j := 2) rfl, 40503, p2 + 1, rfl, rfl, mulW_small (by decide) (by omega), _, _, rfl, rfl, _, 5, rfl, rfl, _, 2147483629, rfl, rfl, (by show (0 : Int) < 2147483629; decide), ?_⟩
      show gName 3 (V.int ((z * z + 40503 * (p2 + 1) + 5) % 2147483629)) _ H1 _
      generalize hy : (z * z + 40503 * (p2 + 1) + 5) % 2147483629 = y
      have y0 : 0 ≤ y := by
        rw [← hy]
        exact Int.emod_nonneg _ (by decide)
      have y1 : y < 2147483629 := by
        rw [← hy]
        exact Int.emod_lt_of_pos _ (by decide)
      refine ⟨.int y, rfl, y, 48271, rfl, rfl, mulW_small (by omega) (by decide), _, 2147483647, rfl, rfl, (by show (0 : Int) < 2147483647; decide), _, 32, rfl, rfl, divW_small (by decide) (by decide), .int many, rfl, _, many, rfl, rfl, h0, ?_⟩
      refine q _ _ (Int.emod_nonneg _ (by omega)) (Int.emod_lt_of_pos _ h0) k1 ?_
      exact ⟨p0, p1, p2 + 1, e', hp0, hp1, hp1', by omega, by omega⟩
end
end K04

set_option maxRecDepth 100000
set_option maxHeartbeats 4000000
namespace K04
open PySem PySem.Spec PyProof.Rows L2 HX
abbrev s__law_board : Stmt := topS 58
theorem sc__law_board : FnScope ["_law_pen_here", "_law_most", "_law_many", "_law_cups", "_law_wheels", "_law_wheel", "_law_steps", "_law_turn", "_law_ends", "_law_lap", "_law_far"] ["_law_pen_here", "_law_most"] (defScope s__law_board) := ⟨rfl, rfl, rfl, by decide +kernel, rfl, by decide +kernel, by decide +kernel⟩
theorem PenAt.list {H : Hp} {pn : Addr} {m : Nat} (h : PenAt H pn m) : ∃ xs, H pn = some (.lst xs) := by
  obtain ⟨p0, p1, p2, e, _⟩ := h
  exact ⟨_, e⟩
theorem PenAt.new {H : Hp} {pn p : Addr} {m : Nat} {o : HO} (h : PenAt H pn m) (hp : H p = none) : PenAt (upd H p o) pn m := by
  obtain ⟨p0, p1, p2, e, r⟩ := h
  exact ⟨p0, p1, p2, by rw [upd_ne (ne_of_none e hp)]; exact e, r⟩
theorem PenAt.ne {H : Hp} {pn p : Addr} {m : Nat} (h : PenAt H pn m) (hp : H p = none) : p ≠ pn := by
  obtain ⟨xs, e⟩ := h.list
  exact (ne_of_none e hp).symm
theorem PenAt.put {H : Hp} {pn p : Addr} {m : Nat} {o : HO} (h : PenAt H pn m) (hp : p ≠ pn) : PenAt (upd H p o) pn m := by
  obtain ⟨p0, p1, p2, e, r⟩ := h
  exact ⟨p0, p1, p2, by rw [upd_ne hp.symm]; exact e, r⟩
theorem PenAt.kt {H H' : Hp} {pn : Addr} {m : Nat} (h : PenAt H pn m) (k : Kp (· = pn) H H') : KT H H' := by
  obtain ⟨xs, e⟩ := h.list
  exact KT.kp e k
theorem PenAt.same {H H' : Hp} {pn : Addr} {m : Nat} (h : PenAt H pn m) (s : Same H H') : PenAt H' pn m := by
  obtain ⟨p0, p1, p2, e, r⟩ := h
  exact ⟨p0, p1, p2, s _ _ e, r⟩
theorem PenAt.netup {H : Hp} {pn p : Addr} {m : Nat} {xs : List V} (h : PenAt H pn m) (e : H p = some (.tup xs)) : ¬ (p = pn) := by
  obtain ⟨ys, e'⟩ := h.list
  exact ne_of e e' (fun z => by cases z)
section
variable {P : Program} {w : World} {K : PySem.W.Frag} {mg : Str → Option Value} {base : Heap} {k : Nat}
/-! ### a board is drawn -/
def spBoard : Sp := fun vs H Q _ => ∃ (pn : Addr) (most : Int) (m : Nat), vs = [.ref pn, .int most] ∧ 1 ≤ most ∧ most ≤ 6 ∧ PenAt H pn (m + 200) ∧
  ∀ (v : V) (ws : List (List (List Int))) (c : Int) (H' : Hp), BoardOk ws c → (ws.length : Int) ≤ most → c ≤ 3 → Td H' v (boardD ws c) → Kp (· = pn) H H' → PenAt H' pn m → Q v H'
theorem ok_board (D : Def K mg "_law_board" s__law_board ["_law_pen_here", "_law_most"]) (B : Bi mg) (c__law_draw : Cal P w K mg base k "_law_draw" ["_law_pen_here", "_law_many"] spDraw) : Cal P w K mg base (k + 1) "_law_board" ["_law_pen_here", "_law_most"] spBoard := by
  refine D.ok sc__law_board (fun vs H Q E h => ?_) (fun f cdv A outer s H vs Q E hr h => ?_)
  · obtain ⟨pn, most, m, rfl, _⟩ := h
    rfl
  · obtain ⟨pn, most, m, rfl, h1, h6, pen, q⟩ := h
    refine ⟨_, (pss_cons (ps_par (i := 2) (j := 3) (by rfl) sc__law_board.nd rfl rfl (by decide) rfl rfl (pa_cons (pe_op op_add pe_int (pe_cal c__law_draw hr rfl (pa_cons (pv 0) (pa_cons (pv 1) pa_nil)))) (pa_cons (pe_cal c__law_draw hr rfl (pa_cons (pv 0) (pa_cons pe_int pa_nil))) pa_nil)) (by rfl))
  (pss_cons (ps_set (i := 4) sc__law_board.nd rfl (Or.inl rfl) (pe_lst pa_nil))
  (pss_cons (ps_for PassesOwn.never rfl (pi_range1 rfl B.range_ (pa_cons (pv 2) pa_nil)) (pg_name (i := 5) sc__law_board.nd rfl (Or.inl rfl))
  (pss_cons (ps_set (i := 6) sc__law_board.nd rfl (Or.inl rfl) (pe_lst pa_nil))
  (pss_cons (ps_for PassesOwn.never rfl (pi_range1 rfl B.range_ (pa_cons (pe_op op_add pe_int (pe_cal c__law_draw hr rfl (pa_cons (pv 0) (pa_cons pe_int pa_nil)))) pa_nil)) (pg_name (i := 7) sc__law_board.nd rfl (Or.inl rfl))
  (pss_cons (ps_set (i := 8) sc__law_board.nd rfl (Or.inl rfl) (pe_lst pa_nil))
  (pss_cons (ps_for PassesOwn.never rfl (pi_range1 rfl B.range_ (pa_cons (pe_ix ix_list (pe_lst (pa_cons pe_int (pa_cons pe_int (pa_cons pe_int (pa_cons pe_int (pa_cons pe_int pa_nil)))))) (pe_cal c__law_draw hr rfl (pa_cons (pv 0) (pa_cons pe_int pa_nil))) (fun _ _ => rfl)) pa_nil)) (pg_name (i := 9) sc__law_board.nd rfl (Or.inl rfl))
  (pss_cons (ps_set (i := 10) sc__law_board.nd rfl (Or.inl rfl) (pe_ifExp (pt_cmpR op_gt (pe_cal c__law_draw hr rfl (pa_cons (pv 0) (pa_cons pe_int pa_nil))) pe_int (nomark _)) (pe_op op_add (pe_op op_add (pv 5) pe_int) (pe_cal c__law_draw hr rfl (pa_cons (pv 0) (pa_cons pe_int pa_nil)))) (pe_cal c__law_draw hr rfl (pa_cons (pv 0) (pa_cons (pe_op op_add (pv 2) (pv 3)) pa_nil)))))
  (pss_one (ps_expr (pe_bm PySem.F.plainAttrs_list PySem.F.slot_list_append PySem.F.type_list_append mt_append (pv 8) (pa_cons (pe_callB (call_min2 rfl) rfl B.min_ (by decide +kernel) (pa_cons (pv 10) (pa_cons (pe_callB (call_max2 rfl) rfl B.max_ (by decide +kernel) (pa_cons pe_int (pa_cons (pe_op op_sub (pe_op op_add (pv 2) (pv 3)) pe_int) pa_nil))) pa_nil))) pa_nil))))))
  (pss_one (ps_expr (pe_bm PySem.F.plainAttrs_list PySem.F.slot_list_append PySem.F.type_list_append mt_append (pv 6) (pa_cons (pe_callTy call_tuple_of rfl B.tuple_ (by decide +kernel) (pa_cons (pv 8) pa_nil)) pa_nil)))))))
  (pss_one (ps_expr (pe_bm PySem.F.plainAttrs_list PySem.F.slot_list_append PySem.F.type_list_append mt_append (pv 4) (pa_cons (pe_callTy call_tuple_of rfl B.tuple_ (by decide +kernel) (pa_cons (pv 6) pa_nil)) pa_nil)))))))
  (pss_one (ps_ret (pe_tup (pa_cons (pe_callTy call_tuple_of rfl B.tuple_ (by decide +kernel) (pa_cons (pv 4) pa_nil)) (pa_cons (pv 3) pa_nil)))))))), ?_⟩
    -- many, cups
    refine ⟨.ref pn, rfl, .int most, rfl, pn, most, m + 199, rfl, by omega, by omega, pen, fun r1 H1 r10 r11 k1 pen1 => ⟨1, r1, rfl, rfl, .ref pn, rfl, pn, 4, m + 198, rfl, by decide, by decide, pen1, fun c H2 c0 c4 k2 pen2 => ⟨_, _, rfl, ?_⟩⟩⟩
    have k02 := k1.trans k2
    -- wheels = []
    refine ⟨by show 0 ≤ sizeLine; decide, fun Lw nw => ?_⟩
    have nwp := pen2.ne nw
    have nw0 : H Lw = none ∨ Lw = pn := by
      cases e : H Lw with
      | none => exact .inl rfl
      | some o =>
        by_cases z : Lw = pn
        · exact .inr z
        · rw [k02 _ _ e z] at nw
          cases nw
    have nwH : H Lw = none := nw0.resolve_right nwp
    -- the wheels
    refine ⟨.int (1 + r1), rfl, 1 + r1, rfl, by omega, by omega, for_range (n := (1 + r1).toNat) (fun i σ H' => ∃ (xs : List V) (ws : List (List (List Int))) (y5 y6 y7 y8 y9 y10 : Option V),
      σ = [some (.ref pn), some (.int most), some (.int (1 + r1)), some (.int c), some (.ref Lw), y5, y6, y7, y8, y9, y10] ∧ Kp (· = pn) H H' ∧ PenAt H' pn (m + 29 * (6 - i)) ∧ H' Lw = some (.lst xs) ∧ TdAll H' xs (ws.map wheelD) ∧ ws.length = i ∧
      ∀ w ∈ ws, WheelOk (1 + r1 + c) w) ?_ (fun i σ H3 hi p => ?_) (fun σ H3 p => ?_)⟩
    · exact ⟨[], [], none, none, none, none, none, none, rfl, k02.mut nwH, (pen2.new nw).less (by omega), upd_same, .nil, rfl, fun w hw => nomatch hw⟩
    · obtain ⟨xs, ws, y5, y6, y7, y8, y9, y10, rfl, k3, pen3, eLw, tws, hlen, hok⟩ := p
      -- steps = []
      refine ⟨by show 0 ≤ sizeLine; decide, fun Ls ns => ?_⟩
      have nsp := pen3.ne ns
      have nsw : Ls ≠ Lw := (ne_of_none eLw ns).symm
      have pen4 := pen3.new (o := .lst []) ns
      have nsH : H Ls = none := by
        cases e : H Ls with
        | none => rfl
        | some o =>
          rw [k3 _ _ e nsp] at ns
          cases ns
      -- how many steps
      refine ⟨.ref pn, rfl, pn, 4, m + 29 * (5 - i) + 28, rfl, by decide, by decide, pen4.less (by omega), fun r2 H5 r20 r21 k5 pen5 => ?_⟩
      have eLs5 : H5 Ls = some (.lst []) := k5 _ _ upd_same nsp
      have eLw5 : H5 Lw = some (.lst xs) := k5 _ _ (by rw [upd_ne nsw.symm]; exact eLw) nwp
      have tws5 : TdAll H5 xs (ws.map wheelD) := TdAll.mono ((KT.new ns).trans (pen4.kt k5)) _ _ tws
      have k05 : Kp (· = pn) H H5 := (k3.mut nsH).trans k5
      refine ⟨1, r2, rfl, rfl, 1 + r2, rfl, by omega, by omega, for_range (n := (1 + r2).toNat) (fun j σ H' => ∃ (zs : List V) (ss : List (List Int)) (y7 y8 y9 y10 : Option V),
        σ = [some (.ref pn), some (.int most), some (.int (1 + r1)), some (.int c), some (.ref Lw), some (.int (0 + (i : Int))), some (.ref Ls), y7, y8, y9, y10] ∧ Kp (· = pn) H H' ∧ PenAt H' pn (m + 29 * (5 - i) + 7 * (4 - j)) ∧ H' Lw = some (.lst xs) ∧ TdAll H' xs (ws.map wheelD) ∧
        H' Ls = some (.lst zs) ∧ TdAll H' zs (ss.map stepD) ∧ ss.length = j ∧ ∀ s ∈ ss, EndsOk (1 + r1 + c) s) ?_ (fun j σ H6 hj p => ?_) (fun σ H6 p => ?_)⟩
      · exact ⟨[], [], y7, y8, y9, y10, rfl, k05, pen5.less (by omega), eLw5, tws5, eLs5, .nil, rfl, fun s hs => nomatch hs⟩
      · obtain ⟨zs, ss, y7, y8, y9, y10, rfl, k6, pen6, eLw6, tws6, eLs6, tss6, slen, sok⟩ := p
        -- ends = []
        refine ⟨by show 0 ≤ sizeLine; decide, fun Le ne => ?_⟩
        have nep := pen6.ne ne
        have newL : Le ≠ Lw := (ne_of_none eLw6 ne).symm
        have nesL : Le ≠ Ls := (ne_of_none eLs6 ne).symm
        have pen7 := pen6.new (o := .lst []) ne
        have neH : H Le = none := by
          cases e : H Le with
          | none => rfl
          | some o =>
            rw [k6 _ _ e nep] at ne
            cases ne
        -- how many ends: the written list, the draw
        refine ⟨by show 5 ≤ sizeLine; decide, fun Lx nx => ?_⟩
        have nxp := pen7.ne nx
        have pen8 := pen7.new (o := .lst [V.int 0, .int 1, .int 1, .int 2, .int 3]) nx
        have nxe : Lx ≠ Le := (ne_of_none upd_same nx).symm
        have nxw : Lx ≠ Lw := fun z => by
          rw [z, upd_ne newL.symm, eLw6] at nx
          cases nx
        have nxs : Lx ≠ Ls := fun z => by
          rw [z, upd_ne nesL.symm, eLs6] at nx
          cases nx
        refine ⟨.ref pn, rfl, pn, 5, m + 29 * (5 - i) + 7 * (3 - j) + 6, rfl, by decide, by decide, pen8.less (by omega), fun r3 H9 r30 r31 k9 pen9 => ?_⟩
        have eLx9 : H9 Lx = some (.lst [V.int 0, .int 1, .int 1, .int 2, .int 3]) := k9 _ _ upd_same nxp
        have eLe9 : H9 Le = some (.lst []) := k9 _ _ (by rw [upd_ne nxe.symm]; exact upd_same) nep
        have eLw9 : H9 Lw = some (.lst xs) := k9 _ _ (by rw [upd_ne nxw.symm, upd_ne newL.symm]; exact eLw6) nwp
        have eLs9 : H9 Ls = some (.lst zs) := k9 _ _ (by rw [upd_ne nxs.symm, upd_ne nesL.symm]; exact eLs6) nsp
        have kt9 : KT H6 H9 := ((KT.new ne).trans (KT.new nx)).trans (pen8.kt k9)
        have nxH : H Lx = none := by
          cases e : H Lx with
          | none => rfl
          | some o =>
            rw [(k6.mut neH) _ _ e nxp] at nx
            cases nx
        have k09 : Kp (· = pn) H H9 := ((k6.mut neH).mut nxH).trans k9
        obtain ⟨cnt, hcnt, c30, c33⟩ : ∃ cnt : Int, atI [V.int 0, .int 1, .int 1, .int 2, .int 3] r3 = some (.int cnt) ∧ 0 ≤ cnt ∧ cnt ≤ 3 := by
          obtain ⟨n, rfl⟩ : ∃ n : Nat, r3 = (n : Int) := ⟨r3.toNat, by omega⟩
          match n, r31 with
          | 0, _ => exact ⟨0, atI_nat (j := 0) rfl, by decide, by decide⟩
          | 1, _ => exact ⟨1, atI_nat (j := 1) rfl, by decide, by decide⟩
          | 2, _ => exact ⟨1, atI_nat (j := 2) rfl, by decide, by decide⟩
          | 3, _ => exact ⟨2, atI_nat (j := 3) rfl, by decide, by decide⟩
          | 4, _ => exact ⟨3, atI_nat (j := 4) rfl, by decide, by decide⟩
          | n + 5, h => exact absurd h (by omega)
        refine ⟨Lx, _, r3, .int cnt, rfl, rfl, SqL.of eLx9, hcnt, cnt, rfl, by omega, by omega, for_range (n := cnt.toNat) (fun l σ H' => ∃ (es : List Int) (y9 y10 : Option V),
          σ = [some (.ref pn), some (.int most), some (.int (1 + r1)), some (.int c), some (.ref Lw), some (.int (0 + (i : Int))), some (.ref Ls), some (.int (0 + (j : Int))), some (.ref Le), y9, y10] ∧ Kp (· = pn) H H' ∧
          PenAt H' pn (m + 29 * (5 - i) + 7 * (3 - j) + 2 * (3 - l)) ∧ H' Lw = some (.lst xs) ∧ TdAll H' xs (ws.map wheelD) ∧ H' Ls = some (.lst zs) ∧ TdAll H' zs (ss.map stepD) ∧ H' Le = some (.lst (es.map V.int)) ∧ es.length = l ∧ ∀ e ∈ es, 0 ≤ e ∧ e < 1 + r1 + c) ?_ (fun l σ H10 hl p => ?_) (fun σ H10 p => ?_)⟩
        · exact ⟨[], y9, y10, rfl, k09, pen9.less (by omega), eLw9, TdAll.mono kt9 _ _ tws6, eLs9, TdAll.mono kt9 _ _ tss6, eLe9, rfl, fun e he => nomatch he⟩
        · obtain ⟨es, y9, y10, rfl, k10, pen10, eLw10, tws10, eLs10, tss10, eLe10, elen, eok⟩ := p
          -- far
          refine ⟨.ref pn, rfl, pn, 4, m + 29 * (5 - i) + 7 * (3 - j) + 2 * (2 - l) + 1, rfl, by decide, by decide, pen10.less (by omega), fun r4 H11 r40 r41 k11 pen11 => ?_⟩
          have fin : ∀ (far : Int) (H12 : Hp), 0 ≤ far → Kp (· = pn) H11 H12 → PenAt H12 pn (m + 29 * (5 - i) + 7 * (3 - j) + 2 * (2 - l)) →
              ∃ (es' : List Int) (y9 y10 : Option V), [some (V.ref pn), some (.int most), some (.int (1 + r1)), some (.int c), some (.ref Lw), some (.int (0 + (i : Int))), some (.ref Ls), some (.int (0 + (j : Int))), some (.ref Le), some (.int (0 + (l : Int))), some (.int far)] =
                [some (.ref pn), some (.int most), some (.int (1 + r1)), some (.int c), some (.ref Lw), some (.int (0 + (i : Int))), some (.ref Ls), some (.int (0 + (j : Int))), some (.ref Le), y9, y10] ∧
                Kp (· = pn) H (upd H12 Le (.lst (es.map V.int ++ [.int (if (if (1 + r1 + c - 1 : Int) > 0 then 1 + r1 + c - 1 else 0) < far then (if (1 + r1 + c - 1 : Int) > 0 then 1 + r1 + c - 1 else 0) else far)]))) ∧
                PenAt (upd H12 Le (.lst (es.map V.int ++ [.int (if (if (1 + r1 + c - 1 : Int) > 0 then 1 + r1 + c - 1 else 0) < far then (if (1 + r1 + c - 1 : Int) > 0 then 1 + r1 + c - 1 else 0) else far)]))) pn (m + 29 * (5 - i) + 7 * (3 - j) + 2 * (3 - (l + 1))) ∧
                upd H12 Le (.lst (es.map V.int ++ [.int (if (if (1 + r1 + c - 1 : Int) > 0 then 1 + r1 + c - 1 else 0) < far then (if (1 + r1 + c - 1 : Int) > 0 then 1 + r1 + c - 1 else 0) else far)])) Lw = some (.lst xs) ∧
                TdAll (upd H12 Le (.lst (es.map V.int ++ [.int (if (if (1 + r1 + c - 1 : Int) > 0 then 1 + r1 + c - 1 else 0) < far then (if (1 + r1 + c - 1 : Int) > 0 then 1 + r1 + c - 1 else 0) else far)]))) xs (ws.map wheelD) ∧
                upd H12 Le (.lst (es.map V.int ++ [.int (if (if (1 + r1 + c - 1 : Int) > 0 then 1 + r1 + c - 1 else 0) < far then (if (1 + r1 + c - 1 : Int) > 0 then 1 + r1 + c - 1 else 0) else far)])) Ls = some (.lst zs) ∧
                TdAll (upd H12 Le (.lst (es.map V.int ++ [.int (if (if (1 + r1 + c - 1 : Int) > 0 then 1 + r1 + c - 1 else 0) < far then (if (1 + r1 + c - 1 : Int) > 0 then 1 + r1 + c - 1 else 0) else far)]))) zs (ss.map stepD) ∧
                upd H12 Le (.lst (es.map V.int ++ [.int (if (if (1 + r1 + c - 1 : Int) > 0 then 1 + r1 + c - 1 else 0) < far then (if (1 + r1 + c - 1 : Int) > 0 then 1 + r1 + c - 1 else 0) else far)])) Le = some (.lst (es'.map V.int)) ∧ es'.length = l + 1 ∧ ∀ e ∈ es', 0 ≤ e ∧ e < 1 + r1 + c := by
            intro far H12 f0 k12 pen12
            generalize hz : (if (if (1 + r1 + c - 1 : Int) > 0 then 1 + r1 + c - 1 else 0) < far then (if (1 + r1 + c - 1 : Int) > 0 then 1 + r1 + c - 1 else 0) else far) = z
            have z0 : 0 ≤ z ∧ z < 1 + r1 + c := by
              rw [← hz]
              split <;> split <;> omega
            have k1112 := k11.trans k12
            have eLe12 := k1112 _ _ eLe10 nep
            have kt12 : KT H10 (upd H12 Le (.lst (es.map V.int ++ [.int z]))) := (pen10.kt k1112).trans (KT.put eLe12)
            refine ⟨es ++ [z], some (.int (0 + (l : Int))), some (.int far), rfl, (k10.trans k1112).mut neH, (pen12.put nep).less (by omega), ?_, TdAll.mono kt12 _ _ tws10, ?_, TdAll.mono kt12 _ _ tss10, ?_, ?_, fun e he => ?_⟩
            · rw [upd_ne newL.symm]
              exact k1112 _ _ eLw10 nwp
            · rw [upd_ne nesL.symm]
              exact k1112 _ _ eLs10 nsp
            · rw [upd_same, List.map_append]
              rfl
            · rw [List.length_append, elen]
              rfl
            · rcases List.mem_append.mp he with he | he
              · exact eok e he
              · rw [List.mem_singleton.mp he]
                exact z0
          have small : (es.map V.int).length < sizeLine := by
            rw [List.length_map]
            exact small1000 (by omega)
          refine ⟨r4, 0, rfl, rfl, _, rfl, ite2 (fun g => ?_) (fun g => ?_)⟩
          · refine ⟨.int (0 + (i : Int)), rfl, _, 1, rfl, rfl, .ref pn, rfl, pn, 3, _, rfl, by decide, by decide, pen11, fun r5 H12 r50 r51 k12 pen12 => ⟨_, r5, rfl, rfl, ?_⟩⟩
            have eLe12 := (k11.trans k12) _ _ eLe10 nep
            refine ⟨.ref Le, rfl, .inl ⟨rfl, _, SqL.of eLe12⟩, _, rfl, .int (1 + r1), rfl, .int c, rfl, _, c, rfl, rfl, _, 1, rfl, rfl, 0, _, rfl, _, _, rfl, Le, _, _, rfl, rfl, eLe12, small, ?_⟩
            exact fin _ H12 (by omega) k12 pen12
          · refine ⟨.ref pn, rfl, .int (1 + r1), rfl, .int c, rfl, _, c, rfl, rfl, pn, _, _, rfl, (by show (0 : Int) < 1 + r1 + c; omega), (by show 1 + r1 + c ≤ (1000000 : Int); omega), pen11, fun r5 H12 r50 r51 k12 pen12 => ?_⟩
            have eLe12 := (k11.trans k12) _ _ eLe10 nep
            refine ⟨.ref Le, rfl, .inl ⟨rfl, _, SqL.of eLe12⟩, _, rfl, .int (1 + r1), rfl, .int c, rfl, _, c, rfl, rfl, _, 1, rfl, rfl, 0, _, rfl, _, _, rfl, Le, _, _, rfl, rfl, eLe12, small, ?_⟩
            exact fin _ H12 r50 k12 pen12
        · -- steps.append(tuple(ends))
          obtain ⟨es, y9, y10, rfl, k10, pen10, eLw10, tws10, eLs10, tss10, eLe10, elen, eok⟩ := p
          have small : zs.length < sizeLine := by
            rw [tss6.len, List.length_map]
            exact small1000 (by omega)
          refine ⟨.ref Ls, rfl, .inl ⟨rfl, _, SqL.of eLs10⟩, .ref Le, rfl, Le, _, rfl, .inl ⟨SqL.of eLe10, fun T nT => ⟨Ls, zs, .ref T, rfl, rfl, ?_, small, ?_⟩⟩⟩
          · rw [upd_ne (ne_of_none eLs10 nT)]
            exact eLs10
          · have nTp := pen10.ne nT
            have nTs : Ls ≠ T := ne_of_none eLs10 nT
            have nTw : Lw ≠ T := ne_of_none eLw10 nT
            have nTH : H T = none := by
              cases e : H T with
              | none => rfl
              | some o =>
                rw [k10 _ _ e nTp] at nT
                cases nT
            have eLsT : (upd H10 T (.tup (es.map V.int))) Ls = some (.lst zs) := by
              rw [upd_ne nTs]
              exact eLs10
            have ktT : KT H10 (upd (upd H10 T (.tup (es.map V.int))) Ls (.lst (zs ++ [.ref T]))) := (KT.new nT).trans (KT.put eLsT)
            refine ⟨zs ++ [.ref T], ss ++ [es], some (.int (0 + (j : Int))), some (.ref Le), y9, y10, rfl, (k10.mut nTH).mut nsH, ((pen10.new nT).put nsp).less (by omega), ?_, TdAll.mono ktT _ _ tws10, upd_same, ?_, ?_, fun s hs => ?_⟩
            · rw [upd_ne nsw.symm, upd_ne nTw]
              exact eLw10
            · rw [List.map_append]
              exact (TdAll.mono ktT _ _ tss10).snoc (Td.mono (KT.put eLsT) _ _ (Td.new nT (TdAll.ints es)))
            · rw [List.length_append, slen]
              rfl
            · rcases List.mem_append.mp hs with hs | hs
              · exact sok s hs
              · rw [List.mem_singleton.mp hs]
                exact ⟨by omega, eok⟩
      · -- wheels.append(tuple(steps))
        obtain ⟨zs, ss, y7, y8, y9, y10, rfl, k6, pen6, eLw6, tws6, eLs6, tss6, slen, sok⟩ := p
        have small : xs.length < sizeLine := by
          rw [tws.len, List.length_map]
          exact small1000 (by omega)
        refine ⟨.ref Lw, rfl, .inl ⟨rfl, _, SqL.of eLw6⟩, .ref Ls, rfl, Ls, _, rfl, .inl ⟨SqL.of eLs6, fun T nT => ⟨Lw, xs, .ref T, rfl, rfl, ?_, small, ?_⟩⟩⟩
        · rw [upd_ne (ne_of_none eLw6 nT)]
          exact eLw6
        · have nTp := pen6.ne nT
          have nTw : Lw ≠ T := ne_of_none eLw6 nT
          have nTH : H T = none := by
            cases e : H T with
            | none => rfl
            | some o =>
              rw [k6 _ _ e nTp] at nT
              cases nT
          have eLwT : (upd H6 T (.tup zs)) Lw = some (.lst xs) := by
            rw [upd_ne nTw]
            exact eLw6
          have ktT : KT H6 (upd (upd H6 T (.tup zs)) Lw (.lst (xs ++ [.ref T]))) := (KT.new nT).trans (KT.put eLwT)
          refine ⟨xs ++ [.ref T], ws ++ [ss], some (.int (0 + (i : Int))), some (.ref Ls), y7, y8, y9, y10, rfl, (k6.mut nTH).mut nwH, ((pen6.new nT).put nwp).less (by omega), upd_same, ?_, ?_, fun w hw => ?_⟩
          · rw [List.map_append]
            exact (TdAll.mono ktT _ _ tws6).snoc (Td.mono (KT.put eLwT) _ _ (Td.new nT tss6))
          · rw [List.length_append, hlen]
            rfl
          · rcases List.mem_append.mp hw with hw | hw
            · exact hok w hw
            · rw [List.mem_singleton.mp hw]
              exact ⟨by omega, by omega, sok⟩
    · -- (tuple(wheels), cups)
      obtain ⟨xs, ws, y5, y6, y7, y8, y9, y10, rfl, k3, pen3, eLw, tws, hlen, hok⟩ := p
      refine ⟨.ref Lw, rfl, Lw, _, rfl, .inl ⟨SqL.of eLw, fun T nT => ⟨.int c, rfl, by show 2 ≤ sizeLine; decide, fun U nU => ?_⟩⟩⟩
      have nTp := pen3.ne nT
      have pen4 := pen3.new (o := .tup xs) nT
      have nUp := pen4.ne nU
      have nTH : H T = none := by
        cases e : H T with
        | none => rfl
        | some o =>
          rw [k3 _ _ e nTp] at nT
          cases nT
      have nUH : H U = none := by
        cases e : H U with
        | none => rfl
        | some o =>
          rw [(k3.mut nTH) _ _ e nUp] at nU
          cases nU
      have el : (ws.length : Int) = 1 + r1 := by omega
      refine q (.ref U) ws c _ ⟨by omega, by omega, c0, by omega, fun w hw => ?_⟩ (by omega) (by omega) ?_ ((k3.mut nTH).mut nUH) ((pen4.new nU).less (by omega))
      · rw [el]
        exact hok w hw
      · exact Td.new nU (.cons (Td.new nT tws) (.cons (.int c) .nil))
end
end K04

set_option maxRecDepth 100000
set_option maxHeartbeats 1000000
namespace K04
open PySem PySem.Spec PyProof.Rows L2 HX
abbrev s_need_board : Stmt := topS 34
theorem sc_need_board : FnScope ["thing"] ["thing"] (defScope s_need_board) := ⟨rfl, rfl, rfl, by decide +kernel, rfl, by decide +kernel, by decide +kernel⟩
abbrev s_is_stand : Stmt := topS 35
theorem sc_is_stand : FnScope ["board", "thing", "wheels", "step", "wheel"] ["board", "thing"] (defScope s_is_stand) := ⟨rfl, rfl, rfl, by decide +kernel, rfl, by decide +kernel, by decide +kernel⟩
abbrev s_are_marbles : Stmt := topS 36
theorem sc_are_marbles : FnScope ["thing", "places", "many"] ["thing", "places"] (defScope s_are_marbles) := ⟨rfl, rfl, rfl, by decide +kernel, rfl, by decide +kernel, by decide +kernel⟩
abbrev s_is_moment : Stmt := topS 37
theorem sc_is_moment : FnScope ["board", "thing", "wheels", "cups", "stand", "waiting", "held"] ["board", "thing"] (defScope s_is_moment) := ⟨rfl, rfl, rfl, by decide +kernel, rfl, by decide +kernel, by decide +kernel⟩
abbrev s__law_moment : Stmt := topS 59
theorem sc__law_moment : FnScope ["_law_pen_here", "_law_board_here", "_law_most", "_law_stand", "_law_waiting", "_law_wheel", "_law_cup"] ["_law_pen_here", "_law_board_here", "_law_most"] (defScope s__law_moment) := ⟨rfl, rfl, rfl, by decide +kernel, rfl, by decide +kernel, by decide +kernel⟩
/-! ### the mathematics -/
def natB : PyData → Bool
  | .int i => decide (0 ≤ i)
  | _ => false
def numsB (n : Int) (d : PyData) : Bool := partsB d n n && (itemsD d).all natB
def atB (ds : List PyData) (ws : List (List (List Int))) (m : Nat) : Bool := match ds[m]?, ws[m]? with
  | some d, some w => withinB d 0 ((w.length : Int) - 1)
  | _, _ => false
def standB (ws : List (List (List Int))) (d : PyData) : Bool := partsB d ws.length ws.length && (List.range ws.length).all (atB (itemsD d) ws)
def momentB (ws : List (List (List Int))) (c : Int) (d : PyData) : Bool := match d with
  | .tuple [s, w, h] => standB ws s && (numsB ws.length w && numsB c h)
  | _ => false
theorem boardOk_B {ws : List (List (List Int))} {c : Int} (h : BoardOk ws c) : boardB (boardD ws c) = true := by
  have h1 := h.w1
  have h6 := h.w6
  have h0 := h.c0
  have h4 := h.c4
  show (partsB (wheelsD ws) 1 6 && withinB (.int c) 0 4 && (ws.map wheelD).all fun e => wheelB e (((ws.map wheelD).length : Int) + c)) = true
  rw [List.length_map, List.all_map]
  have e1 : partsB (wheelsD ws) 1 6 = true := by
    show (decide ((1 : Int) ≤ ((ws.map wheelD).length : Int)) && decide (((ws.map wheelD).length : Int) ≤ 6)) = true
    rw [List.length_map, Bool.and_eq_true, decide_eq_true_eq, decide_eq_true_eq]
    omega
  have e2 : withinB (.int c) 0 4 = true := by
    show (decide ((0 : Int) ≤ c) && decide (c ≤ 4)) = true
    rw [Bool.and_eq_true, decide_eq_true_eq, decide_eq_true_eq]
    omega
  rw [e1, e2, Bool.true_and, Bool.true_and, List.all_eq_true]
  intro w hw
  obtain ⟨x1, x4, hs⟩ := h.wheels w hw
  show (partsB (wheelD w) 1 4 && (w.map stepD).all fun e => stepB e ((ws.length : Int) + c)) = true
  have e3 : partsB (wheelD w) 1 4 = true := by
    show (decide ((1 : Int) ≤ ((w.map stepD).length : Int)) && decide (((w.map stepD).length : Int) ≤ 4)) = true
    rw [List.length_map, Bool.and_eq_true, decide_eq_true_eq, decide_eq_true_eq]
    omega
  rw [e3, Bool.true_and, List.all_map, List.all_eq_true]
  intro s hs'
  obtain ⟨s3, se⟩ := hs s hs'
  show (partsB (stepD s) 0 3 && (s.map PyData.int).all fun e => withinB e 0 ((ws.length : Int) + c - 1)) = true
  have e4 : partsB (stepD s) 0 3 = true := by
    show (decide ((0 : Int) ≤ ((s.map PyData.int).length : Int)) && decide (((s.map PyData.int).length : Int) ≤ 3)) = true
    rw [List.length_map, Bool.and_eq_true, decide_eq_true_eq, decide_eq_true_eq]
    omega
  rw [e4, Bool.true_and, List.all_map, List.all_eq_true]
  intro e he
  obtain ⟨e0, e5⟩ := se e he
  show (decide ((0 : Int) ≤ e) && decide (e ≤ (ws.length : Int) + c - 1)) = true
  rw [Bool.and_eq_true, decide_eq_true_eq, decide_eq_true_eq]
  omega
theorem Da.boardOf {N : Addr → Prop} {H : Hp} {v : V} {ws : List (List (List Int))} {c : Int} (h : Da N H v (boardD ws c)) : ∃ ab aw ys, v = .ref ab ∧ H ab = some (.tup [.ref aw, .int c]) ∧ ¬ N ab ∧ H aw = some (.tup ys) ∧ ¬ N aw ∧ DaAll N H ys (ws.map wheelD) := by
  obtain ⟨ab, xs, rfl, eb, nb, hx⟩ := h.tupOf
  cases hx with
  | @cons vw vs1 _ _ hw hr1 =>
  cases hr1 with
  | @cons vc vs2 _ _ hc hr2 =>
  cases hr2
  obtain rfl := hc.intOf
  obtain ⟨aw, ys, rfl, ew, nw, hy⟩ := hw.tupOf
  exact ⟨ab, aw, ys, rfl, eb, nb, ew, nw, hy⟩
section
variable {P : Program} {w : World} {K : PySem.W.Frag} {mg : Str → Option Value} {base : Heap} {k : Nat}
/-! ### need_board where it is one -/
def spNeed : Sp := fun vs H Q _ => ∃ (N : Addr → Prop) (v : V) (ws : List (List (List Int))) (c : Int), vs = [v] ∧ Da N H v (boardD ws c) ∧ BoardOk ws c ∧ ∀ H', Same H H' → Q .non H'
theorem ok_need_board (D : Def K mg "need_board" s_need_board ["thing"]) (c_is_board : Cal P w K mg base k "is_board" ["thing"] (spThing boardB)) : Cal P w K mg base (k + 1) "need_board" ["thing"] spNeed := by
  refine D.ok sc_need_board (fun vs H Q E h => ?_) (fun f cdv A outer s H vs Q E hr h => ?_)
  · obtain ⟨N, v, ws, c, rfl, _⟩ := h
    rfl
  · obtain ⟨N, v, ws, c, rfl, hd, ok, q⟩ := h
    refine ⟨_, (pss_one (ps_if (pt_not (pt_val (pe_cal c_is_board hr rfl (pa_cons (pv 0) pa_nil))))
  (pss_one ps_never)
  pss_nil)), ?_⟩
    refine ⟨v, rfl, N, v, _, rfl, hd, fun H' s' => ⟨_, rfl, ?_⟩⟩
    rw [boardOk_B ok]
    exact iteF (q H' s')
/-! ### is_stand, are_marbles, is_moment -/
def spStand : Sp := fun vs H Q _ => ∃ (N M : Addr → Prop) (vb v : V) (ws : List (List (List Int))) (c : Int) (d : PyData), vs = [vb, v] ∧ Da N H vb (boardD ws c) ∧ BoardOk ws c ∧ Da M H v d ∧ ∀ H', Same H H' → Q (.bl (standB ws d)) H'
theorem ok_is_stand (D : Def K mg "is_stand" s_is_stand ["board", "thing"]) (B : Bi mg) (B2 : Bi2 mg) (c_need_board : Cal P w K mg base k "need_board" ["thing"] spNeed) (c_is_within : Cal P w K mg base k "is_within" ["thing", "least", "most"] spWithin)
    (c_has_parts : Cal P w K mg base k "has_parts" ["thing", "least", "most"] spParts) : Cal P w K mg base (k + 1) "is_stand" ["board", "thing"] spStand := by
  refine D.ok sc_is_stand (fun vs H Q E h => ?_) (fun f cdv A outer s H vs Q E hr h => ?_)
  · obtain ⟨N, M, vb, v, ws, c, d, rfl, _⟩ := h
    rfl
  · obtain ⟨N, M, vb, v, ws, c, d, rfl, hb, bok, hd, q⟩ := h
    refine ⟨_, (pss_cons (ps_expr (pe_cal c_need_board hr rfl (pa_cons (pv 0) pa_nil)))
  (pss_cons (ps_set (i := 2) sc_is_stand.nd rfl (Or.inl rfl) (pe_ix ix_tup (pv 0) pe_int (fun _ _ => rfl)))
  (pss_cons (ps_if (pt_not (pt_val (pe_cal c_has_parts hr rfl (pa_cons (pv 1) (pa_cons (pe_callB call_len_seq rfl B.len_ (by decide +kernel) (pa_cons (pv 2) pa_nil)) (pa_cons (pe_callB call_len_seq rfl B.len_ (by decide +kernel) (pa_cons (pv 2) pa_nil)) pa_nil))))))
  (pss_one (ps_ret pe_bl))
  pss_nil)
  (pss_one (ps_ret (pe_callB (cr_all rfl) rfl B.all_ (by decide +kernel) (pa_cons (pe_lc (own := [("step", 3), ("wheel", 4)]) rfl sc_is_stand.nd (pi_zip2 rfl B2.zip_ (pa_cons (pv 1) (pa_cons (pv 2) pa_nil))) (blkOk_by (N := ["board", "thing", "wheels", "step", "wheel"]) (sc := defScope s_is_stand) (by decide +kernel)) (fun _ _ _ _ _ => (pg_tupK (K := K) (n := 2) rfl (pgs_cons (pg_name (i := 3) sc_is_stand.nd rfl (Or.inl rfl)) (pgs_cons (pg_name (i := 4) sc_is_stand.nd rfl (Or.inl rfl)) pgs_nil)))) (fun _ _ _ _ _ => pts_nil) (fun _ _ _ _ _ => (pe_cal c_is_within hr rfl (pa_cons (pv 3) (pa_cons pe_int (pa_cons (pe_op op_sub (pe_callB (id := "len") (call_len_seqK (K := K)) rfl B.len_ (by decide +kernel) (pa_cons (pv 4) pa_nil)) pe_int) pa_nil)))))) pa_nil))))))), ?_⟩
    refine ⟨vb, rfl, N, vb, ws, c, rfl, hb, bok, fun H1 s1 => ?_⟩
    have hb1 := Da.mono (N := N) (Kp.of s1) _ _ hb
    have hd1 := Da.mono (N := M) (Kp.of s1) _ _ hd
    obtain ⟨ab, aw, ys, rfl, eb, _, ew, _, hy⟩ := Da.boardOf hb1
    have hl : ys.length = ws.length := by rw [hy.len, List.length_map]
    have w6 := bok.w6
    refine ⟨.ref ab, rfl, ab, _, 0, _, rfl, rfl, SqT.of eb, atI_nat (j := 0) rfl, ?_⟩
    refine ⟨v, rfl, .ref aw, rfl, aw, ys, rfl, .inr (SqT.of ew), .ref aw, rfl, aw, ys, rfl, .inr (SqT.of ew), M, v, d, _, _, rfl, hd1, _, rfl, ?_⟩
    rw [hl]
    cases e : partsB d ws.length ws.length with
    | false =>
      have q' := q H1 s1
      unfold standB at q'
      rw [e] at q'
      exact iteT q'
    | true =>
      obtain ⟨ds, rfl, l1, l2⟩ := parts_tup e
      obtain ⟨a, xs, rfl, ea, _, hx⟩ := hd1.tupOf
      have hxl := hx.len
      have hdl : ds.length = ws.length := by omega
      refine iteF (s_next ?_)
      dsimp only
      refine s_ret ?_
      dsimp only
      refine read_all2 (K := K) (i := 3) (j := 4) (ta := tCons (tVar 1) (tCons (tVar 2) tNil)) (k1 := .t) (k2 := .t) (a := a) (b := aw) (xs := xs) (ys := ys) (n := ws.length) (atB ds ws) (by decide) (by omega) (fun R r => ⟨.ref a, rfl, .ref aw, rfl, r⟩) (fun H' s' => SqT.of (s' _ _ ea)) (fun H' s' => SqT.of (s' _ _ ew)) (by omega) (fun m x y H' s' hm ex ey Q' q' => ?_) (fun H' s' => ?_)
      · obtain ⟨dx, f1, f2⟩ := (DaAll.mono (N := M) (Kp.of s') _ _ hx).get ex
        obtain ⟨dy, g1, g2⟩ := (DaAll.mono (N := N) (Kp.of s') _ _ hy).get ey
        rw [List.getElem?_map] at g1
        cases ewm : ws[m]? with
        | none => rw [ewm] at g1; cases g1
        | some wl =>
          rw [ewm] at g1
          cases g1
          obtain ⟨az, zs, rfl, ez, _, hz⟩ := g2.tupOf
          have zl : zs.length = wl.length := by rw [hz.len, List.length_map]
          refine ⟨x, rfl, .ref az, rfl, az, zs, rfl, .inr (SqT.of ez), _, 1, rfl, rfl, M, x, dx, 0, _, rfl, f2, ?_⟩
          have q2 := q' H' (Same.refl H')
          unfold atB at q2
          rw [f1, ewm] at q2
          rw [zl]
          exact q2
      · have q' := q H' (s1.trans s')
        unfold standB at q'
        rw [e, Bool.true_and] at q'
        exact q'
def spMarbles : Sp := fun vs H Q _ => ∃ (M : Addr → Prop) (v : V) (n : Int) (d : PyData), vs = [v, .int n] ∧ Da M H v d ∧ n ≤ 1000 ∧ ∀ H', Same H H' → Q (.bl (numsB n d)) H'
theorem ok_are_marbles (D : Def K mg "are_marbles" s_are_marbles ["thing", "places"]) (B : Bi mg) (c_is_whole : Cal P w K mg base k "is_whole" ["thing"] spWhole) (c_has_parts : Cal P w K mg base k "has_parts" ["thing", "least", "most"] spParts) :
    Cal P w K mg base (k + 1) "are_marbles" ["thing", "places"] spMarbles := by
  refine D.ok sc_are_marbles (fun vs H Q E h => ?_) (fun f cdv A outer s H vs Q E hr h => ?_)
  · obtain ⟨M, v, n, d, rfl, _⟩ := h
    rfl
  · obtain ⟨M, v, n, d, rfl, hd, hn, q⟩ := h
    refine ⟨_, (pss_one (ps_ret (pe_and (pe_cal c_has_parts hr rfl (pa_cons (pv 0) (pa_cons (pv 1) (pa_cons (pv 1) pa_nil)))) (pe_one (pe_callB (cr_all rfl) rfl B.all_ (by decide +kernel) (pa_cons (pe_lc (own := [("many", 2)]) rfl sc_are_marbles.nd (pi_tup (pv 0)) (blkOk_by (N := ["thing", "places", "many"]) (sc := defScope s_are_marbles) (by decide +kernel)) (fun _ _ _ _ _ => (pg_name (i := 2) sc_are_marbles.nd rfl (Or.inl rfl))) (fun _ _ _ _ _ => pts_nil) (fun _ _ _ _ _ => (pe_and (pe_cal c_is_whole hr rfl (pa_cons (pv 2) pa_nil)) (pe_one (pe_cmpR op_ge (pv 2) pe_int (nomark _)))))) pa_nil)))))), ?_⟩
    refine ⟨v, rfl, .int n, rfl, .int n, rfl, M, v, d, n, n, rfl, hd, _, rfl, ?_⟩
    cases e : partsB d n n with
    | false =>
      refine iteF ?_
      have q' := q H (Same.refl H)
      unfold numsB at q'
      rw [e] at q'
      exact q'
    | true =>
      obtain ⟨ds, rfl, _, h3⟩ := parts_tup e
      obtain ⟨a, xs, rfl, ea, _, ha⟩ := hd.tupOf
      refine iteT (read_all (N := M) (ds := ds) natB rfl ea ha (by omega) (fun x d H' s' hx Q' q' => ?_) fun H' s' => ?_)
      · refine ⟨x, rfl, M, x, d, rfl, hx, _, rfl, ?_⟩
        cases d with
        | int i =>
          cases hx
          exact iteT ⟨.int i, rfl, i, 0, rfl, rfl, q' H' (Same.refl H')⟩
        | bool b => exact iteF (q' H' (Same.refl H'))
        | none => exact iteF (q' H' (Same.refl H'))
        | str x => exact iteF (q' H' (Same.refl H'))
        | list ds => exact iteF (q' H' (Same.refl H'))
        | tuple ds => exact iteF (q' H' (Same.refl H'))
        | dict ds => exact iteF (q' H' (Same.refl H'))
      · have q' := q H' s'
        unfold numsB at q'
        rw [e, Bool.true_and] at q'
        exact q'
def spMom : Sp := fun vs H Q _ => ∃ (N M : Addr → Prop) (vb v : V) (ws : List (List (List Int))) (c : Int) (d : PyData), vs = [vb, v] ∧ Da N H vb (boardD ws c) ∧ BoardOk ws c ∧ Da M H v d ∧ ∀ H', Same H H' → Q (.bl (momentB ws c d)) H'
theorem momentB_no {ws : List (List (List Int))} {c : Int} {d : PyData} (h : partsB d 3 3 = false) : momentB ws c d = false := by
  unfold momentB
  split
  · cases h
  · rfl
theorem ok_is_moment (D : Def K mg "is_moment" s_is_moment ["board", "thing"]) (B : Bi mg) (c_need_board : Cal P w K mg base k "need_board" ["thing"] spNeed) (c_is_stand : Cal P w K mg base k "is_stand" ["board", "thing"] spStand)
    (c_are_marbles : Cal P w K mg base k "are_marbles" ["thing", "places"] spMarbles) (c_has_parts : Cal P w K mg base k "has_parts" ["thing", "least", "most"] spParts) : Cal P w K mg base (k + 1) "is_moment" ["board", "thing"] spMom := by
  refine D.ok sc_is_moment (fun vs H Q E h => ?_) (fun f cdv A outer s H vs Q E hr h => ?_)
  · obtain ⟨N, M, vb, v, ws, c, d, rfl, _⟩ := h
    rfl
  · obtain ⟨N, M, vb, v, ws, c, d, rfl, hb, bok, hd, q⟩ := h
    refine ⟨_, (pss_cons (ps_expr (pe_cal c_need_board hr rfl (pa_cons (pv 0) pa_nil)))
  (pss_cons (ps_if (pt_not (pt_val (pe_cal c_has_parts hr rfl (pa_cons (pv 1) (pa_cons pe_int (pa_cons pe_int pa_nil))))))
  (pss_one (ps_ret pe_bl))
  pss_nil)
  (pss_cons (ps_asg (pv 0) (pg_tup rfl (pgs_cons (pg_name (i := 2) sc_is_moment.nd rfl (Or.inl rfl)) (pgs_cons (pg_name (i := 3) sc_is_moment.nd rfl (Or.inl rfl)) pgs_nil))))
  (pss_cons (ps_asg (pv 1) (pg_tup rfl (pgs_cons (pg_name (i := 4) sc_is_moment.nd rfl (Or.inl rfl)) (pgs_cons (pg_name (i := 5) sc_is_moment.nd rfl (Or.inl rfl)) (pgs_cons (pg_name (i := 6) sc_is_moment.nd rfl (Or.inl rfl)) pgs_nil)))))
  (pss_one (ps_ret (pe_and (pe_cal c_is_stand hr rfl (pa_cons (pv 0) (pa_cons (pv 4) pa_nil))) (pe_and (pe_cal c_are_marbles hr rfl (pa_cons (pv 5) (pa_cons (pe_callB call_len_seq rfl B.len_ (by decide +kernel) (pa_cons (pv 2) pa_nil)) pa_nil))) (pe_one (pe_cal c_are_marbles hr rfl (pa_cons (pv 6) (pa_cons (pv 3) pa_nil)))))))))))), ?_⟩
    refine ⟨vb, rfl, N, vb, ws, c, rfl, hb, bok, fun H1 s1 => ?_⟩
    have hb1 := Da.mono (N := N) (Kp.of s1) _ _ hb
    have hd1 := Da.mono (N := M) (Kp.of s1) _ _ hd
    refine ⟨v, rfl, M, v, d, 3, 3, rfl, hd1, _, rfl, ?_⟩
    cases e : partsB d 3 3 with
    | false =>
      have q' := q H1 s1
      rw [momentB_no e] at q'
      exact iteT q'
    | true =>
      refine iteF ?_
      obtain ⟨ds, rfl, h2, h3⟩ := parts_tup e
      obtain ⟨a, xs, rfl, ea, _, ha⟩ := hd1.tupOf
      obtain ⟨dt, dw, dh, rfl⟩ : ∃ x y z, ds = [x, y, z] := by
        match ds, h2, h3 with
        | [x, y, z], _, _ => exact ⟨x, y, z, rfl⟩
        | [], h, _ => simp at h
        | [x], h, _ => simp at h
        | [x, y], h, _ => simp at h
        | x :: y :: z :: u :: r, _, h => simp at h; omega
      cases ha with
      | @cons vt vs1 _ _ ht hr1 =>
      cases hr1 with
      | @cons vw vs2 _ _ hw hr2 =>
      cases hr2 with
      | @cons vh vs3 _ _ hh hr3 =>
      cases hr3
      have hb2 := hb1
      obtain ⟨ab, aw, ys, rfl, eb, _, ew, _, hy⟩ := Da.boardOf hb1
      have hl : ys.length = ws.length := by rw [hy.len, List.length_map]
      have w6 := bok.w6
      have c4 := bok.c4
      refine ⟨.ref ab, rfl, ab, _, rfl, SqT.of eb, rfl, _, _, rfl, _, _, rfl, rfl, ?_⟩
      refine ⟨.ref a, rfl, a, _, rfl, SqT.of ea, rfl, _, _, rfl, _, _, rfl, _, _, rfl, rfl, ?_⟩
      have q0 : ∀ H', Same H H' → Q (.bl (standB ws dt && (numsB ws.length dw && numsB c dh))) H' := q
      refine ⟨.ref ab, rfl, vt, rfl, N, M, .ref ab, vt, ws, c, dt, rfl, hb2, bok, ht, fun H2 s2 => ⟨_, rfl, ?_⟩⟩
      cases e1 : standB ws dt with
      | false =>
        have q' := q0 H2 (s1.trans s2)
        rw [e1] at q'
        exact iteF q'
      | true =>
        refine iteT ⟨vw, rfl, .ref aw, rfl, aw, ys, rfl, .inr (SqT.of (s2 _ _ ew)), M, vw, _, dw, rfl, Da.mono (Kp.of s2) _ _ hw, by omega, fun H3 s3 => ⟨_, rfl, ?_⟩⟩
        rw [hl]
        cases e2 : numsB ws.length dw with
        | false =>
          have q' := q0 H3 ((s1.trans s2).trans s3)
          rw [e1, e2] at q'
          exact iteF q'
        | true =>
          refine iteT ⟨vh, rfl, .int c, rfl, M, vh, c, dh, rfl, Da.mono (Kp.of (s2.trans s3)) _ _ hh, by omega, fun H4 s4 => ?_⟩
          have q' := q0 H4 (((s1.trans s2).trans s3).trans s4)
          rw [e1, e2] at q'
          exact q'
end
end K04

set_option maxRecDepth 100000
set_option maxHeartbeats 1000000
namespace K04
open PySem PySem.Spec PyProof.Rows L2 HX
/-! ### a comprehension of drawn numbers -/
theorem s_cb1 {r : List V → Hp → VK → Prop} {t : TE} {σ : L2.St} {H : Hp} {Q : VK} (h : t σ H fun x H1 => r [x] H1 Q) : tCB r (tCons t tNil) σ H Q := h
theorem s_cons {t : TE} {u : TA} {σ : L2.St} {H : Hp} {Q : List V → Hp → Prop} (h : t σ H fun x H1 => u σ H1 fun xs H2 => Q (x :: xs) H2) : tCons t u σ H Q := h
theorem lc_ints {J : It} {n : Nat} {G : Hp → Prop} {Y : Nat → Hp → V → Hp → Prop} (wk : Walk J n G Y) {Yx : Nat → V → Prop} (hY : ∀ i H x H', Y i H x H' → H' = H ∧ Yx i x) {σ : L2.St} {H : Hp} {Q : VK} {te : TE} {wi : TI} {j pn : Nat} (R : Nat → Int → Prop) (t m : Nat) (hwi : ∀ R : It → Hp → Prop, R J H → wi σ H R)
    (hz : n ≤ 1000) (pen : PenAt H pn (m + t * n)) (hG : ∀ H', Kp (· = pn) H H' → G H')
    (ht : ∀ (i : Nat) (x : V) (H' : Hp) (m' : Nat), i < n → Yx i x → Kp (· = pn) H H' → PenAt H' pn (m' + t) → ∀ Q' : VK, (∀ (z : Int) (H2 : Hp), R i z → Kp (· = pn) H' H2 → PenAt H2 pn m' → Q' (.int z) H2) → te ((wipe σ [j]).set j (some x)) H' Q')
    (q : ∀ (D : Addr) (zs : List Int) (H' : Hp), zs.length = n → (∀ i z, zs[i]? = some z → R i z) → Kp (· = pn) H H' → PenAt H' pn m → H' D = some (.lst (zs.map V.int)) → H D = none → Q (.ref D) H') :
    tLc wi (gName j) tYes te [j] σ H Q := by
  refine hwi _ fun D hD => ?_
  have nDp := pen.ne hD
  refine lc_it wk (fun i H' => Kp (· = pn) H H' ∧ PenAt H' pn (m + t * (n - i)) ∧ ∃ zs : List Int, zs.length = i ∧ (∀ i z, zs[i]? = some z → R i z) ∧ H' D = some (.lst (zs.map V.int))) ⟨Kp.new hD, pen.new hD, [], rfl, fun i z e => by simp at e, upd_same⟩ (fun i H' _ h => hG H' h.1) (fun i x H' H2 hi h y => ?_) (fun H' h => ?_)
  · obtain ⟨k1, pen1, zs, zl, zr, eD⟩ := h
    obtain ⟨rfl, yx⟩ := hY _ _ _ _ y
    have e1 : m + t * (n - i) = m + t * (n - (i + 1)) + t := by
      rw [show n - i = (n - (i + 1)) + 1 by omega, Nat.mul_add, Nat.mul_one]
      omega
    rw [e1] at pen1
    refine ⟨wipe1 x, tYes_eq (iteT (ht i x H2 _ hi yx k1 pen1 _ fun z H3 hz' k3 pen3 => ?_))⟩
    refine ⟨_, k3 _ _ eD nDp, ?_, (k1.trans k3).mut hD, pen3.put nDp, zs ++ [z], ?_, ?_, ?_⟩
    · rw [List.length_map, zl]
      exact small1000 (by omega)
    · rw [List.length_append, zl]
      rfl
    · intro i' z' e
      by_cases hlt : i' < zs.length
      · rw [List.getElem?_append_left hlt] at e
        exact zr i' z' e
      · rw [List.getElem?_append_right (by omega)] at e
        have h0 : i' - zs.length = 0 := by
          have := (List.getElem?_eq_some_iff.mp e).1
          simp at this
          omega
        rw [h0] at e
        have e2 : z = z' := by simpa using e
        have e3 : i' = i := by omega
        subst e2 e3
        exact hz'
    · rw [upd_same, List.map_append]
      rfl
  · obtain ⟨k1, pen1, zs, zl, zr, eD⟩ := h
    exact q D zs H' zl zr k1 (pen1.less (by omega)) eD hD
/-! ### a drawn moment -/
def momD (st wt hd : List Int) : PyData := .tuple [stepD st, stepD wt, stepD hd]
structure MomOk (ws : List (List (List Int))) (c b : Int) (st wt hd : List Int) : Prop where
  sl : st.length = ws.length
  sr : ∀ (i : Nat) (s : Int) (w : List (List Int)), st[i]? = some s → ws[i]? = some w → 0 ≤ s ∧ s < (w.length : Int)
  wl : wt.length = ws.length
  wr : ∀ x ∈ wt, 0 ≤ x ∧ x ≤ b
  hl : (hd.length : Int) = c
  hr : ∀ x ∈ hd, 0 ≤ x ∧ x ≤ b
section
variable {P : Program} {w : World} {K : PySem.W.Frag} {mg : Str → Option Value} {base : Heap} {k : Nat}
def spDrawn : Sp := fun vs H Q _ => ∃ (pn : Addr) (vb : V) (most : Int) (m : Nat) (ws : List (List (List Int))) (c : Int), vs = [.ref pn, vb, .int most] ∧ 2 ≤ most ∧ most ≤ 1000 ∧ Td H vb (boardD ws c) ∧ BoardOk ws c ∧ PenAt H pn (m + 22) ∧
  ∀ (v : V) (st wt hd : List Int) (H' : Hp), MomOk ws c most st wt hd → Td H' v (momD st wt hd) → Kp (· = pn) H H' → PenAt H' pn m → Q v H'
theorem ok_drawn (D : Def K mg "_law_moment" s__law_moment ["_law_pen_here", "_law_board_here", "_law_most"]) (B : Bi mg) (c__law_draw : Cal P w K mg base k "_law_draw" ["_law_pen_here", "_law_many"] spDraw) :
    Cal P w K mg base (k + 1) "_law_moment" ["_law_pen_here", "_law_board_here", "_law_most"] spDrawn := by
  refine D.ok sc__law_moment (fun vs H Q E h => ?_) (fun f cdv A outer s H vs Q E hr h => ?_)
  · obtain ⟨pn, vb, most, m, ws, c, rfl, _⟩ := h
    rfl
  · obtain ⟨pn, vb, most, m, ws, c, rfl, m2, m1000, tb, bok, pen, q⟩ := h
    refine ⟨_, (pss_cons (ps_set (i := 3) sc__law_moment.nd rfl (Or.inl rfl) (pe_callTy call_tuple_of rfl B.tuple_ (by decide +kernel) (pa_cons (pe_lc (own := [("_law_wheel", 5)]) rfl sc__law_moment.nd (pi_tup (pe_ix ix_tup (pv 1) pe_int (fun _ _ => rfl))) (blkOk_by (N := ["_law_pen_here", "_law_board_here", "_law_most", "_law_stand", "_law_waiting", "_law_wheel", "_law_cup"]) (sc := defScope s__law_moment) (by decide +kernel)) (fun _ _ _ _ _ => (pg_name (i := 5) sc__law_moment.nd rfl (Or.inl rfl))) (fun _ _ _ _ _ => pts_nil) (fun _ _ _ _ _ => (pe_cal c__law_draw hr rfl (pa_cons (pv 0) (pa_cons (pe_callB (id := "len") (call_len_seqK (K := K)) rfl B.len_ (by decide +kernel) (pa_cons (pv 5) pa_nil)) pa_nil))))) pa_nil)))
  (pss_cons (ps_set (i := 4) sc__law_moment.nd rfl (Or.inl rfl) (pe_callTy call_tuple_of rfl B.tuple_ (by decide +kernel) (pa_cons (pe_lc (own := [("_law_wheel", 5)]) rfl sc__law_moment.nd (pi_tup (pe_ix ix_tup (pv 1) pe_int (fun _ _ => rfl))) (blkOk_by (N := ["_law_pen_here", "_law_board_here", "_law_most", "_law_stand", "_law_waiting", "_law_wheel", "_law_cup"]) (sc := defScope s__law_moment) (by decide +kernel)) (fun _ _ _ _ _ => (pg_name (i := 5) sc__law_moment.nd rfl (Or.inl rfl))) (fun _ _ _ _ _ => pts_nil) (fun _ _ _ _ _ => (pe_ix (ix_listK (K := K)) (pe_lst (pa_cons pe_int (pa_cons pe_int (pa_cons (pe_cal c__law_draw hr rfl (pa_cons (pv 0) (pa_cons (pe_op op_add (pv 2) pe_int) pa_nil))) pa_nil)))) (pe_cal c__law_draw hr rfl (pa_cons (pv 0) (pa_cons pe_int pa_nil))) (fun _ _ => rfl)))) pa_nil)))
  (pss_one (ps_ret (pe_tup (pa_cons (pv 3) (pa_cons (pv 4) (pa_cons (pe_callTy call_tuple_of rfl B.tuple_ (by decide +kernel) (pa_cons (pe_lc (own := [("_law_cup", 6)]) rfl sc__law_moment.nd (pi_range1 rfl B.range_ (pa_cons (pe_ix ix_tup (pv 1) pe_int (fun _ _ => rfl)) pa_nil)) (blkOk_by (N := ["_law_pen_here", "_law_board_here", "_law_most", "_law_stand", "_law_waiting", "_law_wheel", "_law_cup"]) (sc := defScope s__law_moment) (by decide +kernel)) (fun _ _ _ _ _ => (pg_name (i := 6) sc__law_moment.nd rfl (Or.inl rfl))) (fun _ _ _ _ _ => pts_nil) (fun _ _ _ _ _ => (pe_cal c__law_draw hr rfl (pa_cons (pv 0) (pa_cons pe_int pa_nil))))) pa_nil)) pa_nil)))))))), ?_⟩
    obtain ⟨ab, xsb, rfl, eb, hb⟩ := Td.tupOf tb
    cases hb with
    | @cons vw vs1 _ _ hw hr1 =>
    cases hr1 with
    | @cons vc vs2 _ _ hc hr2 =>
    cases hr2
    obtain rfl := hc.intOf
    obtain ⟨aw, ys, rfl, ew, hy⟩ := Td.tupOf hw
    have hl : ys.length = ws.length := by rw [hy.len, List.length_map]
    have w6 := bok.w6
    have c0 := bok.c0
    have c4 := bok.c4
    have nab : ¬ (ab = pn) := by
      obtain ⟨l, e⟩ := pen.list
      exact ne_of eb e (fun z => by cases z)
    have naw : ¬ (aw = pn) := by
      obtain ⟨l, e⟩ := pen.list
      exact ne_of ew e (fun z => by cases z)
    -- the stand
    refine s_asg (s_cb1 ?_)
    refine lc_ints (J := Itt K aw) (n := ys.length) walk_tup (Yx := fun i x => ys[i]? = some x) (fun i H x H' y => y) (fun i z => ∀ w : List (List Int), ws[i]? = some w → 0 ≤ z ∧ z < (w.length : Int)) 1 (m + 16) (fun R r => ⟨.ref ab, rfl, ab, _, 0, _, rfl, rfl, SqT.of eb, atI_nat (j := 0) rfl, aw, rfl, ⟨ys, SqT.of ew⟩, r⟩) (by omega) (pen.less (by omega)) (fun H' k' => SqT.of (k' _ _ ew naw)) (fun i x H' m' hi hx k' pen' Q' q' => ?_) (fun D zs H1 zl zr k1 pen1 eD nD => ?_)
    · obtain ⟨d, e1, e2⟩ := hy.get hx
      rw [List.getElem?_map] at e1
      cases ewm : ws[i]? with
      | none => rw [ewm] at e1; cases e1
      | some wl =>
        rw [ewm] at e1
        cases e1
        obtain ⟨x1, x4, _⟩ := bok.wheels wl (List.mem_of_getElem? ewm)
        obtain ⟨az, zs, rfl, ez, hz⟩ := Td.tupOf e2
        have zl : zs.length = wl.length := by rw [hz.len, List.length_map]
        have naz : ¬ (az = pn) := by
          obtain ⟨l, e⟩ := pen.list
          exact ne_of ez e (fun z => by cases z)
        refine ⟨.ref pn, rfl, .ref az, rfl, az, zs, rfl, .inr (SqT.of (k' _ _ ez naz)), pn, _, m', rfl, by omega, by omega, pen', fun r H2 r0 r1 k2 pen2 => q' r H2 (fun w ew' => ?_) k2 pen2⟩
        rw [ewm] at ew'
        cases ew'
        omega
    · refine ⟨D, _, rfl, .inl ⟨SqL.of eD, fun T nT => ?_⟩⟩
      have nTp := pen1.ne nT
      have pen2 := pen1.new (o := .tup (zs.map V.int)) nT
      have k2 : Kp (· = pn) H (upd H1 T (.tup (zs.map V.int))) := k1.trans (Kp.new nT)
      have eT : (upd H1 T (.tup (zs.map V.int))) T = some (.tup (zs.map V.int)) := upd_same
      generalize upd H1 T (.tup (zs.map V.int)) = H2 at pen2 k2 eT ⊢
      -- those that wait
      refine s_asg (s_cb1 ?_)
      refine lc_ints (J := Itt K aw) (n := ys.length) walk_tup (Yx := fun i x => ys[i]? = some x) (fun i H x H' y => y) (fun i z => 0 ≤ z ∧ z ≤ most) 2 (m + 4) (fun R r => ⟨.ref ab, rfl, ab, _, 0, _, rfl, rfl, SqT.of (k2 _ _ eb nab), atI_nat (j := 0) rfl, aw, rfl, ⟨ys, SqT.of (k2 _ _ ew naw)⟩, r⟩) (by omega) (pen2.less (by omega)) (fun H' k' => SqT.of (k' _ _ (k2 _ _ ew naw) naw)) (fun i x H' m' hi hx k' pen' Q' q' => ?_) (fun D2 zs2 H3 zl2 zr2 k3 pen3 eD2 nD2 => ?_)
      · refine ⟨.ref pn, rfl, .int most, rfl, most, 1, rfl, rfl, pn, _, m' + 1, rfl, by omega, by omega, pen', fun r H3 r0 r1 k3 pen3 => ⟨by show 3 ≤ sizeLine; decide, fun L nL => ?_⟩⟩
        have nLp := pen3.ne nL
        refine ⟨.ref pn, rfl, pn, 3, m', rfl, by decide, by decide, pen3.new nL, fun r2 H4 r20 r21 k4 pen4 => ?_⟩
        have eL : H4 L = some (.lst [V.int 0, .int 1, .int r]) := k4 _ _ upd_same nLp
        have kk : Kp (· = pn) H' H4 := (k3.trans (Kp.new nL)).trans k4
        obtain ⟨u, rfl⟩ : ∃ u : Nat, r2 = (u : Int) := ⟨r2.toNat, by omega⟩
        match u, r21 with
        | 0, _ => exact ⟨L, _, 0, _, rfl, rfl, SqL.of eL, atI_nat (j := 0) rfl, q' _ H4 ⟨by omega, by omega⟩ kk pen4⟩
        | 1, _ => exact ⟨L, _, 1, _, rfl, rfl, SqL.of eL, atI_nat (j := 1) rfl, q' _ H4 ⟨by omega, by omega⟩ kk pen4⟩
        | 2, _ => exact ⟨L, _, 2, _, rfl, rfl, SqL.of eL, atI_nat (j := 2) rfl, q' _ H4 ⟨by omega, by omega⟩ kk pen4⟩
        | u + 3, h => exact absurd h (by omega)
      · refine ⟨D2, _, rfl, .inl ⟨SqL.of eD2, fun T2 nT2 => ?_⟩⟩
        have nTp2 := pen3.ne nT2
        have pen4 := pen3.new (o := .tup (zs2.map V.int)) nT2
        have k4 : Kp (· = pn) H2 (upd H3 T2 (.tup (zs2.map V.int))) := k3.trans (Kp.new nT2)
        have eT2 : (upd H3 T2 (.tup (zs2.map V.int))) T2 = some (.tup (zs2.map V.int)) := upd_same
        generalize upd H3 T2 (.tup (zs2.map V.int)) = H4 at pen4 k4 eT2 ⊢
        have k04 := k2.trans k4
        -- those that are held
        refine s_ret ?_
        refine ⟨.ref T, rfl, .ref T2, rfl, ?_⟩
        refine s_cons (s_cb1 ?_)
        refine lc_ints (J := Itr 0 c.toNat) (n := c.toNat) walk_range (Yx := fun _ _ => True) (fun i H x H' y => ⟨y.1, trivial⟩) (fun i z => 0 ≤ z ∧ z ≤ most) 1 m (fun R r => ⟨.ref ab, rfl, ab, _, 1, _, rfl, rfl, SqT.of (k04 _ _ eb nab), atI_nat (j := 1) rfl, c, rfl, by omega, by omega, r⟩) (by omega) (pen4.less (by omega)) (fun H' k' => trivial) (fun i x H' m' hi hx k' pen' Q' q' => ?_) (fun D3 zs3 H5 zl3 zr3 k5 pen5 eD3 nD3 => ?_)
        · exact ⟨.ref pn, rfl, pn, 3, m', rfl, by decide, by decide, pen', fun r H2 r0 r1 k2 pen2 => q' r H2 ⟨r0, by omega⟩ k2 pen2⟩
        · refine ⟨D3, _, rfl, .inl ⟨SqL.of eD3, fun T3 nT3 => ⟨by show 3 ≤ sizeLine; decide, fun U nU => ?_⟩⟩⟩
          have eT5 : H5 T = some (.tup (zs.map V.int)) := (k4.trans k5) _ _ eT nTp
          have eT25 : H5 T2 = some (.tup (zs2.map V.int)) := k5 _ _ eT2 nTp2
          have s6 : Same H5 (upd H5 T3 (.tup (zs3.map V.int))) := Same.new nT3
          refine q (.ref U) zs zs2 zs3 _ ⟨by omega, fun i s w e1 e2 => zr i s e1 w e2, by omega, fun x hx => ?_, by omega, fun x hx => ?_⟩ ?_ ((k04.trans k5).trans ((Kp.new nT3).trans (Kp.new nU))) ((pen5.new nT3).new nU)
          · obtain ⟨i, hi⟩ := List.mem_iff_getElem?.mp hx
            exact zr2 i x hi
          · obtain ⟨i, hi⟩ := List.mem_iff_getElem?.mp hx
            exact zr3 i x hi
          · exact Td.new nU (.cons (.tup (s6 _ _ eT5) (TdAll.ints zs)) (.cons (.tup (s6 _ _ eT25) (TdAll.ints zs2)) (.cons (.tup upd_same (TdAll.ints zs3)) .nil)))
end
end K04

set_option maxRecDepth 100000
set_option maxHeartbeats 1000000
namespace K04
open PySem PySem.Spec PyProof.Rows L2 HX
abbrev s_handle_marble : Stmt := topS 43
theorem sc_handle_marble : FnScope ["board", "parts", "wheel", "wheels", "stand", "waiting", "held", "step", "end"] ["board", "parts", "wheel"] (defScope s_handle_marble) := ⟨rfl, rfl, rfl, by decide +kernel, rfl, by decide +kernel, by decide +kernel⟩
section
variable {P : Program} {w : World} {K : PySem.W.Frag} {mg : Str → Option Value} {base : Heap} {k : Nat}
/-! ### a marble handled -/
def spHandle : Sp := fun vs H Q _ => ∃ (vb : V) (p a1 a2 a3 : Addr) (n : Nat) (ws : List (List (List Int))) (c : Int) (m : Mo), vs = [vb, .ref p, .int n] ∧ Td H vb (boardD ws c) ∧ BoardOk ws c ∧ H p = some (.tup [.ref a1, .ref a2, .ref a3]) ∧ Laid H a1 a2 a3 m ∧ MoF ws c m ∧ n < ws.length ∧
  ∀ H', Kp (N3 a1 a2 a3) H H' → Laid H' a1 a2 a3 (handleM ws m n) → Q .non H'
theorem ok_handle_marble (D : Def K mg "handle_marble" s_handle_marble ["board", "parts", "wheel"]) (B : Bi mg) : Cal P w K mg base (k + 1) "handle_marble" ["board", "parts", "wheel"] spHandle := by
  refine D.ok sc_handle_marble (fun vs H Q E h => ?_) (fun f cdv A outer s H vs Q E hr h => ?_)
  · obtain ⟨vb, p, a1, a2, a3, n, ws, c, m, rfl, _⟩ := h
    rfl
  · obtain ⟨vb, p, a1, a2, a3, n, ws, c, m, rfl, tb, bok, ep, la, mf, hn, q⟩ := h
    refine ⟨_, (pss_cons (ps_set (i := 3) sc_handle_marble.nd rfl (Or.inl rfl) (pe_ix ix_tup (pv 0) pe_int (fun _ _ => rfl)))
  (pss_cons (ps_asg (pv 1) (pg_tup rfl (pgs_cons (pg_name (i := 4) sc_handle_marble.nd rfl (Or.inl rfl)) (pgs_cons (pg_name (i := 5) sc_handle_marble.nd rfl (Or.inl rfl)) (pgs_cons (pg_name (i := 6) sc_handle_marble.nd rfl (Or.inl rfl)) pgs_nil)))))
  (pss_cons (ps_set (i := 7) sc_handle_marble.nd rfl (Or.inl rfl) (pe_ix ix_list (pv 4) (pv 2) (fun _ _ => rfl)))
  (pss_cons (ps_augS (pv 5) (pv 2) get_list pe_int ip_sub set_list)
  (pss_cons (ps_for PassesOwn.never rfl (pi_tup (pe_ix ix_tup (pe_ix ix_tup (pv 3) (pv 2) (fun _ _ => rfl)) (pv 7) (fun _ _ => rfl))) (pg_name (i := 8) sc_handle_marble.nd rfl (Or.inl rfl))
  (pss_one (ps_if (pt_cmpR op_lt (pv 8) (pe_callB call_len_seq rfl B.len_ (by decide +kernel) (pa_cons (pv 3) pa_nil)) (nomark _))
  (pss_one (ps_augS (pv 5) (pv 8) get_list pe_int ip_add set_list))
  (pss_one (ps_augS (pv 6) (pe_op op_sub (pv 8) (pe_callB call_len_seq rfl B.len_ (by decide +kernel) (pa_cons (pv 3) pa_nil))) get_list pe_int ip_add set_list)))))
  (pss_one (ps_asg (pe_op op_mod (pe_op op_add (pv 7) pe_int) (pe_callB call_len_seq rfl B.len_ (by decide +kernel) (pa_cons (pe_ix ix_tup (pv 3) (pv 2) (fun _ _ => rfl)) pa_nil))) (pg_sub (pv 4) (pv 2) set_list)))))))), ?_⟩
    obtain ⟨ab, aw, ys, rfl, eb, ew, hy⟩ := Td.boardOf tb
    have hl : ys.length = ws.length := by rw [hy.len, List.length_map]
    obtain ⟨az, zs, ey, ez, hz⟩ := hy.wheelAt hn
    have ewn : ws[n]? = some (ws.getD n []) := by rw [List.getD_eq_getElem?_getD, List.getElem?_eq_getElem hn]; rfl
    have esn : m.st[n]? = some (m.st.getD n 0) := by rw [List.getD_eq_getElem?_getD, List.getElem?_eq_getElem (by rw [mf.sl]; exact hn)]; rfl
    obtain ⟨s0, s1⟩ := mf.sr n _ _ esn ewn
    obtain ⟨x1, x4, wok⟩ := bok.wheels _ (List.mem_of_getElem? ewn)
    generalize hst : m.st.getD n 0 = sv at esn s0 s1
    obtain ⟨sn, rfl⟩ : ∃ sn : Nat, sv = (sn : Int) := ⟨sv.toNat, by omega⟩
    have hsn : sn < (ws.getD n []).length := by omega
    obtain ⟨ae, ee, ees⟩ := hz.stepAt hsn
    have hends : endsAt ws m.st n = (ws.getD n []).getD sn [] := by
      unfold endsAt
      rw [hst]
      rfl
    have eok := wok ((ws.getD n []).getD sn []) (List.mem_of_getElem? (show (ws.getD n [])[sn]? = some _ by rw [List.getD_eq_getElem?_getD (l := ws.getD n []) (i := sn), List.getElem?_eq_getElem hsn]; rfl))
    have hzl : zs.length = (ws.getD n []).length := by rw [hz.len, List.length_map]
    have hwl := mf.wl
    have hhl := mf.hl
    -- wheels, the three lists, the step
    refine ⟨.ref ab, rfl, ab, _, 0, _, rfl, rfl, SqT.of eb, atI_nat (j := 0) rfl, ?_⟩
    refine ⟨.ref p, rfl, p, _, rfl, SqT.of ep, rfl, _, _, rfl, _, _, rfl, _, _, rfl, rfl, ?_⟩
    refine ⟨.ref a1, rfl, .int n, rfl, a1, _, n, .int sn, rfl, rfl, SqL.of la.s, atI_nat (by rw [getI (by rw [mf.sl]; exact hn), hst]), ?_⟩
    -- waiting[wheel] -= 1
    refine ⟨.ref a2, rfl, .int n, rfl, a2, _, n, _, rfl, rfl, SqL.of la.w, getI (by omega), _, _, rfl, rfl, a2, _, n, n, rfl, rfl, la.w, ixN_nat (by rw [List.length_map]; omega), ?_⟩
    rw [setI]
    have k1 : Kp (N3 a1 a2 a3) H (upd H a2 (.lst ((m.wt.set n (m.wt.getD n 0 - 1)).map V.int))) := Kp.put (.inr (.inl rfl))
    have hb1 : m.wt.set n (m.wt.getD n 0 - 1) = bump m.wt n (-1) := rfl
    rw [hb1] at k1 ⊢
    have l1 : Laid (upd H a2 (.lst ((bump m.wt n (-1)).map V.int))) a1 a2 a3 ⟨m.st, bump m.wt n (-1), m.hd⟩ := ⟨by rw [upd_ne la.nab]; exact la.s, upd_same, by rw [upd_ne la.nbc.symm]; exact la.h, la.nab, la.nac, la.nbc⟩
    have kt1 := la.kt k1
    generalize upd H a2 (.lst ((bump m.wt n (-1)).map V.int)) = H1 at k1 l1 kt1 ⊢
    -- the ends
    refine ⟨.ref aw, rfl, .int n, rfl, aw, _, n, _, rfl, rfl, SqT.of (kt1 _ _ ew), atI_nat ey, .int sn, rfl, az, _, sn, _, rfl, rfl, SqT.of (kt1 _ _ ez), atI_nat ee, ae, rfl, ⟨_, SqT.of (kt1 _ _ ees)⟩, ?_⟩
    refine for_tup (xs := ((ws.getD n []).getD sn []).map V.int) (fun i σ H' => ∃ y : Option V, σ = [some (.ref ab), some (.ref p), some (.int n), some (.ref aw), some (.ref a1), some (.ref a2), some (.ref a3), some (.int sn), y] ∧ Kp (N3 a1 a2 a3) H H' ∧
      Laid H' a1 a2 a3 ⟨m.st, ((((ws.getD n []).getD sn []).take i).foldl (sendM ws.length) (bump m.wt n (-1), m.hd)).1, ((((ws.getD n []).getD sn []).take i).foldl (sendM ws.length) (bump m.wt n (-1), m.hd)).2⟩) ⟨none, rfl, k1, l1⟩ (fun i σ H' _ pp => ?_) (fun i x σ H' hx pp => ?_) (fun σ H' pp => ?_)
    · obtain ⟨y, _, k', _⟩ := pp
      exact SqT.of (la.kt k' _ _ ees)
    · obtain ⟨y, rfl, k', l'⟩ := pp
      rw [List.getElem?_map] at hx
      cases ex : ((ws.getD n []).getD sn [])[i]? with
      | none => rw [ex] at hx; cases hx
      | some e =>
        rw [ex] at hx
        cases hx
        obtain ⟨e0, e1⟩ := eok.2 e (List.mem_of_getElem? ex)
        obtain ⟨sl1, sl2⟩ := send_len ws.length (((ws.getD n []).getD sn []).take i) (bump m.wt n (-1), m.hd)
        rw [bump_len] at sl1
        have tk : ((ws.getD n []).getD sn []).take (i + 1) = ((ws.getD n []).getD sn []).take i ++ [e] := by rw [List.take_add_one, ex]; rfl
        have fold1 : (((ws.getD n []).getD sn []).take (i + 1)).foldl (sendM ws.length) (bump m.wt n (-1), m.hd) = sendM ws.length ((((ws.getD n []).getD sn []).take i).foldl (sendM ws.length) (bump m.wt n (-1), m.hd)) e := by rw [tk, List.foldl_append]; rfl
        rw [fold1]
        generalize (((ws.getD n []).getD sn []).take i).foldl (sendM ws.length) (bump m.wt n (-1), m.hd) = pr at l' sl1 sl2 ⊢
        obtain ⟨pw, ph⟩ := pr
        have sl1' : pw.length = m.wt.length := sl1
        have sl2' : ph.length = m.hd.length := sl2
        have ew' := la.kt k' _ _ ew
        obtain ⟨en, rfl⟩ : ∃ en : Nat, e = (en : Int) := ⟨e.toNat, by omega⟩
        refine ⟨.int en, rfl, .ref aw, rfl, aw, ys, rfl, .inr (SqT.of ew'), en, _, rfl, rfl, _, rfl, ite2 (fun g => ?_) (fun g => ?_)⟩
        · have g' : (en : Int) < (ws.length : Int) := by rw [← hl]; exact of_decide_eq_true g
          have hs : sendM ws.length (pw, ph) en = (bump pw en 1, ph) := by
            unfold sendM
            rw [if_pos g']
            rfl
          rw [hs]
          refine ⟨.ref a2, rfl, .int en, rfl, a2, _, en, _, rfl, rfl, SqL.of l'.w, getI (show en < pw.length by omega), _, _, rfl, rfl, a2, _, en, en, rfl, rfl, l'.w, ixN_nat (by rw [List.length_map]; show en < pw.length; omega), ?_⟩
          rw [setI]
          exact ⟨some (.int en), rfl, k'.trans (Kp.put (.inr (.inl rfl))), ⟨by rw [upd_ne l'.nab]; exact l'.s, upd_same, by rw [upd_ne l'.nbc.symm]; exact l'.h, l'.nab, l'.nac, l'.nbc⟩⟩
        · have g' : ¬ (en : Int) < (ws.length : Int) := by rw [← hl]; exact fun z => g (decide_eq_true z)
          have hs : sendM ws.length (pw, ph) en = (pw, bump ph (en - ws.length) 1) := by
            unfold sendM
            rw [if_neg g', show ((en : Int) - (ws.length : Int)).toNat = en - ws.length by omega]
          rw [hs]
          have ei : (en : Int) - (ys.length : Int) = ((en - ws.length : Nat) : Int) := by omega
          refine ⟨.ref a3, rfl, .int en, rfl, .ref aw, rfl, aw, ys, rfl, .inr (SqT.of ew'), _, _, rfl, rfl, a3, _, en - ws.length, _, rfl, congrArg V.int ei, SqL.of l'.h, getI (show en - ws.length < ph.length by omega), _, _, rfl, rfl, a3, _, _, en - ws.length, rfl, congrArg V.int ei, l'.h, ixN_nat (by rw [List.length_map]; show en - ws.length < ph.length; omega), ?_⟩
          rw [setI]
          exact ⟨some (.int en), rfl, k'.trans (Kp.put (.inr (.inr rfl))), ⟨by rw [upd_ne l'.nac]; exact l'.s, by rw [upd_ne l'.nbc]; exact l'.w, upd_same, l'.nab, l'.nac, l'.nbc⟩⟩
    · -- stand[wheel] = ..
      obtain ⟨y, rfl, k', l'⟩ := pp
      rw [List.length_map, List.take_length] at l'
      have ew' := la.kt k' _ _ ew
      have ez' := la.kt k' _ _ ez
      refine ⟨.int sn, rfl, sn, 1, rfl, rfl, .ref aw, rfl, .int n, rfl, aw, _, n, _, rfl, rfl, SqT.of ew', atI_nat ey, az, zs, rfl, .inr (SqT.of ez'), _, _, rfl, rfl, by omega, .ref a1, rfl, .int n, rfl, a1, _, n, n, rfl, rfl, l'.s, ixN_nat (by rw [List.length_map]; show n < m.st.length; rw [mf.sl]; exact hn), ?_⟩
      rw [setI, hzl]
      refine q _ (k'.trans (Kp.put (.inl rfl))) ⟨?_, by rw [upd_ne l'.nab.symm]; unfold handleM sentM; rw [hends]; exact l'.w, by rw [upd_ne l'.nac.symm]; unfold handleM sentM; rw [hends]; exact l'.h, l'.nab, l'.nac, l'.nbc⟩
      rw [upd_same]
      unfold handleM
      rw [hst]
end
end K04

set_option maxRecDepth 100000
set_option maxHeartbeats 1000000
namespace K04
open PySem PySem.Spec PyProof.Rows L2 HX
abbrev s_need_moment : Stmt := topS 38
theorem sc_need_moment : FnScope ["board", "thing"] ["board", "thing"] (defScope s_need_moment) := ⟨rfl, rfl, rfl, by decide +kernel, rfl, by decide +kernel, by decide +kernel⟩
abbrev s_is_wheel_number : Stmt := topS 39
theorem sc_is_wheel_number : FnScope ["board", "thing"] ["board", "thing"] (defScope s_is_wheel_number) := ⟨rfl, rfl, rfl, by decide +kernel, rfl, by decide +kernel, by decide +kernel⟩
abbrev s_loosened : Stmt := topS 41
theorem sc_loosened : FnScope ["moment", "stand", "waiting", "held"] ["moment"] (defScope s_loosened) := ⟨rfl, rfl, rfl, by decide +kernel, rfl, by decide +kernel, by decide +kernel⟩
abbrev s_fastened : Stmt := topS 42
theorem sc_fastened : FnScope ["stand", "waiting", "held"] ["stand", "waiting", "held"] (defScope s_fastened) := ⟨rfl, rfl, rfl, by decide +kernel, rfl, by decide +kernel, by decide +kernel⟩
abbrev s_is_row : Stmt := topS 44
theorem sc_is_row : FnScope ["board", "thing", "wheel"] ["board", "thing"] (defScope s_is_row) := ⟨rfl, rfl, rfl, by decide +kernel, rfl, by decide +kernel, by decide +kernel⟩
abbrev s_need_row : Stmt := topS 45
theorem sc_need_row : FnScope ["board", "thing"] ["board", "thing"] (defScope s_need_row) := ⟨rfl, rfl, rfl, by decide +kernel, rfl, by decide +kernel, by decide +kernel⟩
abbrev s_walked : Stmt := topS 46
theorem sc_walked : FnScope ["board", "moment", "row", "stand", "waiting", "held", "place", "wheel"] ["board", "moment", "row"] (defScope s_walked) := ⟨rfl, rfl, rfl, by decide +kernel, rfl, by decide +kernel, by decide +kernel⟩
abbrev s_behind : Stmt := topS 49
theorem sc_behind : FnScope ["board", "moment", "row", "place", "last"] ["board", "moment", "row"] (defScope s_behind) := ⟨rfl, rfl, rfl, by decide +kernel, rfl, by decide +kernel, by decide +kernel⟩
def moD (m : Mo) : PyData := momD m.st m.wt m.hd
theorem nums_true {n : Int} {l : List Int} (hl : (l.length : Int) = n) (hn : ∀ x ∈ l, 0 ≤ x) : numsB n (stepD l) = true := by
  have e1 : partsB (stepD l) n n = true := by
    show (decide (n ≤ ((l.map PyData.int).length : Int)) && decide (((l.map PyData.int).length : Int) ≤ n)) = true
    rw [List.length_map, Bool.and_eq_true, decide_eq_true_eq, decide_eq_true_eq]
    omega
  show (partsB (stepD l) n n && (l.map PyData.int).all natB) = true
  rw [e1, Bool.true_and, List.all_map, List.all_eq_true]
  intro x hx
  exact decide_eq_true (hn x hx)
theorem stand_true {ws : List (List (List Int))} {st : List Int} (hl : st.length = ws.length) (hr : ∀ (i : Nat) (s : Int) (w : List (List Int)), st[i]? = some s → ws[i]? = some w → 0 ≤ s ∧ s < (w.length : Int)) : standB ws (stepD st) = true := by
  have e1 : partsB (stepD st) ws.length ws.length = true := by
    show (decide ((ws.length : Int) ≤ ((st.map PyData.int).length : Int)) && decide (((st.map PyData.int).length : Int) ≤ ws.length)) = true
    rw [List.length_map, Bool.and_eq_true, decide_eq_true_eq, decide_eq_true_eq]
    omega
  show (partsB (stepD st) ws.length ws.length && (List.range ws.length).all (atB (st.map PyData.int) ws)) = true
  rw [e1, Bool.true_and, List.all_eq_true]
  intro i hi
  have hi' : i < ws.length := List.mem_range.mp hi
  have e2 : ws[i]? = some ws[i] := List.getElem?_eq_getElem hi'
  have e3 : st[i]? = some (st[i]'(by omega)) := List.getElem?_eq_getElem (by omega)
  obtain ⟨h0, h1⟩ := hr i _ _ e3 e2
  unfold atB
  rw [List.getElem?_map, e2, e3]
  show (decide ((0 : Int) ≤ _) && decide (_ ≤ _)) = true
  rw [Bool.and_eq_true, decide_eq_true_eq, decide_eq_true_eq]
  omega
theorem moOk_B {ws : List (List (List Int))} {c : Int} {m : Mo} (h : MoOk ws c m) : momentB ws c (moD m) = true := by
  show (standB ws (stepD m.st) && (numsB ws.length (stepD m.wt) && numsB c (stepD m.hd))) = true
  rw [stand_true h.sl h.sr, nums_true (by rw [h.wl]) h.wn, nums_true h.hl h.hn]
  rfl
theorem Td.daF {H : Hp} {v : V} {d : PyData} (h : Td H v d) : Da (fun _ => False) H v d := Td.da (fun _ _ _ z => z) _ _ h
theorem moD_of {H : Hp} {v : V} {m : Mo} (h : Td H v (moD m)) : ∃ T b1 b2 b3, v = .ref T ∧ H T = some (.tup [.ref b1, .ref b2, .ref b3]) ∧ H b1 = some (.tup (m.st.map V.int)) ∧ H b2 = some (.tup (m.wt.map V.int)) ∧ H b3 = some (.tup (m.hd.map V.int)) := by
  have num : ∀ (ns : List Int) (vs : List V), TdAll H vs (ns.map PyData.int) → vs = ns.map V.int := by
    intro ns
    induction ns with
    | nil => intro vs h; cases h; rfl
    | cons n ns ih =>
      intro vs h
      cases h with
      | cons h1 h2 => rw [h1.intOf, ih _ h2]; rfl
  obtain ⟨T, xs, rfl, eT, hx⟩ := Td.tupOf h
  cases hx with
  | @cons v1 _ _ _ h1 hx =>
  cases hx with
  | @cons v2 _ _ _ h2 hx =>
  cases hx with
  | @cons v3 _ _ _ h3 hx =>
  cases hx
  obtain ⟨b1, y1, rfl, e1, g1⟩ := Td.tupOf h1
  obtain ⟨b2, y2, rfl, e2, g2⟩ := Td.tupOf h2
  obtain ⟨b3, y3, rfl, e3, g3⟩ := Td.tupOf h3
  rw [num _ _ g1] at e1
  rw [num _ _ g2] at e2
  rw [num _ _ g3] at e3
  exact ⟨T, b1, b2, b3, rfl, eT, e1, e2, e3⟩
/-- as far as the row is let -/
def walkM (ws : List (List (List Int))) : Nat → Mo → List Nat → Option Nat × Mo
  | _, m, [] => (none, m)
  | i, m, n :: r => if m.wt.getD n 0 = 0 then (some i, m) else walkM ws (i + 1) (handleM ws m n) r
def placeV : Option Nat → V
  | none => .non
  | some i => .int (i : Int)
section
variable {P : Program} {w : World} {K : PySem.W.Frag} {mg : Str → Option Value} {base : Heap} {k : Nat}
def spNeedMom : Sp := fun vs H Q _ => ∃ (vb v : V) (ws : List (List (List Int))) (c : Int) (m : Mo), vs = [vb, v] ∧ Td H vb (boardD ws c) ∧ BoardOk ws c ∧ Td H v (moD m) ∧ MoOk ws c m ∧ ∀ H', Same H H' → Q .non H'
theorem ok_need_moment (D : Def K mg "need_moment" s_need_moment ["board", "thing"]) (c_is_moment : Cal P w K mg base k "is_moment" ["board", "thing"] spMom) : Cal P w K mg base (k + 1) "need_moment" ["board", "thing"] spNeedMom := by
  refine D.ok sc_need_moment (fun vs H Q E h => ?_) (fun f cdv A outer s H vs Q E hr h => ?_)
  · obtain ⟨vb, v, ws, c, m, rfl, _⟩ := h
    rfl
  · obtain ⟨vb, v, ws, c, m, rfl, tb, bok, tv, mok, q⟩ := h
    refine ⟨_, (pss_one (ps_if (pt_not (pt_val (pe_cal c_is_moment hr rfl (pa_cons (pv 0) (pa_cons (pv 1) pa_nil)))))
  (pss_one ps_never)
  pss_nil)), ?_⟩
    refine ⟨vb, rfl, v, rfl, _, _, vb, v, ws, c, _, rfl, Td.daF tb, bok, Td.daF tv, fun H' s' => ⟨_, rfl, ?_⟩⟩
    rw [moOk_B mok]
    exact iteF (q H' s')
def spWheelNo : Sp := fun vs H Q _ => ∃ (vb v : V) (ws : List (List (List Int))) (c : Int) (d : PyData), vs = [vb, v] ∧ Td H vb (boardD ws c) ∧ Da (fun _ => False) H v d ∧ Q (.bl (withinB d 0 ((ws.length : Int) - 1))) H
theorem ok_is_wheel_number (D : Def K mg "is_wheel_number" s_is_wheel_number ["board", "thing"]) (B : Bi mg) (c_is_within : Cal P w K mg base k "is_within" ["thing", "least", "most"] spWithin) : Cal P w K mg base (k + 1) "is_wheel_number" ["board", "thing"] spWheelNo := by
  refine D.ok sc_is_wheel_number (fun vs H Q E h => ?_) (fun f cdv A outer s H vs Q E hr h => ?_)
  · obtain ⟨vb, v, ws, c, d, rfl, _⟩ := h
    rfl
  · obtain ⟨vb, v, ws, c, d, rfl, tb, hd, q⟩ := h
    refine ⟨_, (pss_one (ps_ret (pe_cal c_is_within hr rfl (pa_cons (pv 1) (pa_cons pe_int (pa_cons (pe_op op_sub (pe_callB call_len_seq rfl B.len_ (by decide +kernel) (pa_cons (pe_ix ix_tup (pv 0) pe_int (fun _ _ => rfl)) pa_nil)) pe_int) pa_nil)))))), ?_⟩
    obtain ⟨ab, aw, ys, rfl, eb, ew, hy⟩ := Td.boardOf tb
    have hl : ys.length = ws.length := by rw [hy.len, List.length_map]
    refine ⟨v, rfl, .ref ab, rfl, ab, _, 0, _, rfl, rfl, SqT.of eb, atI_nat (j := 0) rfl, aw, ys, rfl, .inr (SqT.of ew), _, 1, rfl, rfl, _, v, d, 0, _, rfl, hd, ?_⟩
    rw [hl]
    exact q
def spIsRow : Sp := fun vs H Q _ => ∃ (vb : V) (r : Addr) (ws : List (List (List Int))) (c : Int) (row : List Nat), vs = [vb, .ref r] ∧ Td H vb (boardD ws c) ∧ RowAt H r row ∧ row.length ≤ 1000 ∧ (∀ n ∈ row, n < ws.length) ∧ ∀ H', Same H H' → Q (.bl true) H'
theorem ok_is_row (D : Def K mg "is_row" s_is_row ["board", "thing"]) (B : Bi mg) (c_is_wheel_number : Cal P w K mg base k "is_wheel_number" ["board", "thing"] spWheelNo) : Cal P w K mg base (k + 1) "is_row" ["board", "thing"] spIsRow := by
  refine D.ok sc_is_row (fun vs H Q E h => ?_) (fun f cdv A outer s H vs Q E hr h => ?_)
  · obtain ⟨vb, r, ws, c, row, rfl, _⟩ := h
    rfl
  · obtain ⟨vb, r, ws, c, row, rfl, tb, er, hz, hrow, q⟩ := h
    refine ⟨_, (pss_one (ps_ret (pe_and (pe_callB call_isi rfl B.isinstance_ (by decide +kernel) (pa_cons (pv 1) (pa_cons (pe_bltn (v := .ty "tuple") (u := .type "tuple") rfl B.tuple_ (by decide +kernel) rfl) pa_nil))) (pe_one (pe_callB (cr_all rfl) rfl B.all_ (by decide +kernel) (pa_cons (pe_lc (own := [("wheel", 2)]) rfl sc_is_row.nd (pi_tup (pv 1)) (blkOk_by (N := ["board", "thing", "wheel"]) (sc := defScope s_is_row) (by decide +kernel)) (fun _ _ _ _ _ => (pg_name (i := 2) sc_is_row.nd rfl (Or.inl rfl))) (fun _ _ _ _ _ => pts_nil) (fun _ _ _ _ _ => (pe_cal c_is_wheel_number hr rfl (pa_cons (pv 0) (pa_cons (pv 2) pa_nil))))) pa_nil)))))), ?_⟩
    refine ⟨.ref r, rfl, .ref r, .ty "tuple", _, .type "tuple", _, rfl, .ty "tuple", er.ty, kit_ty (kit_tuple (.tuple [])), true, rfl, ?_⟩
    refine iteT ?_
    refine read_allR (fun n => withinB (.int (n : Int)) 0 ((ws.length : Int) - 1)) rfl er hz (fun n H' s' Q' q' => ?_) fun H' s' => ?_
    · exact ⟨vb, rfl, .int (n : Int), rfl, vb, _, ws, c, .int (n : Int), rfl, Td.mono (KT.same s') _ _ tb, .int _, q' H' (Same.refl H')⟩
    · have e : row.all (fun n => withinB (.int (n : Int)) 0 ((ws.length : Int) - 1)) = true := by
        rw [List.all_eq_true]
        intro n hn
        have := hrow n hn
        show (decide ((0 : Int) ≤ (n : Int)) && decide ((n : Int) ≤ _)) = true
        rw [Bool.and_eq_true, decide_eq_true_eq, decide_eq_true_eq]
        omega
      rw [e]
      exact q H' s'
def spNeedRow : Sp := fun vs H Q _ => ∃ (vb : V) (r : Addr) (ws : List (List (List Int))) (c : Int) (row : List Nat), vs = [vb, .ref r] ∧ Td H vb (boardD ws c) ∧ RowAt H r row ∧ row.length ≤ 1000 ∧ (∀ n ∈ row, n < ws.length) ∧ ∀ H', Same H H' → Q .non H'
theorem ok_need_row (D : Def K mg "need_row" s_need_row ["board", "thing"]) (c_is_row : Cal P w K mg base k "is_row" ["board", "thing"] spIsRow) : Cal P w K mg base (k + 1) "need_row" ["board", "thing"] spNeedRow := by
  refine D.ok sc_need_row (fun vs H Q E h => ?_) (fun f cdv A outer s H vs Q E hr h => ?_)
  · obtain ⟨vb, r, ws, c, row, rfl, _⟩ := h
    rfl
  · obtain ⟨vb, r, ws, c, row, rfl, tb, er, hz, hrow, q⟩ := h
    refine ⟨_, (pss_one (ps_if (pt_not (pt_val (pe_cal c_is_row hr rfl (pa_cons (pv 0) (pa_cons (pv 1) pa_nil)))))
  (pss_one ps_never)
  pss_nil)), ?_⟩
    refine ⟨vb, rfl, .ref r, rfl, vb, r, ws, c, row, rfl, tb, er, hz, hrow, fun H' s' => ⟨_, rfl, ?_⟩⟩
    exact iteF (q H' s')
/-! ### loosened, fastened -/
def spLoose : Sp := fun vs H Q _ => ∃ (v : V) (m : Mo), vs = [v] ∧ Td H v (moD m) ∧ ∀ (T a1 a2 a3 : Addr) (H' : Hp), Same H H' → H' T = some (.tup [.ref a1, .ref a2, .ref a3]) → Laid H' a1 a2 a3 m → H a1 = none → H a2 = none → H a3 = none → Q (.ref T) H'
theorem ok_loosened (D : Def K mg "loosened" s_loosened ["moment"]) (B : Bi mg) : Cal P w K mg base (k + 1) "loosened" ["moment"] spLoose := by
  refine D.ok sc_loosened (fun vs H Q E h => ?_) (fun f cdv A outer s H vs Q E hr h => ?_)
  · obtain ⟨v, m, rfl, _⟩ := h
    rfl
  · obtain ⟨v, m, rfl, tv, q⟩ := h
    refine ⟨_, (pss_cons (ps_asg (pv 0) (pg_tup rfl (pgs_cons (pg_name (i := 1) sc_loosened.nd rfl (Or.inl rfl)) (pgs_cons (pg_name (i := 2) sc_loosened.nd rfl (Or.inl rfl)) (pgs_cons (pg_name (i := 3) sc_loosened.nd rfl (Or.inl rfl)) pgs_nil)))))
  (pss_one (ps_ret (pe_tup (pa_cons (pe_callTy call_list_of rfl B.list_ (by decide +kernel) (pa_cons (pv 1) pa_nil)) (pa_cons (pe_callTy call_list_of rfl B.list_ (by decide +kernel) (pa_cons (pv 2) pa_nil)) (pa_cons (pe_callTy call_list_of rfl B.list_ (by decide +kernel) (pa_cons (pv 3) pa_nil)) pa_nil))))))), ?_⟩
    obtain ⟨T, b1, b2, b3, rfl, eT, e1, e2, e3⟩ := moD_of tv
    refine ⟨.ref T, rfl, T, _, rfl, SqT.of eT, rfl, _, _, rfl, _, _, rfl, _, _, rfl, rfl, ?_⟩
    refine ⟨.ref b1, rfl, b1, _, rfl, .inr (SqT.of e1), fun a1 n1 => ?_⟩
    have s1 : Same H (upd H a1 (.lst (m.st.map V.int))) := Same.new n1
    have f1 : (upd H a1 (.lst (m.st.map V.int))) a1 = some (.lst (m.st.map V.int)) := upd_same
    generalize upd H a1 (.lst (m.st.map V.int)) = H1 at s1 f1 ⊢
    refine ⟨.ref b2, rfl, b2, _, rfl, .inr (SqT.of (s1 _ _ e2)), fun a2 n2 => ?_⟩
    have s2 : Same H1 (upd H1 a2 (.lst (m.wt.map V.int))) := Same.new n2
    have f2 : (upd H1 a2 (.lst (m.wt.map V.int))) a2 = some (.lst (m.wt.map V.int)) := upd_same
    generalize upd H1 a2 (.lst (m.wt.map V.int)) = H2 at s2 f2 ⊢
    refine ⟨.ref b3, rfl, b3, _, rfl, .inr (SqT.of (s2 _ _ (s1 _ _ e3))), fun a3 n3 => ?_⟩
    have s3 : Same H2 (upd H2 a3 (.lst (m.hd.map V.int))) := Same.new n3
    have f3 : (upd H2 a3 (.lst (m.hd.map V.int))) a3 = some (.lst (m.hd.map V.int)) := upd_same
    generalize upd H2 a3 (.lst (m.hd.map V.int)) = H3 at s3 f3 ⊢
    refine ⟨by show 3 ≤ sizeLine; decide, fun U nU => ?_⟩
    have s4 : Same H3 (upd H3 U (.tup [.ref a1, .ref a2, .ref a3])) := Same.new nU
    have none_of : ∀ {Ha Hb : Hp} {x : Addr}, Same Ha Hb → Hb x = none → Ha x = none := fun {Ha Hb x} ss e => by
      cases e' : Ha x with
      | none => rfl
      | some o => rw [ss _ _ e'] at e; cases e
    refine q U a1 a2 a3 _ (s1.trans (s2.trans (s3.trans s4))) upd_same ⟨s4 _ _ (s3 _ _ (s2 _ _ f1)), s4 _ _ (s3 _ _ f2), s4 _ _ f3, ?_, ?_, ?_⟩ n1 (none_of s1 n2) (none_of s1 (none_of s2 n3))
    · exact ne_of_none f1 n2
    · exact ne_of_none (s2 _ _ f1) n3
    · exact ne_of_none f2 n3
def spFast : Sp := fun vs H Q _ => ∃ (a1 a2 a3 : Addr) (m : Mo), vs = [.ref a1, .ref a2, .ref a3] ∧ Laid H a1 a2 a3 m ∧ ∀ (v : V) (H' : Hp), Same H H' → Td H' v (moD m) → Q v H'
theorem ok_fastened (D : Def K mg "fastened" s_fastened ["stand", "waiting", "held"]) (B : Bi mg) : Cal P w K mg base (k + 1) "fastened" ["stand", "waiting", "held"] spFast := by
  refine D.ok sc_fastened (fun vs H Q E h => ?_) (fun f cdv A outer s H vs Q E hr h => ?_)
  · obtain ⟨a1, a2, a3, m, rfl, _⟩ := h
    rfl
  · obtain ⟨a1, a2, a3, m, rfl, la, q⟩ := h
    refine ⟨_, (pss_one (ps_ret (pe_tup (pa_cons (pe_callTy call_tuple_of rfl B.tuple_ (by decide +kernel) (pa_cons (pv 0) pa_nil)) (pa_cons (pe_callTy call_tuple_of rfl B.tuple_ (by decide +kernel) (pa_cons (pv 1) pa_nil)) (pa_cons (pe_callTy call_tuple_of rfl B.tuple_ (by decide +kernel) (pa_cons (pv 2) pa_nil)) pa_nil)))))), ?_⟩
    refine ⟨.ref a1, rfl, a1, _, rfl, .inl ⟨SqL.of la.s, fun T1 n1 => ?_⟩⟩
    have s1 : Same H (upd H T1 (.tup (m.st.map V.int))) := Same.new n1
    have f1 : (upd H T1 (.tup (m.st.map V.int))) T1 = some (.tup (m.st.map V.int)) := upd_same
    generalize upd H T1 (.tup (m.st.map V.int)) = H1 at s1 f1 ⊢
    refine ⟨.ref a2, rfl, a2, _, rfl, .inl ⟨SqL.of (s1 _ _ la.w), fun T2 n2 => ?_⟩⟩
    have s2 : Same H1 (upd H1 T2 (.tup (m.wt.map V.int))) := Same.new n2
    have f2 : (upd H1 T2 (.tup (m.wt.map V.int))) T2 = some (.tup (m.wt.map V.int)) := upd_same
    generalize upd H1 T2 (.tup (m.wt.map V.int)) = H2 at s2 f2 ⊢
    refine ⟨.ref a3, rfl, a3, _, rfl, .inl ⟨SqL.of (s2 _ _ (s1 _ _ la.h)), fun T3 n3 => ?_⟩⟩
    have s3 : Same H2 (upd H2 T3 (.tup (m.hd.map V.int))) := Same.new n3
    have f3 : (upd H2 T3 (.tup (m.hd.map V.int))) T3 = some (.tup (m.hd.map V.int)) := upd_same
    generalize upd H2 T3 (.tup (m.hd.map V.int)) = H3 at s3 f3 ⊢
    refine ⟨by show 3 ≤ sizeLine; decide, fun U nU => q (.ref U) _ (s1.trans (s2.trans (s3.trans (Same.new nU)))) ?_⟩
    exact Td.new nU (.cons (.tup (s3 _ _ (s2 _ _ f1)) (TdAll.ints _)) (.cons (.tup (s3 _ _ f2) (TdAll.ints _)) (.cons (.tup f3 (TdAll.ints _)) .nil)))
end
end K04

set_option maxRecDepth 100000
set_option maxHeartbeats 1000000
namespace K04
open PySem PySem.Spec PyProof.Rows L2 HX
theorem walkM_nil {ws : List (List (List Int))} {i : Nat} {m : Mo} : walkM ws i m [] = (none, m) := rfl
theorem walkM_stop {ws : List (List (List Int))} {i n : Nat} {m : Mo} {r : List Nat} (h : m.wt.getD n 0 = 0) : walkM ws i m (n :: r) = (some i, m) := if_pos h
theorem walkM_go {ws : List (List (List Int))} {i n : Nat} {m : Mo} {r : List Nat} (h : ¬ m.wt.getD n 0 = 0) : walkM ws i m (n :: r) = walkM ws (i + 1) (handleM ws m n) r := if_neg h
theorem Same.kp3 {H H1 H2 : Hp} {a b c : Addr} (s : Same H H1) (k : Kp (N3 a b c) H1 H2) (na : H a = none) (nb : H b = none) (nc : H c = none) : Same H H2 := fun x o e => k _ _ (s _ _ e) fun z => by
  rcases z with rfl | rfl | rfl
  · rw [na] at e; cases e
  · rw [nb] at e; cases e
  · rw [nc] at e; cases e
theorem Laid.same {H H' : Hp} {a b c : Addr} {m : Mo} (l : Laid H a b c m) (s : Same H H') : Laid H' a b c m := ⟨s _ _ l.s, s _ _ l.w, s _ _ l.h, l.nab, l.nac, l.nbc⟩
section
variable {P : Program} {w : World} {K : PySem.W.Frag} {mg : Str → Option Value} {base : Heap} {k : Nat}
def spWalk : Sp := fun vs H Q _ => ∃ (vb v : V) (r : Addr) (ws : List (List (List Int))) (c : Int) (m : Mo) (row : List Nat), vs = [vb, v, .ref r] ∧ Td H vb (boardD ws c) ∧ BoardOk ws c ∧ Td H v (moD m) ∧ MoOk ws c m ∧ RowAt H r row ∧ (∀ n ∈ row, n < ws.length) ∧
  ∀ (U : Addr) (vm : V) (H' : Hp), Same H H' → H' U = some (.tup [placeV (walkM ws 0 m row).1, vm]) → Td H' vm (moD (walkM ws 0 m row).2) → MoOk ws c (walkM ws 0 m row).2 → Q (.ref U) H'
theorem ok_walked (D : Def K mg "walked" s_walked ["board", "moment", "row"]) (B : Bi mg) (B2 : Bi2 mg) (c_loosened : Cal P w K mg base k "loosened" ["moment"] spLoose) (c_fastened : Cal P w K mg base k "fastened" ["stand", "waiting", "held"] spFast)
    (c_handle_marble : Cal P w K mg base k "handle_marble" ["board", "parts", "wheel"] spHandle) : Cal P w K mg base (k + 1) "walked" ["board", "moment", "row"] spWalk := by
  refine D.ok sc_walked (fun vs H Q E h => ?_) (fun f cdv A outer s H vs Q E hr h => ?_)
  · obtain ⟨vb, v, r, ws, c, m, row, rfl, _⟩ := h
    rfl
  · obtain ⟨vb, v, r, ws, c, m, row, rfl, tb, bok, tv, mok, er, hrow, q⟩ := h
    refine ⟨_, (pss_cons (ps_asg (pe_cal c_loosened hr rfl (pa_cons (pv 1) pa_nil)) (pg_tup rfl (pgs_cons (pg_name (i := 3) sc_walked.nd rfl (Or.inl rfl)) (pgs_cons (pg_name (i := 4) sc_walked.nd rfl (Or.inl rfl)) (pgs_cons (pg_name (i := 5) sc_walked.nd rfl (Or.inl rfl)) pgs_nil)))))
  (pss_cons (ps_for PassesOwn.never rfl (pi_enumT rfl B2.enumerate_ (pa_cons (pv 2) pa_nil)) (pg_tup rfl (pgs_cons (pg_name (i := 6) sc_walked.nd rfl (Or.inl rfl)) (pgs_cons (pg_name (i := 7) sc_walked.nd rfl (Or.inl rfl)) pgs_nil)))
  (pss_cons (ps_if (pt_cmpR op_eq (pe_ix ix_list (pv 4) (pv 7) (fun _ _ => rfl)) pe_int (nomark _))
  (pss_one (ps_ret (pe_tup (pa_cons (pv 6) (pa_cons (pe_cal c_fastened hr rfl (pa_cons (pv 3) (pa_cons (pv 4) (pa_cons (pv 5) pa_nil)))) pa_nil)))))
  pss_nil)
  (pss_one (ps_expr (pe_cal c_handle_marble hr rfl (pa_cons (pv 0) (pa_cons (pe_tup (pa_cons (pv 3) (pa_cons (pv 4) (pa_cons (pv 5) pa_nil)))) (pa_cons (pv 7) pa_nil))))))))
  (pss_one (ps_ret (pe_tup (pa_cons pe_non (pa_cons (pe_cal c_fastened hr rfl (pa_cons (pv 3) (pa_cons (pv 4) (pa_cons (pv 5) pa_nil)))) pa_nil))))))), ?_⟩
    have w1 : ∀ x ∈ ws, 1 ≤ x.length := fun x hx => (bok.wheels x hx).1
    refine ⟨v, rfl, v, m, rfl, tv, fun T a1 a2 a3 H1 s1 eT la n1 n2 n3 => ?_⟩
    refine ⟨T, _, rfl, SqT.of eT, rfl, _, _, rfl, _, _, rfl, _, _, rfl, rfl, ?_⟩
    refine ⟨.ref r, rfl, .t, r, _, rfl, (er.same s1).sq, ?_⟩
    refine for_it (walk_enumK (xs := rowV row)) (fun i σ H' => ∃ (mi : Mo) (y6 y7 : Option V), σ = [some vb, some v, some (.ref r), some (.ref a1), some (.ref a2), some (.ref a3), y6, y7] ∧ Same H H' ∧ Laid H' a1 a2 a3 mi ∧ MoOk ws c mi ∧ walkM ws 0 m row = walkM ws i mi (row.drop i)) ⟨m, none, none, rfl, s1, la, mok, rfl⟩ (fun i σ H' _ pp => ?_) (fun i x σ H' H2 hi pp y => ?_) (fun σ H' pp => ?_)
    · obtain ⟨mi, y6, y7, _, s', _⟩ := pp
      exact (er.same s').sq
    · obtain ⟨mi, y6, y7, rfl, s', l', mk', eW⟩ := pp
      obtain ⟨U, xi, xn, rfl, nU, rfl, ei, en⟩ := y
      obtain rfl := Option.some.inj ei
      have hi' : i < row.length := by
        have h := hi
        unfold rowV at h
        rw [List.length_map] at h
        exact h
      have en' : xn = .int ((row[i] : Nat) : Int) := by
        have e2 : (rowV row)[i]? = some (.int ((row[i] : Nat) : Int)) := by
          unfold rowV
          rw [List.getElem?_map, List.getElem?_eq_getElem hi']
          rfl
        exact Option.some.inj (en.symm.trans e2)
      subst en'
      have hn : row[i] < ws.length := hrow _ (List.getElem_mem hi')
      have hdrop : row.drop i = row[i] :: row.drop (i + 1) := List.drop_eq_getElem_cons hi'
      rw [hdrop] at eW
      generalize row[i] = n at hn eW en ⊢
      have sU : Same H' (upd H' U (.tup [.int (i : Nat), .int (n : Int)])) := Same.new nU
      refine ⟨U, _, rfl, SqT.of upd_same, rfl, _, _, rfl, _, _, rfl, rfl, ?_⟩
      have l2 := Laid.same l' sU
      have s2 := s'.trans sU
      generalize upd H' U (.tup [.int (i : Nat), .int (n : Int)]) = H2 at sU l2 s2 ⊢
      have hwn : n < mi.wt.length := by rw [mk'.wl]; exact hn
      refine ⟨.ref a2, rfl, .int n, rfl, a2, _, n, _, rfl, rfl, SqL.of l2.w, atI_nat (getI hwn), rfl, _, rfl, ite2 (fun g => ?_) (fun g => ?_)⟩
      · have g0 : mi.wt.getD n 0 = 0 := V.int.inj (of_decide_eq_true g)
        rw [walkM_stop g0] at eW
        refine ⟨.int (i : Nat), rfl, .ref a1, rfl, .ref a2, rfl, .ref a3, rfl, a1, a2, a3, mi, rfl, l2, fun vm H4 s4 tm => ⟨by show 2 ≤ sizeLine; decide, fun U2 nU2 => ?_⟩⟩
        refine q U2 vm _ (s2.trans (s4.trans (Same.new nU2))) ?_ ?_ ?_
        · rw [eW, upd_same]
          rfl
        · rw [eW]
          exact Td.mono (KT.new nU2) _ _ tm
        · rw [eW]
          exact mk'
      · have g0 : ¬ mi.wt.getD n 0 = 0 := fun z => g (decide_eq_true (congrArg V.int z))
        rw [walkM_go g0] at eW
        have gp : 0 < mi.wt.getD n 0 := by
          have := getD_nn (i := n) mk'.wn
          omega
        refine ⟨vb, rfl, .ref a1, rfl, .ref a2, rfl, .ref a3, rfl, by show 3 ≤ sizeLine; decide, fun p np => ?_⟩
        have sp : Same H2 (upd H2 p (.tup [.ref a1, .ref a2, .ref a3])) := Same.new np
        refine ⟨.int n, rfl, vb, p, a1, a2, a3, n, ws, c, mi, rfl, Td.mono (KT.same (s2.trans sp)) _ _ tb, bok, upd_same, Laid.same l2 sp, mk'.toMoF, hn, fun H5 k5 l5 => ?_⟩
        exact ⟨handleM ws mi n, some (.int (i : Nat)), some (.int (n : Int)), rfl, Same.kp3 (s2.trans sp) k5 n1 n2 n3, l5, mk'.handle w1 gp, eW⟩
    · obtain ⟨mi, y6, y7, rfl, s', l', mk', eW⟩ := pp
      have hd : row.drop (rowV row).length = [] := by
        unfold rowV
        rw [List.length_map]
        exact List.drop_length ..
      rw [hd, walkM_nil] at eW
      refine ⟨.ref a1, rfl, .ref a2, rfl, .ref a3, rfl, a1, a2, a3, mi, rfl, l', fun vm H4 s4 tm => ⟨by show 2 ≤ sizeLine; decide, fun U2 nU2 => ?_⟩⟩
      refine q U2 vm _ (s'.trans (s4.trans (Same.new nU2))) ?_ ?_ ?_
      · rw [eW, upd_same]
        rfl
      · rw [eW]
        exact Td.mono (KT.new nU2) _ _ tm
      · rw [eW]
        exact mk'
def spBehind : Sp := fun vs H Q _ => ∃ (vb v : V) (r : Addr) (ws : List (List (List Int))) (c : Int) (m : Mo) (row : List Nat), vs = [vb, v, .ref r] ∧ Td H vb (boardD ws c) ∧ BoardOk ws c ∧ Td H v (moD m) ∧ MoOk ws c m ∧ RowAt H r row ∧ row.length ≤ 1000 ∧ (∀ n ∈ row, n < ws.length) ∧
  (walkM ws 0 m row).1 = none ∧ ∀ (vm : V) (H' : Hp), Same H H' → Td H' vm (moD (walkM ws 0 m row).2) → MoOk ws c (walkM ws 0 m row).2 → Q vm H'
theorem ok_behind (D : Def K mg "behind" s_behind ["board", "moment", "row"]) (c_need_moment : Cal P w K mg base k "need_moment" ["board", "thing"] spNeedMom) (c_need_row : Cal P w K mg base k "need_row" ["board", "thing"] spNeedRow)
    (c_walked : Cal P w K mg base k "walked" ["board", "moment", "row"] spWalk) : Cal P w K mg base (k + 1) "behind" ["board", "moment", "row"] spBehind := by
  refine D.ok sc_behind (fun vs H Q E h => ?_) (fun f cdv A outer s H vs Q E hr h => ?_)
  · obtain ⟨vb, v, r, ws, c, m, row, rfl, _⟩ := h
    rfl
  · obtain ⟨vb, v, r, ws, c, m, row, rfl, tb, bok, tv, mok, er, hz, hrow, hno, q⟩ := h
    refine ⟨_, (pss_cons (ps_expr (pe_cal c_need_moment hr rfl (pa_cons (pv 0) (pa_cons (pv 1) pa_nil))))
  (pss_cons (ps_expr (pe_cal c_need_row hr rfl (pa_cons (pv 0) (pa_cons (pv 2) pa_nil))))
  (pss_cons (ps_asg (pe_cal c_walked hr rfl (pa_cons (pv 0) (pa_cons (pv 1) (pa_cons (pv 2) pa_nil)))) (pg_tup rfl (pgs_cons (pg_name (i := 3) sc_behind.nd rfl (Or.inl rfl)) (pgs_cons (pg_name (i := 4) sc_behind.nd rfl (Or.inl rfl)) pgs_nil))))
  (pss_cons (ps_if (pt_cmpR op_notN (pv 3) pe_non (nomark _))
  (pss_one ps_never)
  pss_nil)
  (pss_one (ps_ret (pv 4))))))), ?_⟩
    refine ⟨vb, rfl, v, rfl, vb, v, ws, c, m, rfl, tb, bok, tv, mok, fun H1 s1 => ?_⟩
    refine ⟨vb, rfl, .ref r, rfl, vb, r, ws, c, row, rfl, Td.mono (KT.same s1) _ _ tb, er.same s1, hz, hrow, fun H2 s2 => ?_⟩
    have s12 := s1.trans s2
    refine ⟨vb, rfl, v, rfl, .ref r, rfl, vb, v, r, ws, c, m, row, rfl, Td.mono (KT.same s12) _ _ tb, bok, Td.mono (KT.same s12) _ _ tv, mok, er.same s12, hrow, fun U vm H3 s3 eU tm mk => ?_⟩
    rw [hno] at eU
    refine ⟨U, _, rfl, SqT.of eU, rfl, _, _, rfl, _, _, rfl, rfl, ?_⟩
    refine ⟨.non, rfl, rfl, _, rfl, ?_⟩
    exact iteF ⟨vm, rfl, q vm H3 (s12.trans s3) tm mk⟩
end
end K04

set_option maxRecDepth 100000
set_option maxHeartbeats 1000000
namespace K04
open PySem PySem.Spec PyProof.Rows L2 HX
abbrev s_first_wrong : Stmt := topS 47
theorem sc_first_wrong : FnScope ["board", "moment", "row"] ["board", "moment", "row"] (defScope s_first_wrong) := ⟨rfl, rfl, rfl, by decide +kernel, rfl, by decide +kernel, by decide +kernel⟩
abbrev s_is_let : Stmt := topS 48
theorem sc_is_let : FnScope ["board", "moment", "row"] ["board", "moment", "row"] (defScope s_is_let) := ⟨rfl, rfl, rfl, by decide +kernel, rfl, by decide +kernel, by decide +kernel⟩
section
variable {P : Program} {w : World} {K : PySem.W.Frag} {mg : Str → Option Value} {base : Heap} {k : Nat}
/-! ### first_wrong, is_let; a marble handled where one waits -/
def spWrong (p : Option Nat → V) : Sp := fun vs H Q _ => ∃ (vb v : V) (r : Addr) (ws : List (List (List Int))) (c : Int) (m : Mo) (row : List Nat), vs = [vb, v, .ref r] ∧ Td H vb (boardD ws c) ∧ BoardOk ws c ∧ Td H v (moD m) ∧ MoOk ws c m ∧ RowAt H r row ∧ row.length ≤ 1000 ∧ (∀ n ∈ row, n < ws.length) ∧
  ∀ H', Same H H' → Q (p (walkM ws 0 m row).1) H'
theorem ok_first_wrong (D : Def K mg "first_wrong" s_first_wrong ["board", "moment", "row"]) (c_need_moment : Cal P w K mg base k "need_moment" ["board", "thing"] spNeedMom) (c_need_row : Cal P w K mg base k "need_row" ["board", "thing"] spNeedRow)
    (c_walked : Cal P w K mg base k "walked" ["board", "moment", "row"] spWalk) : Cal P w K mg base (k + 1) "first_wrong" ["board", "moment", "row"] (spWrong placeV) := by
  refine D.ok sc_first_wrong (fun vs H Q E h => ?_) (fun f cdv A outer s H vs Q E hr h => ?_)
  · obtain ⟨vb, v, r, ws, c, m, row, rfl, _⟩ := h
    rfl
  · obtain ⟨vb, v, r, ws, c, m, row, rfl, tb, bok, tv, mok, er, hz, hrow, q⟩ := h
    refine ⟨_, (pss_cons (ps_expr (pe_cal c_need_moment hr rfl (pa_cons (pv 0) (pa_cons (pv 1) pa_nil))))
  (pss_cons (ps_expr (pe_cal c_need_row hr rfl (pa_cons (pv 0) (pa_cons (pv 2) pa_nil))))
  (pss_one (ps_ret (pe_ix ix_tup (pe_cal c_walked hr rfl (pa_cons (pv 0) (pa_cons (pv 1) (pa_cons (pv 2) pa_nil)))) pe_int (fun _ _ => rfl)))))), ?_⟩
    refine ⟨vb, rfl, v, rfl, vb, v, ws, c, m, rfl, tb, bok, tv, mok, fun H1 s1 => ?_⟩
    refine ⟨vb, rfl, .ref r, rfl, vb, r, ws, c, row, rfl, Td.mono (KT.same s1) _ _ tb, er.same s1, hz, hrow, fun H2 s2 => ?_⟩
    have s12 := s1.trans s2
    refine ⟨vb, rfl, v, rfl, .ref r, rfl, vb, v, r, ws, c, m, row, rfl, Td.mono (KT.same s12) _ _ tb, bok, Td.mono (KT.same s12) _ _ tv, mok, er.same s12, hrow, fun U vm H3 s3 eU tm mk => ?_⟩
    exact ⟨U, _, 0, _, rfl, rfl, SqT.of eU, atI_nat (j := 0) rfl, q H3 (s12.trans s3)⟩
theorem ok_is_let (D : Def K mg "is_let" s_is_let ["board", "moment", "row"]) (c_first_wrong : Cal P w K mg base k "first_wrong" ["board", "moment", "row"] (spWrong placeV)) : Cal P w K mg base (k + 1) "is_let" ["board", "moment", "row"] (spWrong fun o => .bl o.isNone) := by
  refine D.ok sc_is_let (fun vs H Q E h => ?_) (fun f cdv A outer s H vs Q E hr h => ?_)
  · obtain ⟨vb, v, r, ws, c, m, row, rfl, _⟩ := h
    rfl
  · obtain ⟨vb, v, r, ws, c, m, row, rfl, tb, bok, tv, mok, er, hz, hrow, q⟩ := h
    refine ⟨_, (pss_one (ps_ret (pe_cmpR op_isN (pe_cal c_first_wrong hr rfl (pa_cons (pv 0) (pa_cons (pv 1) (pa_cons (pv 2) pa_nil)))) pe_non (nomark _)))), ?_⟩
    refine ⟨vb, rfl, v, rfl, .ref r, rfl, vb, v, r, ws, c, m, row, rfl, tb, bok, tv, mok, er, hz, hrow, fun H1 s1 => ⟨rfl, ?_⟩⟩
    have e : decide (placeV (walkM ws 0 m row).1 = V.non) = (walkM ws 0 m row).1.isNone := by
      cases (walkM ws 0 m row).1 with
      | none => rfl
      | some i => rfl
    rw [e]
    exact q H1 s1
end
end K04

set_option maxRecDepth 100000
set_option maxHeartbeats 1000000
namespace K04
open PySem PySem.Spec PyProof.Rows L2 HX
abbrev s_counts_of : Stmt := topS 50
theorem sc_counts_of : FnScope ["board", "row", "wheel"] ["board", "row"] (defScope s_counts_of) := ⟨rfl, rfl, rfl, by decide +kernel, rfl, by decide +kernel, by decide +kernel⟩
abbrev s__law_pick : Stmt := topS 55
theorem sc__law_pick : FnScope ["_law_pen_here", "_law_some"] ["_law_pen_here", "_law_some"] (defScope s__law_pick) := ⟨rfl, rfl, rfl, by decide +kernel, rfl, by decide +kernel, by decide +kernel⟩
abbrev s__law_handle : Stmt := topS 60
theorem sc__law_handle : FnScope ["_law_board_here", "_law_moment_here", "_law_wheel", "_law_wheels", "_law_cups", "_law_stand", "_law_waiting", "_law_held", "_law_end", "_law_row"] ["_law_board_here", "_law_moment_here", "_law_wheel"] (defScope s__law_handle) := ⟨rfl, rfl, rfl, by decide +kernel, rfl, by decide +kernel, by decide +kernel⟩
abbrev s__law_ready : Stmt := topS 61
theorem sc__law_ready : FnScope ["_law_moment_here", "_law_wheel", "_law_many"] ["_law_moment_here"] (defScope s__law_ready) := ⟨rfl, rfl, rfl, by decide +kernel, rfl, by decide +kernel, by decide +kernel⟩
abbrev s__law_let_row : Stmt := topS 62
theorem sc__law_let_row : FnScope ["_law_pen_here", "_law_board_here", "_law_moment_here", "_law_most", "_law_row", "_law_turn", "_law_some"] ["_law_pen_here", "_law_board_here", "_law_moment_here", "_law_most"] (defScope s__law_let_row) := ⟨rfl, rfl, rfl, by decide +kernel, rfl, by decide +kernel, by decide +kernel⟩
def countsOf (W : Nat) (row : List Nat) : List Int := (List.range W).map fun n => ((row.count n : Nat) : Int)
theorem count_cast (row : List Nat) (n : Nat) : (row.map fun n : Nat => (n : Int)).count (n : Int) = row.count n := by
  induction row with
  | nil => rfl
  | cons a r ih =>
    rw [List.map_cons, List.count_cons, List.count_cons, ih]
    congr 1
    by_cases e : a = n
    · subst e
      simp
    · have : ¬ (a : Int) = (n : Int) := fun z => e (by omega)
      simp [e, this]
def readyM (wt : List Int) : List Nat := (List.range wt.length).filter fun n => decide (wt.getD n 0 > 0)
section
variable {P : Program} {w : World} {K : PySem.W.Frag} {mg : Str → Option Value} {base : Heap} {k : Nat}
def spCounts : Sp := fun vs H Q _ => ∃ (vb : V) (r : Addr) (ws : List (List (List Int))) (c : Int) (row : List Nat), vs = [vb, .ref r] ∧ Td H vb (boardD ws c) ∧ BoardOk ws c ∧ RowF H r row ∧ row.length ≤ 1000 ∧ (∀ n ∈ row, n < ws.length) ∧
  ∀ (T : Addr) (H' : Hp), Same H H' → H' T = some (.tup ((countsOf ws.length row).map V.int)) → Q (.ref T) H'
theorem ok_counts_of (D : Def K mg "counts_of" s_counts_of ["board", "row"]) (B : Bi mg) (c_need_board : Cal P w K mg base k "need_board" ["thing"] spNeed) (c_need_row : Cal P w K mg base k "need_row" ["board", "thing"] spNeedRow) :
    Cal P w K mg base (k + 1) "counts_of" ["board", "row"] spCounts := by
  refine D.ok sc_counts_of (fun vs H Q E h => ?_) (fun f cdv A outer s H vs Q E hr h => ?_)
  · obtain ⟨vb, r, ws, c, row, rfl, _⟩ := h
    rfl
  · obtain ⟨vb, r, ws, c, row, rfl, tb, bok, er, hz, hrow, q⟩ := h
    refine ⟨_, (pss_cons (ps_expr (pe_cal c_need_board hr rfl (pa_cons (pv 0) pa_nil)))
  (pss_cons (ps_expr (pe_cal c_need_row hr rfl (pa_cons (pv 0) (pa_cons (pv 1) pa_nil))))
  (pss_one (ps_ret (pe_callTy call_tuple_of rfl B.tuple_ (by decide +kernel) (pa_cons (pe_lc (own := [("wheel", 2)]) rfl sc_counts_of.nd (pi_range1 rfl B.range_ (pa_cons (pe_callB call_len_seq rfl B.len_ (by decide +kernel) (pa_cons (pe_ix ix_tup (pv 0) pe_int (fun _ _ => rfl)) pa_nil)) pa_nil)) (blkOk_by (N := ["board", "row", "wheel"]) (sc := defScope s_counts_of) (by decide +kernel)) (fun _ _ _ _ _ => (pg_name (i := 2) sc_counts_of.nd rfl (Or.inl rfl))) (fun _ _ _ _ _ => pts_nil) (fun _ _ _ _ _ => (pe_bmT PySem.F.plainAttrs_tuple PySem.F.slot_tuple_count PySem.F.type_tuple_count (mt_tcountK (K := K)) (pv 1) (pa_cons (pv 2) pa_nil)))) pa_nil)))))), ?_⟩
    have w6 := bok.w6
    refine ⟨vb, rfl, _, vb, ws, c, rfl, Td.daF tb, bok, fun H1 s1 => ?_⟩
    refine ⟨vb, rfl, .ref r, rfl, vb, r, ws, c, row, rfl, Td.mono (KT.same s1) _ _ tb, .inr (er.same s1), hz, hrow, fun H2 s2 => ?_⟩
    have s12 := s1.trans s2
    obtain ⟨ab, aw, ys, rfl, eb, ew, hy⟩ := Td.boardOf (Td.mono (KT.same s12) _ _ tb)
    have hl : ys.length = ws.length := by rw [hy.len, List.length_map]
    dsimp only
    refine s_ret (s_cb1 ?_)
    refine lc_intsG (J := Itr 0 ys.length) (n := ys.length) walk_range (fun n => ((row.count n : Nat) : Int)) (fun R r' => ⟨.ref ab, rfl, ab, _, 0, _, rfl, rfl, SqT.of eb, atI_nat (j := 0) rfl, aw, ys, rfl, .inr (SqT.of ew), _, rfl, by omega, by omega, r'⟩) (by omega) (fun _ _ => trivial) (fun i x H3 H4 hi s3 y Q' q' => ?_) (fun D H3 s3 eD nD => ?_)
    · obtain ⟨rfl, rfl⟩ := y
      have er3 := er.same (s12.trans s3)
      obtain ⟨o, od, eo⟩ := id er3
      refine ⟨wipe1 _, .ref r, rfl, ⟨r, o, _, rfl, eo, od⟩, .int (0 + (i : Int)), rfl, r, row.map (fun n : Nat => (n : Int)), (i : Int), rfl, congrArg (fun z => [V.int z]) (Int.zero_add _), ?_, ?_⟩
      · rw [List.map_map]
        exact RowAt.sq (.inr er3)
      · rw [count_cast]
        exact q' _ (Same.refl _)
    · refine ⟨D, _, rfl, .inl ⟨SqL.of eD, fun T nT => ?_⟩⟩
      refine q T _ (s12.trans (s3.trans (Same.new nT))) ?_
      rw [upd_same, hl]
      rfl
def spPick : Sp := fun vs H Q _ => ∃ (pn L : Addr) (xs : List V) (m : Nat), vs = [.ref pn, .ref L] ∧ H L = some (.lst xs) ∧ L ≠ pn ∧ 0 < xs.length ∧ xs.length ≤ 1000 ∧ PenAt H pn (m + 1) ∧ ∀ (i : Nat) (x : V) (H' : Hp), xs[i]? = some x → Kp (· = pn) H H' → PenAt H' pn m → Q x H'
theorem ok_pick (D : Def K mg "_law_pick" s__law_pick ["_law_pen_here", "_law_some"]) (B : Bi mg) (c__law_draw : Cal P w K mg base k "_law_draw" ["_law_pen_here", "_law_many"] spDraw) : Cal P w K mg base (k + 1) "_law_pick" ["_law_pen_here", "_law_some"] spPick := by
  refine D.ok sc__law_pick (fun vs H Q E h => ?_) (fun f cdv A outer s H vs Q E hr h => ?_)
  · obtain ⟨pn, L, xs, m, rfl, _⟩ := h
    rfl
  · obtain ⟨pn, L, xs, m, rfl, eL, nL, x0, x1, pen, q⟩ := h
    refine ⟨_, (pss_one (ps_ret (pe_ix ix_list (pv 1) (pe_cal c__law_draw hr rfl (pa_cons (pv 0) (pa_cons (pe_callB call_len_seq rfl B.len_ (by decide +kernel) (pa_cons (pv 1) pa_nil)) pa_nil))) (fun _ _ => rfl)))), ?_⟩
    refine ⟨.ref L, rfl, .ref pn, rfl, .ref L, rfl, L, xs, rfl, .inl (SqL.of eL), pn, _, m, rfl, by omega, by omega, pen, fun r H1 r0 r1 k1 pen1 => ?_⟩
    obtain ⟨n, rfl⟩ : ∃ n : Nat, r = (n : Int) := ⟨r.toNat, by omega⟩
    have hn : n < xs.length := by omega
    exact ⟨L, xs, n, xs[n], rfl, rfl, SqL.of (k1 _ _ eL nL), atI_nat (List.getElem?_eq_getElem hn), q n _ H1 (List.getElem?_eq_getElem hn) k1 pen1⟩
def spReady : Sp := fun vs H Q _ => ∃ (v : V) (m : Mo), vs = [v] ∧ Td H v (moD m) ∧ m.wt.length ≤ 1000 ∧ ∀ (D : Addr) (H' : Hp), Same H H' → H' D = some (.lst (rowV (readyM m.wt))) → H D = none → Q (.ref D) H'
theorem ok_ready (D : Def K mg "_law_ready" s__law_ready ["_law_moment_here"]) (B2 : Bi2 mg) : Cal P w K mg base (k + 1) "_law_ready" ["_law_moment_here"] spReady := by
  refine D.ok sc__law_ready (fun vs H Q E h => ?_) (fun f cdv A outer s H vs Q E hr h => ?_)
  · obtain ⟨v, m, rfl, _⟩ := h
    rfl
  · obtain ⟨v, m, rfl, tv, hz, q⟩ := h
    refine ⟨_, (pss_one (ps_ret (pe_lc (own := [("_law_wheel", 1), ("_law_many", 2)]) rfl sc__law_ready.nd (pi_enumT rfl B2.enumerate_ (pa_cons (pe_ix ix_tup (pv 0) pe_int (fun _ _ => rfl)) pa_nil)) (blkOk_by (N := ["_law_moment_here", "_law_wheel", "_law_many"]) (sc := defScope s__law_ready) (by decide +kernel)) (fun _ _ _ _ _ => (pg_tupK (K := K) (n := 2) rfl (pgs_cons (pg_name (i := 1) sc__law_ready.nd rfl (Or.inl rfl)) (pgs_cons (pg_name (i := 2) sc__law_ready.nd rfl (Or.inl rfl)) pgs_nil)))) (fun _ _ _ _ _ => (pts_one (pt_cmpR op_gt (pv 2) pe_int (nomark _)))) (fun _ _ _ _ _ => (pv 1))))), ?_⟩
    obtain ⟨T, b1, b2, b3, rfl, eT, e1, e2, e3⟩ := moD_of tv
    refine ⟨.ref T, rfl, T, _, 1, _, rfl, rfl, SqT.of eT, atI_nat (j := 1) rfl, .t, b2, _, rfl, SqT.of e2, fun D hD => ?_⟩
    refine lc_it (walk_enumK (xs := m.wt.map V.int)) (fun i H' => Same H H' ∧ H' D = some (.lst (rowV ((List.range i).filter fun n => decide (m.wt.getD n 0 > 0))))) ⟨Same.new hD, by rw [upd_same]; rfl⟩ (fun i H' _ h => SqT.of (h.1 _ _ e2)) (fun i x H1 H2 hi h y => ?_) (fun H' h => ?_)
    · obtain ⟨s1, eD⟩ := h
      obtain ⟨U, x1, x2, rfl, nU, rfl, f1, f2⟩ := y
      obtain rfl := Option.some.inj f1
      have hi' : i < m.wt.length := by
        rw [List.length_map] at hi
        exact hi
      have f2' : (m.wt.map V.int)[i]? = some x2 := f2
      rw [getI hi'] at f2'
      obtain rfl := Option.some.inj f2'
      have sU : Same H1 (upd H1 U (.tup [.int (i : Nat), .int (m.wt.getD i 0)])) := Same.new nU
      refine ⟨U, _, rfl, SqT.of upd_same, rfl, _, _, rfl, _, _, rfl, rfl, wipe2 (by decide) _ _, .int (m.wt.getD i 0), rfl, _, 0, rfl, rfl, _, rfl, ite2 (fun g => ?_) (fun g => ?_)⟩
      · refine ⟨.int (i : Nat), rfl, _, sU _ _ eD, ?_, fun c o e => ?_, ?_⟩
        · unfold rowV
          rw [List.length_map]
          have hf := List.length_filter_le (fun n => decide (m.wt.getD n 0 > 0)) (List.range i)
          rw [List.length_range] at hf
          exact small1000 (by omega)
        · rw [upd_ne (ne_of_none e hD)]
          exact sU _ _ (s1 _ _ e)
        · rw [upd_same, List.range_succ, List.filter_append]
          have : ([i].filter fun n => decide (m.wt.getD n 0 > 0)) = [i] := by
            rw [List.filter_cons, if_pos g]
            rfl
          rw [this]
          unfold rowV
          rw [List.map_append]
          rfl
      · refine ⟨s1.trans sU, ?_⟩
        rw [List.range_succ, List.filter_append]
        have : ([i].filter fun n => decide (m.wt.getD n 0 > 0)) = [] := by
          rw [List.filter_cons, if_neg g]
          rfl
        rw [this, List.append_nil]
        exact sU _ _ eD
    · refine q D H' h.1 ?_ hD
      rw [h.2, List.length_map]
      rfl
end
end K04

set_option maxRecDepth 100000
set_option maxHeartbeats 1000000
namespace K04
open PySem PySem.Spec PyProof.Rows L2 HX
section
variable {P : Program} {w : World} {K : PySem.W.Frag} {mg : Str → Option Value} {base : Heap} {k : Nat}
def spHandled : Sp := fun vs H Q _ => ∃ (vb v : V) (n : Nat) (ws : List (List (List Int))) (c : Int) (m : Mo), vs = [vb, v, .int n] ∧ Td H vb (boardD ws c) ∧ BoardOk ws c ∧ Td H v (moD m) ∧ MoF ws c m ∧ n < ws.length ∧ ∀ (v' : V) (H' : Hp), Same H H' → Td H' v' (moD (handleM ws m n)) → Q v' H'
theorem ok_handled (D : Def K mg "_law_handle" s__law_handle ["_law_board_here", "_law_moment_here", "_law_wheel"]) (B : Bi mg) : Cal P w K mg base (k + 1) "_law_handle" ["_law_board_here", "_law_moment_here", "_law_wheel"] spHandled := by
  refine D.ok sc__law_handle (fun vs H Q E h => ?_) (fun f cdv A outer s H vs Q E hr h => ?_)
  · obtain ⟨vb, v, n, ws, c, m, rfl, _⟩ := h
    rfl
  · obtain ⟨vb, v, n, ws, c, m, rfl, tb, bok, tv, mf, hn, q⟩ := h
    refine ⟨_, (pss_cons (ps_asg (pv 0) (pg_tup rfl (pgs_cons (pg_name (i := 3) sc__law_handle.nd rfl (Or.inl rfl)) (pgs_cons (pg_name (i := 4) sc__law_handle.nd rfl (Or.inl rfl)) pgs_nil))))
  (pss_cons (ps_asg (pe_lc (own := [("_law_row", 9)]) rfl sc__law_handle.nd (pi_tup (pv 1)) (blkOk_by (N := ["_law_board_here", "_law_moment_here", "_law_wheel", "_law_wheels", "_law_cups", "_law_stand", "_law_waiting", "_law_held", "_law_end", "_law_row"]) (sc := defScope s__law_handle) (by decide +kernel)) (fun _ _ _ _ _ => (pg_name (i := 9) sc__law_handle.nd rfl (Or.inl rfl))) (fun _ _ _ _ _ => pts_nil) (fun _ _ _ _ _ => (pe_callTy (call_list_ofK (K := K)) rfl B.list_ (by decide +kernel) (pa_cons (pv 9) pa_nil)))) (pg_unl rfl (pgs_cons (pg_name (i := 5) sc__law_handle.nd rfl (Or.inl rfl)) (pgs_cons (pg_name (i := 6) sc__law_handle.nd rfl (Or.inl rfl)) (pgs_cons (pg_name (i := 7) sc__law_handle.nd rfl (Or.inl rfl)) pgs_nil)))))
  (pss_cons (ps_asg (pe_op op_sub (pe_ix ix_list (pv 6) (pv 2) (fun _ _ => rfl)) pe_int) (pg_sub (pv 6) (pv 2) set_list))
  (pss_cons (ps_for PassesOwn.never rfl (pi_tup (pe_ix ix_tup (pe_ix ix_tup (pv 3) (pv 2) (fun _ _ => rfl)) (pe_ix ix_list (pv 5) (pv 2) (fun _ _ => rfl)) (fun _ _ => rfl))) (pg_name (i := 8) sc__law_handle.nd rfl (Or.inl rfl))
  (pss_one (ps_if (pt_cmpR op_ge (pv 8) (pe_callB call_len_seq rfl B.len_ (by decide +kernel) (pa_cons (pv 3) pa_nil)) (nomark _))
  (pss_one (ps_asg (pe_op op_add (pe_ix ix_list (pv 7) (pe_op op_sub (pv 8) (pe_callB call_len_seq rfl B.len_ (by decide +kernel) (pa_cons (pv 3) pa_nil))) (fun _ _ => rfl)) pe_int) (pg_sub (pv 7) (pe_op op_sub (pv 8) (pe_callB call_len_seq rfl B.len_ (by decide +kernel) (pa_cons (pv 3) pa_nil))) set_list)))
  (pss_one (ps_asg (pe_op op_add (pe_ix ix_list (pv 6) (pv 8) (fun _ _ => rfl)) pe_int) (pg_sub (pv 6) (pv 8) set_list))))))
  (pss_cons (ps_asg (pe_op op_add (pe_ix ix_list (pv 5) (pv 2) (fun _ _ => rfl)) pe_int) (pg_sub (pv 5) (pv 2) set_list))
  (pss_cons (ps_if (pt_cmpR op_eq (pe_ix ix_list (pv 5) (pv 2) (fun _ _ => rfl)) (pe_callB call_len_seq rfl B.len_ (by decide +kernel) (pa_cons (pe_ix ix_tup (pv 3) (pv 2) (fun _ _ => rfl)) pa_nil)) (nomark _))
  (pss_one (ps_asg pe_int (pg_sub (pv 5) (pv 2) set_list)))
  pss_nil)
  (pss_one (ps_ret (pe_tup (pa_cons (pe_callTy call_tuple_of rfl B.tuple_ (by decide +kernel) (pa_cons (pv 5) pa_nil)) (pa_cons (pe_callTy call_tuple_of rfl B.tuple_ (by decide +kernel) (pa_cons (pv 6) pa_nil)) (pa_cons (pe_callTy call_tuple_of rfl B.tuple_ (by decide +kernel) (pa_cons (pv 7) pa_nil)) pa_nil)))))))))))), ?_⟩
    obtain ⟨ab, aw, ys, rfl, eb, ew, hy⟩ := Td.boardOf tb
    obtain ⟨TM, b1, b2, b3, rfl, eT, f1, f2, f3⟩ := moD_of tv
    have hl : ys.length = ws.length := by rw [hy.len, List.length_map]
    obtain ⟨az, zs, ey, ez, hz⟩ := hy.wheelAt hn
    have ewn : ws[n]? = some (ws.getD n []) := by rw [List.getD_eq_getElem?_getD, List.getElem?_eq_getElem hn]; rfl
    have esn : m.st[n]? = some (m.st.getD n 0) := by rw [List.getD_eq_getElem?_getD, List.getElem?_eq_getElem (by rw [mf.sl]; exact hn)]; rfl
    obtain ⟨s0, s1⟩ := mf.sr n _ _ esn ewn
    obtain ⟨x1, x4, wok⟩ := bok.wheels _ (List.mem_of_getElem? ewn)
    generalize hst : m.st.getD n 0 = sv at esn s0 s1
    obtain ⟨sn, rfl⟩ : ∃ sn : Nat, sv = (sn : Int) := ⟨sv.toNat, by omega⟩
    have hsn : sn < (ws.getD n []).length := by omega
    obtain ⟨ae, ee, ees⟩ := hz.stepAt hsn
    have hends : endsAt ws m.st n = (ws.getD n []).getD sn [] := by
      unfold endsAt
      rw [hst]
      rfl
    have eok := wok ((ws.getD n []).getD sn []) (List.mem_of_getElem? (show (ws.getD n [])[sn]? = some _ by rw [List.getD_eq_getElem?_getD (l := ws.getD n []) (i := sn), List.getElem?_eq_getElem hsn]; rfl))
    have hzl : zs.length = (ws.getD n []).length := by rw [hz.len, List.length_map]
    have hwl := mf.wl
    have hhl := mf.hl
    have none_of : ∀ {Ha Hb : Hp} {x : Addr}, Same Ha Hb → Hb x = none → Ha x = none := fun {Ha Hb x} ss e => by
      cases e' : Ha x with
      | none => rfl
      | some o => rw [ss _ _ e'] at e; cases e
    -- wheels, cups
    refine ⟨.ref ab, rfl, ab, _, rfl, SqT.of eb, rfl, _, _, rfl, _, _, rfl, rfl, ?_⟩
    -- the three lists
    refine ⟨.ref TM, rfl, TM, rfl, ⟨_, SqT.of eT⟩, fun L nL => ?_⟩
    refine lc_tup (xs := [V.ref b1, .ref b2, .ref b3]) (fun i H' => Same H H' ∧ ∃ as : List Addr, as.length = i ∧ H' L = some (.lst (as.map V.ref)) ∧ (∀ a ∈ as, H a = none) ∧ (∀ a ∈ as, a ≠ L) ∧ as.Nodup ∧
      (∀ (j : Nat) (a : Addr) (l : List Int), as[j]? = some a → [m.st, m.wt, m.hd][j]? = some l → H' a = some (.lst (l.map V.int)))) ⟨Same.new nL, [], rfl, upd_same, (fun _ z => nomatch z), (fun _ z => nomatch z), List.nodup_nil, fun j a l e => by simp at e⟩ (fun i H' _ h => SqT.of (h.1 _ _ eT)) (fun i x H' hi h => ?_) (fun H' h => ?_)
    · obtain ⟨s', as, al, eL, an, aL, nd, av⟩ := h
      have hi3 : i < 3 := (List.getElem?_eq_some_iff.mp hi).1
      obtain ⟨b, l, hb, hbl, hil⟩ : ∃ (b : Addr) (l : List Int), x = .ref b ∧ H b = some (.tup (l.map V.int)) ∧ [m.st, m.wt, m.hd][i]? = some l := by
        match i, hi3, hi with
        | 0, _, hi => exact ⟨b1, m.st, (Option.some.inj hi).symm, f1, rfl⟩
        | 1, _, hi => exact ⟨b2, m.wt, (Option.some.inj hi).symm, f2, rfl⟩
        | 2, _, hi => exact ⟨b3, m.hd, (Option.some.inj hi).symm, f3, rfl⟩
      subst hb
      refine ⟨wipe1 _, tYes_eq (iteT ⟨.ref b, rfl, b, _, rfl, .inr (SqT.of (s' _ _ hbl)), fun a na => ?_⟩)⟩
      have naL : a ≠ L := fun z => by rw [z, eL] at na; cases na
      have naA : ∀ a' ∈ as, a' ≠ a := fun a' ha' z => by
        obtain ⟨j, hj⟩ := List.mem_iff_getElem?.mp ha'
        have hj' : j < 3 := by
          have := (List.getElem?_eq_some_iff.mp hj).1
          omega
        have hlj : [m.st, m.wt, m.hd][j]? = some ([m.st, m.wt, m.hd][j]'(by simpa using hj')) := List.getElem?_eq_getElem (by simpa using hj')
        rw [z] at hj
        rw [av j a _ hj hlj] at na
        cases na
      refine ⟨as.map V.ref, by rw [upd_ne naL.symm]; exact eL, by rw [List.length_map]; exact small1000 (by omega), fun c o e => ?_, as ++ [a], ?_, ?_, ?_, ?_, ?_, ?_⟩
      · have hcL : c ≠ L := ne_of_none e nL
        have hca : c ≠ a := ne_of_none (s' _ _ e) na
        rw [upd_ne hcL, upd_ne hca]
        exact s' _ _ e
      · rw [List.length_append, al]
        rfl
      · rw [upd_same, List.map_append]
        rfl
      · intro a' ha'
        rcases List.mem_append.mp ha' with ha' | ha'
        · exact an a' ha'
        · rw [List.mem_singleton.mp ha']
          exact none_of s' na
      · intro a' ha'
        rcases List.mem_append.mp ha' with ha' | ha'
        · exact aL a' ha'
        · rw [List.mem_singleton.mp ha']
          exact naL
      · rw [List.nodup_append]
        exact ⟨nd, List.nodup_cons.mpr ⟨(fun z => nomatch z), List.nodup_nil⟩, fun x hx y hy => by rw [List.mem_singleton.mp hy]; exact naA x hx⟩
      · intro j a' l' e1 e2
        have hja : a' ∈ as ++ [a] := List.mem_of_getElem? e1
        have haL' : a' ≠ L := by
          rcases List.mem_append.mp hja with ha' | ha'
          · exact aL a' ha'
          · rw [List.mem_singleton.mp ha']
            exact naL
        rw [upd_ne haL']
        by_cases hlt : j < as.length
        · rw [List.getElem?_append_left hlt] at e1
          rw [upd_ne (naA a' (List.mem_of_getElem? e1))]
          exact av j a' l' e1 e2
        · rw [List.getElem?_append_right (by omega)] at e1
          have h0 : j - as.length = 0 := by
            have := (List.getElem?_eq_some_iff.mp e1).1
            simp at this
            omega
          rw [h0] at e1
          have e3 : a = a' := by simpa using e1
          have e4 : j = i := by omega
          subst e3 e4
          rw [hil] at e2
          rw [← Option.some.inj e2, upd_same]
    · obtain ⟨s', as, al, eL, an, aL, nd, av⟩ := h
      obtain ⟨a1, a2, a3, rfl⟩ : ∃ a1 a2 a3, as = [a1, a2, a3] := by
        match as, al with
        | [x, y, z], _ => exact ⟨x, y, z, rfl⟩
      have la : Laid H' a1 a2 a3 m := ⟨av 0 a1 m.st rfl rfl, av 1 a2 m.wt rfl rfl, av 2 a3 m.hd rfl rfl, fun z => by simp [z] at nd, fun z => by simp [z] at nd, fun z => by simp [z] at nd⟩
      have n1 := an a1 (by simp)
      have n2 := an a2 (by simp)
      have n3 := an a3 (by simp)
      refine ⟨L, _, rfl, SqL.of eL, rfl, _, _, rfl, _, _, rfl, _, _, rfl, rfl, ?_⟩
      -- waiting[wheel] = waiting[wheel] - 1
      refine ⟨.ref a2, rfl, .int n, rfl, a2, _, n, _, rfl, rfl, SqL.of la.w, atI_nat (getI (by omega)), _, 1, rfl, rfl, .ref a2, rfl, .int n, rfl, a2, _, n, n, rfl, rfl, la.w, ixN_nat (by rw [List.length_map]; omega), ?_⟩
      rw [setI]
      have k1 : Kp (N3 a1 a2 a3) H' (upd H' a2 (.lst ((m.wt.set n (m.wt.getD n 0 - 1)).map V.int))) := Kp.put (.inr (.inl rfl))
      have hb1 : m.wt.set n (m.wt.getD n 0 - 1) = bump m.wt n (-1) := rfl
      rw [hb1] at k1 ⊢
      have l1 : Laid (upd H' a2 (.lst ((bump m.wt n (-1)).map V.int))) a1 a2 a3 ⟨m.st, bump m.wt n (-1), m.hd⟩ := ⟨by rw [upd_ne la.nab]; exact la.s, upd_same, by rw [upd_ne la.nbc.symm]; exact la.h, la.nab, la.nac, la.nbc⟩
      have kt1 := (KT.same s').trans (la.kt k1)
      generalize upd H' a2 (.lst ((bump m.wt n (-1)).map V.int)) = H1 at k1 l1 kt1 ⊢
      -- the ends
      refine ⟨.ref aw, rfl, .int n, rfl, aw, _, n, _, rfl, rfl, SqT.of (kt1 _ _ ew), atI_nat ey, .ref a1, rfl, .int n, rfl, a1, _, n, .int sn, rfl, rfl, SqL.of l1.s, atI_nat (by rw [getI (by rw [mf.sl]; exact hn), hst]), az, _, sn, _, rfl, rfl, SqT.of (kt1 _ _ ez), atI_nat ee, ae, rfl, ⟨_, SqT.of (kt1 _ _ ees)⟩, ?_⟩
      refine for_tup (xs := ((ws.getD n []).getD sn []).map V.int) (fun i σ Hi => ∃ y : Option V, σ = [some (.ref ab), some (.ref TM), some (.int n), some (.ref aw), some (.int c), some (.ref a1), some (.ref a2), some (.ref a3), y, none] ∧ Kp (N3 a1 a2 a3) H' Hi ∧
        Laid Hi a1 a2 a3 ⟨m.st, ((((ws.getD n []).getD sn []).take i).foldl (sendM ws.length) (bump m.wt n (-1), m.hd)).1, ((((ws.getD n []).getD sn []).take i).foldl (sendM ws.length) (bump m.wt n (-1), m.hd)).2⟩) ⟨none, rfl, k1, l1⟩ (fun i σ Hi _ pp => ?_) (fun i x σ Hi hx pp => ?_) (fun σ Hi pp => ?_)
      · obtain ⟨y, _, k', _⟩ := pp
        exact SqT.of (la.kt k' _ _ (s' _ _ ees))
      · obtain ⟨y, rfl, k', l'⟩ := pp
        rw [List.getElem?_map] at hx
        cases ex : ((ws.getD n []).getD sn [])[i]? with
        | none => rw [ex] at hx; cases hx
        | some e =>
          rw [ex] at hx
          cases hx
          obtain ⟨e0, e1⟩ := eok.2 e (List.mem_of_getElem? ex)
          obtain ⟨sl1, sl2⟩ := send_len ws.length (((ws.getD n []).getD sn []).take i) (bump m.wt n (-1), m.hd)
          rw [bump_len] at sl1
          have tk : ((ws.getD n []).getD sn []).take (i + 1) = ((ws.getD n []).getD sn []).take i ++ [e] := by rw [List.take_add_one, ex]; rfl
          have fold1 : (((ws.getD n []).getD sn []).take (i + 1)).foldl (sendM ws.length) (bump m.wt n (-1), m.hd) = sendM ws.length ((((ws.getD n []).getD sn []).take i).foldl (sendM ws.length) (bump m.wt n (-1), m.hd)) e := by rw [tk, List.foldl_append]; rfl
          rw [fold1]
          generalize (((ws.getD n []).getD sn []).take i).foldl (sendM ws.length) (bump m.wt n (-1), m.hd) = pr at l' sl1 sl2 ⊢
          obtain ⟨pw, ph⟩ := pr
          have sl1' : pw.length = m.wt.length := sl1
          have sl2' : ph.length = m.hd.length := sl2
          have ew' := la.kt k' _ _ (s' _ _ ew)
          obtain ⟨en, rfl⟩ : ∃ en : Nat, e = (en : Int) := ⟨e.toNat, by omega⟩
          refine ⟨.int en, rfl, .ref aw, rfl, aw, ys, rfl, .inr (SqT.of ew'), en, _, rfl, rfl, _, rfl, ite2 (fun g => ?_) (fun g => ?_)⟩
          · have g1 : (ys.length : Int) ≤ (en : Int) := of_decide_eq_true g
            have g' : ¬ (en : Int) < (ws.length : Int) := by omega
            have hs : sendM ws.length (pw, ph) en = (pw, bump ph (en - ws.length) 1) := by
              unfold sendM
              rw [if_neg g', show ((en : Int) - (ws.length : Int)).toNat = en - ws.length by omega]
            rw [hs]
            have ei : (en : Int) - (ys.length : Int) = ((en - ws.length : Nat) : Int) := by omega
            have hph : en - ws.length < ph.length := by omega
            refine ⟨.ref a3, rfl, .int en, rfl, .ref aw, rfl, aw, ys, rfl, .inr (SqT.of ew'), _, _, rfl, rfl, a3, _, _, _, rfl, congrArg V.int ei, SqL.of l'.h, atI_nat (getI hph), _, 1, rfl, rfl, .ref a3, rfl, .int en, rfl, .ref aw, rfl, aw, ys, rfl, .inr (SqT.of ew'), _, _, rfl, rfl, a3, _, _, en - ws.length, rfl, congrArg V.int ei, l'.h, ixN_nat (by rw [List.length_map]; exact hph), ?_⟩
            rw [setI]
            exact ⟨some (.int en), rfl, k'.trans (Kp.put (.inr (.inr rfl))), ⟨by rw [upd_ne l'.nac]; exact l'.s, by rw [upd_ne l'.nbc]; exact l'.w, upd_same, l'.nab, l'.nac, l'.nbc⟩⟩
          · have g' : (en : Int) < (ws.length : Int) := by
              have : ¬ (ys.length : Int) ≤ (en : Int) := fun z => g (decide_eq_true z)
              omega
            have hs : sendM ws.length (pw, ph) en = (bump pw en 1, ph) := by
              unfold sendM
              rw [if_pos g']
              rfl
            rw [hs]
            have hpw : en < pw.length := by omega
            refine ⟨.ref a2, rfl, .int en, rfl, a2, _, en, _, rfl, rfl, SqL.of l'.w, atI_nat (getI hpw), _, 1, rfl, rfl, .ref a2, rfl, .int en, rfl, a2, _, en, en, rfl, rfl, l'.w, ixN_nat (by rw [List.length_map]; exact hpw), ?_⟩
            rw [setI]
            exact ⟨some (.int en), rfl, k'.trans (Kp.put (.inr (.inl rfl))), ⟨by rw [upd_ne l'.nab]; exact l'.s, upd_same, by rw [upd_ne l'.nbc.symm]; exact l'.h, l'.nab, l'.nac, l'.nbc⟩⟩
      · -- the stand
        obtain ⟨y, rfl, k', l'⟩ := pp
        rw [List.length_map, List.take_length] at l'
        have ew' := la.kt k' _ _ (s' _ _ ew)
        have ez' := la.kt k' _ _ (s' _ _ ez)
        have hns : n < m.st.length := by rw [mf.sl]; exact hn
        refine ⟨.ref a1, rfl, .int n, rfl, a1, _, n, .int sn, rfl, rfl, SqL.of l'.s, atI_nat (by rw [getI hns, hst]), sn, 1, rfl, rfl, .ref a1, rfl, .int n, rfl, a1, _, n, n, rfl, rfl, l'.s, ixN_nat (by rw [List.length_map]; exact hns), ?_⟩
        rw [setI]
        have k2 : Kp (N3 a1 a2 a3) H' (upd Hi a1 (.lst ((m.st.set n ((sn : Int) + 1)).map V.int))) := k'.trans (Kp.put (.inl rfl))
        have l2 : Laid (upd Hi a1 (.lst ((m.st.set n ((sn : Int) + 1)).map V.int))) a1 a2 a3 ⟨m.st.set n ((sn : Int) + 1), (sentM ws m n).1, (sentM ws m n).2⟩ := ⟨upd_same, by rw [upd_ne l'.nab.symm]; unfold sentM; rw [hends]; exact l'.w, by rw [upd_ne l'.nac.symm]; unfold sentM; rw [hends]; exact l'.h, l'.nab, l'.nac, l'.nbc⟩
        have ew2 := la.kt k2 _ _ (s' _ _ ew)
        have ez2 := la.kt k2 _ _ (s' _ _ ez)
        generalize upd Hi a1 (.lst ((m.st.set n ((sn : Int) + 1)).map V.int)) = H2 at k2 l2 ew2 ez2 ⊢
        have hns2 : n < (m.st.set n ((sn : Int) + 1)).length := by rw [List.length_set]; exact hns
        have hg2 : (m.st.set n ((sn : Int) + 1)).getD n 0 = (sn : Int) + 1 := by
          rw [List.getD_eq_getElem?_getD, List.getElem?_set_self hns]
          rfl
        -- the end
        have fin : ∀ (H3 : Hp), Kp (N3 a1 a2 a3) H' H3 → Laid H3 a1 a2 a3 (handleM ws m n) → ∀ T1, H3 T1 = none → ∀ T2, upd H3 T1 (.tup ((handleM ws m n).st.map V.int)) T2 = none → ∀ T3, upd (upd H3 T1 (.tup ((handleM ws m n).st.map V.int))) T2 (.tup ((handleM ws m n).wt.map V.int)) T3 = none →
            ∀ U, upd (upd (upd H3 T1 (.tup ((handleM ws m n).st.map V.int))) T2 (.tup ((handleM ws m n).wt.map V.int))) T3 (.tup ((handleM ws m n).hd.map V.int)) U = none → Q (.ref U) (upd (upd (upd (upd H3 T1 (.tup ((handleM ws m n).st.map V.int))) T2 (.tup ((handleM ws m n).wt.map V.int))) T3 (.tup ((handleM ws m n).hd.map V.int))) U (.tup [.ref T1, .ref T2, .ref T3])) := by
          intro H3 k3 l3 T1 nT1 T2 nT2 T3 nT3 U nU
          have sA : Same H3 (upd H3 T1 (.tup ((handleM ws m n).st.map V.int))) := Same.new nT1
          have sB := Same.new (o := .tup ((handleM ws m n).wt.map V.int)) nT2
          have sC := Same.new (o := .tup ((handleM ws m n).hd.map V.int)) nT3
          have sD := Same.new (o := .tup [.ref T1, .ref T2, .ref T3]) nU
          have s3 : Same H H3 := Same.kp3 s' k3 n1 n2 n3
          refine q (.ref U) _ (s3.trans (sA.trans (sB.trans (sC.trans sD)))) (Td.new nU (.cons (.tup (sC _ _ (sB _ _ upd_same)) (TdAll.ints _)) (.cons (.tup (sC _ _ upd_same) (TdAll.ints _)) (.cons (.tup upd_same (TdAll.ints _)) .nil))))
        have ret : ∀ (H3 : Hp), Kp (N3 a1 a2 a3) H' H3 → Laid H3 a1 a2 a3 (handleM ws m n) → Same H H3 := fun H3 k3 _ => Same.kp3 s' k3 n1 n2 n3
        have hst' : (handleM ws m n).st = m.st.set n (((sn : Int) + 1) % ((ws.getD n []).length : Int)) := by
          unfold handleM
          rw [hst]
        refine ⟨.ref a1, rfl, .int n, rfl, a1, _, n, .int ((sn : Int) + 1), rfl, rfl, SqL.of l2.s, atI_nat (by rw [getI hns2, hg2]), .ref aw, rfl, .int n, rfl, aw, _, n, _, rfl, rfl, SqT.of ew2, atI_nat ey, az, zs, rfl, .inr (SqT.of ez2), rfl, _, rfl, ite2 (fun g => ?_) (fun g => ?_)⟩
        · have ge : (sn : Int) + 1 = (zs.length : Int) := V.int.inj (of_decide_eq_true g)
          refine ⟨.ref a1, rfl, .int n, rfl, a1, _, n, n, rfl, rfl, l2.s, ixN_nat (by rw [List.length_map]; exact hns2), ?_⟩
          rw [setI, List.set_set]
          have h0 : ((sn : Int) + 1) % ((ws.getD n []).length : Int) = 0 := by rw [ge, hzl]; exact Int.emod_self
          have k3 : Kp (N3 a1 a2 a3) H' (upd H2 a1 (.lst ((m.st.set n 0).map V.int))) := k2.trans (Kp.put (.inl rfl))
          have l3 : Laid (upd H2 a1 (.lst ((m.st.set n 0).map V.int))) a1 a2 a3 (handleM ws m n) := ⟨by rw [hst', h0]; exact upd_same, by rw [upd_ne l2.nab.symm]; exact l2.w, by rw [upd_ne l2.nac.symm]; exact l2.h, l2.nab, l2.nac, l2.nbc⟩
          generalize upd H2 a1 (.lst ((m.st.set n 0).map V.int)) = H3 at k3 l3 ⊢
          exact ⟨.ref a1, rfl, a1, _, rfl, .inl ⟨SqL.of l3.s, fun T1 nT1 => ⟨.ref a2, rfl, a2, _, rfl, .inl ⟨SqL.of (by rw [upd_ne (ne_of_none l3.w nT1)]; exact l3.w), fun T2 nT2 => ⟨.ref a3, rfl, a3, _, rfl, .inl ⟨SqL.of (Same.new nT2 _ _ (Same.new nT1 _ _ l3.h)), fun T3 nT3 => ⟨by show 3 ≤ sizeLine; decide, fun U nU => fin H3 k3 l3 T1 nT1 T2 nT2 T3 nT3 U nU⟩⟩⟩⟩⟩⟩⟩
        · have gn : ¬ (sn : Int) + 1 = (zs.length : Int) := fun z => g (decide_eq_true (congrArg V.int z))
          have h0 : ((sn : Int) + 1) % ((ws.getD n []).length : Int) = (sn : Int) + 1 := Int.emod_eq_of_lt (by omega) (by omega)
          have l3 : Laid H2 a1 a2 a3 (handleM ws m n) := ⟨by rw [hst', h0]; exact l2.s, l2.w, l2.h, l2.nab, l2.nac, l2.nbc⟩
          exact ⟨.ref a1, rfl, a1, _, rfl, .inl ⟨SqL.of l3.s, fun T1 nT1 => ⟨.ref a2, rfl, a2, _, rfl, .inl ⟨SqL.of (by rw [upd_ne (ne_of_none l3.w nT1)]; exact l3.w), fun T2 nT2 => ⟨.ref a3, rfl, a3, _, rfl, .inl ⟨SqL.of (Same.new nT2 _ _ (Same.new nT1 _ _ l3.h)), fun T3 nT3 => ⟨by show 3 ≤ sizeLine; decide, fun U nU => fin H2 k2 l3 T1 nT1 T2 nT2 T3 nT3 U nU⟩⟩⟩⟩⟩⟩⟩
end
end K04

set_option maxRecDepth 100000
set_option maxHeartbeats 1000000
namespace K04
open PySem PySem.Spec PyProof.Rows L2 HX
theorem walkM_snoc {ws : List (List (List Int))} {n : Nat} {m1 : Mo} (h : ¬ m1.wt.getD n 0 = 0) : ∀ (row : List Nat) (i : Nat) (m : Mo), walkM ws i m row = (none, m1) → walkM ws i m (row ++ [n]) = (none, handleM ws m1 n)
  | [], i, m, e => by
    have e1 : m = m1 := congrArg Prod.snd e
    subst e1
    exact walkM_go h
  | a :: r, i, m, e => by
    by_cases g : m.wt.getD a 0 = 0
    · rw [walkM_stop g] at e
      cases e
    · rw [walkM_go g] at e
      rw [List.cons_append, walkM_go g]
      exact walkM_snoc h r (i + 1) _ e
theorem rowV_len {row : List Nat} : (rowV row).length = row.length := List.length_map ..
theorem ready_mem {wt : List Int} {n : Nat} (h : n ∈ readyM wt) : n < wt.length ∧ 0 < wt.getD n 0 := by
  unfold readyM at h
  rw [List.mem_filter, List.mem_range] at h
  exact ⟨h.1, of_decide_eq_true h.2⟩
section
variable {P : Program} {w : World} {K : PySem.W.Frag} {mg : Str → Option Value} {base : Heap} {k : Nat}
def spLet : Sp := fun vs H Q _ => ∃ (pn : Addr) (vb v : V) (most mm : Nat) (ws : List (List (List Int))) (c : Int) (m : Mo), vs = [.ref pn, vb, v, .int most] ∧ most ≤ 900 ∧ Td H vb (boardD ws c) ∧ BoardOk ws c ∧ Td H v (moD m) ∧ MoOk ws c m ∧ PenAt H pn (mm + most) ∧
  ∀ (U r : Addr) (vm : V) (row : List Nat) (m' : Mo) (H' : Hp), Kp (· = pn) H H' → PenAt H' pn mm → H' U = some (.tup [.ref r, vm]) → RowF H' r row → row.length ≤ most → (∀ n ∈ row, n < ws.length) → walkM ws 0 m row = (none, m') → Td H' vm (moD m') → MoOk ws c m' → Q (.ref U) H'
theorem ok_let (D : Def K mg "_law_let_row" s__law_let_row ["_law_pen_here", "_law_board_here", "_law_moment_here", "_law_most"]) (B : Bi mg) (c__law_ready : Cal P w K mg base k "_law_ready" ["_law_moment_here"] spReady) (c__law_pick : Cal P w K mg base k "_law_pick" ["_law_pen_here", "_law_some"] spPick)
    (c__law_handle : Cal P w K mg base k "_law_handle" ["_law_board_here", "_law_moment_here", "_law_wheel"] spHandled) : Cal P w K mg base (k + 1) "_law_let_row" ["_law_pen_here", "_law_board_here", "_law_moment_here", "_law_most"] spLet := by
  refine D.ok sc__law_let_row (fun vs H Q E h => ?_) (fun f cdv A outer s H vs Q E hr h => ?_)
  · obtain ⟨pn, vb, v, most, mm, ws, c, m, rfl, _⟩ := h
    rfl
  · obtain ⟨pn, vb, v, most, mm, ws, c, m, rfl, hmost, tb, bok, tv, mok, pen, q⟩ := h
    refine ⟨_, (pss_cons (ps_set (i := 4) sc__law_let_row.nd rfl (Or.inl rfl) (pe_lst pa_nil))
  (pss_cons (ps_for PassesOwn.never rfl (pi_range1 rfl B.range_ (pa_cons (pv 3) pa_nil)) (pg_name (i := 5) sc__law_let_row.nd rfl (Or.inl rfl))
  (pss_cons (ps_set (i := 6) sc__law_let_row.nd rfl (Or.inl rfl) (pe_cal c__law_ready hr rfl (pa_cons (pv 2) pa_nil)))
  (pss_one (ps_if (pt_cmpR (op_neD (hu64 hr)) (pv 6) (pe_lst pa_nil) (nomark _))
  (pss_cons (ps_expr (pe_bm PySem.F.plainAttrs_list PySem.F.slot_list_append PySem.F.type_list_append mt_append (pv 4) (pa_cons (pe_cal c__law_pick hr rfl (pa_cons (pv 0) (pa_cons (pv 6) pa_nil))) pa_nil)))
  (pss_one (ps_set (i := 2) sc__law_let_row.nd rfl (Or.inl rfl) (pe_cal c__law_handle hr rfl (pa_cons (pv 1) (pa_cons (pv 2) (pa_cons (pe_ix ix_list (pv 4) (pe_un un_neg pe_int) (fun _ _ => rfl)) pa_nil)))))))
  pss_nil))))
  (pss_one (ps_ret (pe_tup (pa_cons (pe_callTy call_tuple_frz rfl B.tuple_ (by decide +kernel) (pa_cons (pv 4) pa_nil)) (pa_cons (pv 2) pa_nil))))))), ?_⟩
    have w1 : ∀ x ∈ ws, 1 ≤ x.length := fun x hx => (bok.wheels x hx).1
    have w6 := bok.w6
    refine ⟨by show 0 ≤ sizeLine; decide, fun L nL => ?_⟩
    have nLp := pen.ne nL
    have k0 : Kp (· = pn) H (upd H L (.lst [])) := Kp.new nL
    refine ⟨.int most, rfl, _, rfl, by omega, by omega, ?_⟩
    refine for_range (n := _) (fun i σ Hi => ∃ (row : List Nat) (mi : Mo) (vm : V) (y5 y6 : Option V), σ = [some (.ref pn), some vb, some vm, some (.int most), some (.ref L), y5, y6] ∧ Kp (· = pn) H Hi ∧ PenAt Hi pn (mm + (most - i)) ∧ Hi L = some (.lst (rowV row)) ∧ Td Hi vm (moD mi) ∧ MoOk ws c mi ∧ walkM ws 0 m row = (none, mi) ∧ row.length ≤ i ∧ ∀ n ∈ row, n < ws.length) ?_ (fun i σ Hi hi pp => ?_) (fun σ Hi pp => ?_)
    · exact ⟨[], m, v, none, none, rfl, k0, (pen.new nL), upd_same, Td.mono (KT.new nL) _ _ tv, mok, rfl, Nat.le_refl _, fun _ z => nomatch z⟩
    · obtain ⟨row, mi, vm, y5, y6, rfl, ki, peni, eL, tm, mk, eW, hlen, hrow⟩ := pp
      have hi' : i < most := by omega
      refine ⟨vm, rfl, vm, mi, rfl, tm, by rw [mk.wl]; omega, fun D2 H2 s2 eD nD => ?_⟩
      have tb2 : Td H2 vb (boardD ws c) := Td.mono ((pen.kt ki).trans (KT.same s2)) _ _ tb
      have pen2 := peni.same s2
      have nDp : D2 ≠ pn := peni.ne nD
      have nDL : D2 ≠ L := fun z => by rw [z, eL] at nD; cases nD
      refine ⟨.ref D2, rfl, by show 0 ≤ sizeLine; decide, fun E2 nE => ?_⟩
      have sE : Same H2 (upd H2 E2 (.lst [])) := Same.new nE
      refine ⟨.list ((readyM mi.wt).map fun n : Nat => PyData.int (n : Int)), .list [], .lst (SqL.of (sE _ _ eD)) (dp_row _), .lst (SqL.of upd_same) .nil, shaped_row _, rfl, _, rfl, ?_⟩
      have s3 : Same Hi (upd H2 E2 (.lst [])) := s2.trans sE
      have eD3 := sE _ _ eD
      have pen3 := pen2.same sE
      have tb3 := Td.mono (KT.same sE) _ _ tb2
      generalize upd H2 E2 (.lst []) = H3 at s3 eD3 pen3 tb3 ⊢
      cases er : readyM mi.wt with
      | nil =>
        exact iteF ⟨row, mi, vm, some (.int (0 + (i : Int))), some (.ref D2), rfl, ki.trans (Kp.of s3), pen3.less (by omega), s3 _ _ eL, Td.mono (KT.same s3) _ _ tm, mk, eW, by omega, hrow⟩
      | cons n0 rest =>
        rw [er] at eD3
        have hrl : (n0 :: rest).length ≤ 6 := by
          rw [← er]
          have h1 := List.length_filter_le (fun n => decide (mi.wt.getD n 0 > 0)) (List.range mi.wt.length)
          rw [List.length_range] at h1
          have h2 := mk.wl
          exact Nat.le_trans h1 (by omega)
        refine iteT ?_
        have eL3 := s3 _ _ eL
        refine ⟨.ref L, rfl, .inl ⟨rfl, _, SqL.of eL3⟩, .ref pn, rfl, .ref D2, rfl, pn, D2, _, mm + (most - i) - 1, rfl, eD3, nDp, by rw [rowV_len]; exact Nat.succ_pos _, by rw [rowV_len]; omega, pen3.less (by omega), fun j x H4 hx k4 pen4 => ?_⟩
        obtain ⟨n, hn, rfl⟩ : ∃ n, n ∈ n0 :: rest ∧ x = .int ((n : Nat) : Int) := by
          unfold rowV at hx
          rw [List.getElem?_map] at hx
          cases e1 : (n0 :: rest)[j]? with
          | none => rw [e1] at hx; cases hx
          | some n => rw [e1] at hx; cases hx; exact ⟨n, List.mem_of_getElem? e1, rfl⟩
        rw [← er] at hn
        obtain ⟨hn1, hn2⟩ := ready_mem hn
        rw [mk.wl] at hn1
        have eL4 := k4 _ _ eL3 nLp
        refine ⟨L, _, _, rfl, rfl, eL4, by rw [rowV_len]; exact small1000 (by omega), ?_⟩
        have hrv : rowV row ++ [V.int ((n : Nat) : Int)] = rowV (row ++ [n]) := by
          unfold rowV
          rw [List.map_append]
          rfl
        rw [hrv]
        have k5 : Kp (· = pn) H (upd H4 L (.lst (rowV (row ++ [n])))) := ((ki.trans (Kp.of s3)).trans k4).mut nL
        have pen5 : PenAt (upd H4 L (.lst (rowV (row ++ [n])))) pn (mm + (most - i) - 1) := pen4.put nLp
        have kt5 : KT Hi (upd H4 L (.lst (rowV (row ++ [n])))) := ((KT.same s3).trans (pen3.kt k4)).trans (KT.put eL4)
        have kt35 : KT H3 (upd H4 L (.lst (rowV (row ++ [n])))) := (pen3.kt k4).trans (KT.put eL4)
        have eL5 : upd H4 L (.lst (rowV (row ++ [n]))) L = some (.lst (rowV (row ++ [n]))) := upd_same
        generalize upd H4 L (.lst (rowV (row ++ [n]))) = H5 at k5 pen5 kt5 kt35 eL5 ⊢
        have hat : atI (rowV (row ++ [n])) (-1) = some (.int ((n : Nat) : Int)) := by
          rw [← hrv]
          exact atI_last ..
        refine ⟨vb, rfl, vm, rfl, .ref L, rfl, 1, rfl, L, _, -1, _, rfl, rfl, SqL.of eL5, hat, vb, vm, n, ws, c, mi, rfl, Td.mono kt35 _ _ tb3, bok, Td.mono kt5 _ _ tm, mk.toMoF, hn1, fun v' H6 s6 t6 => ?_⟩
        refine ⟨row ++ [n], handleM ws mi n, v', some (.int (0 + (i : Int))), some (.ref D2), rfl, k5.trans (Kp.of s6), (pen5.same s6).less (by omega), s6 _ _ eL5, t6, mk.handle w1 hn2, walkM_snoc (by omega) row 0 m eW, by rw [List.length_append]; exact Nat.succ_le_succ hlen, fun x hx => ?_⟩
        rcases List.mem_append.mp hx with hx | hx
        · exact hrow x hx
        · rw [List.mem_singleton.mp hx]
          exact hn1
    · obtain ⟨row, mi, vm, y5, y6, rfl, ki, peni, eL, tm, mk, eW, hlen, hrow⟩ := pp
      refine ⟨.ref L, rfl, L, _, rfl, SqL.of eL, fun r o nr od => ⟨vm, rfl, by show 2 ≤ sizeLine; decide, fun U nU => ?_⟩⟩
      have sr : Same Hi (upd Hi r (.frz o (.tup (rowV row)))) := Same.new nr
      have sU := Same.new (o := .tup [.ref r, vm]) nU
      refine q U r vm row mi _ (ki.trans (Kp.of (sr.trans sU))) (((peni.same sr).same sU).less (by omega)) upd_same ⟨o, od, sU _ _ upd_same⟩ (by omega) hrow eW (Td.mono (KT.same (sr.trans sU)) _ _ tm) mk
end
end K04

set_option maxRecDepth 100000
set_option maxHeartbeats 1000000
namespace K04
open PySem PySem.Spec PyProof.Rows L2 L2H HX
abbrev s__law_word : Stmt := topS 56
theorem sc__law_word : FnScope ["_law_e", "_law_some", "_law_words", "_law_word_here"] ["_law_e"] (defScope s__law_word) := ⟨rfl, rfl, rfl, by decide +kernel, rfl, by decide +kernel, by decide +kernel⟩
abbrev s__law_said : Stmt := topS 57
theorem sc__law_said : FnScope ["_law_call", "_law_e"] ["_law_call"] (defScope s__law_said) := ⟨rfl, rfl, rfl, by decide +kernel, rfl, by decide +kernel, by decide +kernel⟩
def tIs (K : PySem.W.Frag) (Dc a c : Addr) : TE := tCB (rIsE K Dc a) (tCons (tVar 0) (tCons (tC (.ref c)) tNil))
theorem is_one {K : PySem.W.Frag} {Dc a : Addr} {C : Nat → Addr} {i j : Nat} (E : EF K C Dc i) (hj : j < 21) {σ : L2.St} {H : Hp} {Q : VK} (hs : σ[0]? = some (some (.ref a))) (q : Q (.bl (decide (j = i))) H) : tIs K Dc a (C j) σ H Q :=
  ⟨.ref a, hs, .ref (C j), .ref (C j), _, rfl, fun u r => r, E.is j hj, q⟩
theorem marks_take {i m : Nat} (h : m < 21) : (marks i).take (m + 1) = (marks i).take m ++ [.bl (decide (m = i))] := by
  have e : (marks i)[m]? = some (.bl (decide (m = i))) := by
    unfold marks
    rw [List.getElem?_map, List.getElem?_range h]
    rfl
  rw [List.take_add_one, e]
  rfl
theorem cat4 {K : PySem.W.Frag} {Dc a L : Addr} {C : Nat → Addr} {i m : Nat} (E : EF K C Dc i) (hm : m + 4 ≤ 21) {σ : L2.St} {H : Hp} {Q : VK} (h0 : σ[0]? = some (some (.ref a))) (h1 : σ[1]? = some (some (.ref L))) (eL : H L = some (.lst ((marks i).take m)))
    (q : ∀ L' H', Same H H' → H' L' = some (.lst ((marks i).take (m + 4))) → H L' = none → Q (.ref L') H') :
    tOp rCat (tVar 1) (tLst (tCons (tIs K Dc a (C m)) (tCons (tIs K Dc a (C (m + 1))) (tCons (tIs K Dc a (C (m + 2))) (tCons (tIs K Dc a (C (m + 3))) tNil))))) σ H Q := by
  refine ⟨.ref L, h1, is_one E (by omega) h0 (is_one E (by omega) h0 (is_one E (by omega) h0 (is_one E (by omega) h0 ⟨by show 4 ≤ sizeLine; decide, fun M n => ?_⟩)))⟩
  have sM : Same H (upd H M (.lst [.bl (decide (m = i)), .bl (decide (m + 1 = i)), .bl (decide (m + 2 = i)), .bl (decide (m + 3 = i))])) := Same.new n
  refine ⟨L, M, _, _, rfl, rfl, sM _ _ eL, upd_same, ?_, fun p np => q p _ (sM.trans (Same.new np)) ?_ ?_⟩
  · rw [List.length_take]
    show _ + 4 ≤ sizeLine
    have : min m (marks i).length ≤ m := Nat.min_le_left ..
    exact Nat.le_of_lt (small1000 (by omega))
  · rw [upd_same, show m + 4 = m + 3 + 1 by omega, marks_take (by omega), show m + 3 = m + 2 + 1 by omega, marks_take (by omega), show m + 2 = m + 1 + 1 by omega, marks_take (by omega), marks_take (by omega)]
    simp only [List.append_assoc, List.cons_append, List.nil_append]
  · cases e : H p with
    | none => rfl
    | some o => rw [sM _ _ e] at np; cases np
section
variable {P : Program} {w : World} {K : PySem.W.Frag} {mg : Str → Option Value} {base : Heap} {k : Nat} {C : Nat → Addr}
/-! ### the word of an error -/
theorem ok_word (D : Def K mg "_law_word" s__law_word ["_law_e"]) (B : Bi mg) (B4 : Bi4 mg) (G : Cls21 mg C) : CalE P w K mg base (k + 1) "_law_word" "_law_e" (spWord K C) := by
  refine D.okE sc__law_word (fun f cdv A outer s H p cls d Q hz hf hr h => ?_)
  obtain ⟨Dc, i, rfl, rfl, hi, E, q⟩ := h
  have hp : (p.1, p.2) ∈ [p] := List.mem_singleton.mpr rfl
  refine ⟨_, (pss_cons (ps_set (i := 1) sc__law_word.nd rfl (Or.inl rfl) (pe_lst (pa_cons (pe_callB (call_isP hp E.ec hz hf) rfl B.isinstance_ (by decide +kernel) (pa_cons (pv 0) (pa_cons (pe_glob (v := .ref _) rfl G.NoBoard rfl) pa_nil))) (pa_cons (pe_callB (call_isP hp E.ec hz hf) rfl B.isinstance_ (by decide +kernel) (pa_cons (pv 0) (pa_cons (pe_glob (v := .ref _) rfl G.NoStand rfl) pa_nil))) (pa_cons (pe_callB (call_isP hp E.ec hz hf) rfl B.isinstance_ (by decide +kernel) (pa_cons (pv 0) (pa_cons (pe_glob (v := .ref _) rfl G.NoMoment rfl) pa_nil))) (pa_cons (pe_callB (call_isP hp E.ec hz hf) rfl B.isinstance_ (by decide +kernel) (pa_cons (pv 0) (pa_cons (pe_glob (v := .ref _) rfl G.NoWheel rfl) pa_nil))) pa_nil))))))
  (pss_cons (ps_set (i := 1) sc__law_word.nd rfl (Or.inl rfl) (pe_op op_cat (pv 1) (pe_lst (pa_cons (pe_callB (call_isP hp E.ec hz hf) rfl B.isinstance_ (by decide +kernel) (pa_cons (pv 0) (pa_cons (pe_glob (v := .ref _) rfl G.NotNow rfl) pa_nil))) (pa_cons (pe_callB (call_isP hp E.ec hz hf) rfl B.isinstance_ (by decide +kernel) (pa_cons (pv 0) (pa_cons (pe_glob (v := .ref _) rfl G.NoRow rfl) pa_nil))) (pa_cons (pe_callB (call_isP hp E.ec hz hf) rfl B.isinstance_ (by decide +kernel) (pa_cons (pv 0) (pa_cons (pe_glob (v := .ref _) rfl G.NoDrain rfl) pa_nil))) (pa_cons (pe_callB (call_isP hp E.ec hz hf) rfl B.isinstance_ (by decide +kernel) (pa_cons (pv 0) (pa_cons (pe_glob (v := .ref _) rfl G.NoDrops rfl) pa_nil))) pa_nil)))))))
  (pss_cons (ps_set (i := 1) sc__law_word.nd rfl (Or.inl rfl) (pe_op op_cat (pv 1) (pe_lst (pa_cons (pe_callB (call_isP hp E.ec hz hf) rfl B.isinstance_ (by decide +kernel) (pa_cons (pv 0) (pa_cons (pe_glob (v := .ref _) rfl G.NoAgain rfl) pa_nil))) (pa_cons (pe_callB (call_isP hp E.ec hz hf) rfl B.isinstance_ (by decide +kernel) (pa_cons (pv 0) (pa_cons (pe_glob (v := .ref _) rfl G.NoNumber rfl) pa_nil))) (pa_cons (pe_callB (call_isP hp E.ec hz hf) rfl B.isinstance_ (by decide +kernel) (pa_cons (pv 0) (pa_cons (pe_glob (v := .ref _) rfl G.NoLinks rfl) pa_nil))) (pa_cons (pe_callB (call_isP hp E.ec hz hf) rfl B.isinstance_ (by decide +kernel) (pa_cons (pv 0) (pa_cons (pe_glob (v := .ref _) rfl G.NoMouths rfl) pa_nil))) pa_nil)))))))
  (pss_cons (ps_set (i := 1) sc__law_word.nd rfl (Or.inl rfl) (pe_op op_cat (pv 1) (pe_lst (pa_cons (pe_callB (call_isP hp E.ec hz hf) rfl B.isinstance_ (by decide +kernel) (pa_cons (pv 0) (pa_cons (pe_glob (v := .ref _) rfl G.NoWord rfl) pa_nil))) (pa_cons (pe_callB (call_isP hp E.ec hz hf) rfl B.isinstance_ (by decide +kernel) (pa_cons (pv 0) (pa_cons (pe_glob (v := .ref _) rfl G.NotAlike rfl) pa_nil))) (pa_cons (pe_callB (call_isP hp E.ec hz hf) rfl B.isinstance_ (by decide +kernel) (pa_cons (pv 0) (pa_cons (pe_glob (v := .ref _) rfl G.NoFault rfl) pa_nil))) (pa_cons (pe_callB (call_isP hp E.ec hz hf) rfl B.isinstance_ (by decide +kernel) (pa_cons (pv 0) (pa_cons (pe_glob (v := .ref _) rfl G.NoSeen rfl) pa_nil))) pa_nil)))))))
  (pss_cons (ps_set (i := 1) sc__law_word.nd rfl (Or.inl rfl) (pe_op op_cat (pv 1) (pe_lst (pa_cons (pe_callB (call_isP hp E.ec hz hf) rfl B.isinstance_ (by decide +kernel) (pa_cons (pv 0) (pa_cons (pe_glob (v := .ref _) rfl G.NoHands rfl) pa_nil))) (pa_cons (pe_callB (call_isP hp E.ec hz hf) rfl B.isinstance_ (by decide +kernel) (pa_cons (pv 0) (pa_cons (pe_glob (v := .ref _) rfl G.NoDeed rfl) pa_nil))) (pa_cons (pe_callB (call_isP hp E.ec hz hf) rfl B.isinstance_ (by decide +kernel) (pa_cons (pv 0) (pa_cons (pe_glob (v := .ref _) rfl G.NoLine rfl) pa_nil))) (pa_cons (pe_callB (call_isP hp E.ec hz hf) rfl B.isinstance_ (by decide +kernel) (pa_cons (pv 0) (pa_cons (pe_glob (v := .ref _) rfl G.NoText rfl) pa_nil))) pa_nil)))))))
  (pss_cons (ps_expr (pe_bm PySem.F.plainAttrs_list PySem.F.slot_list_append PySem.F.type_list_append mt_append (pv 1) (pa_cons (pe_callB (call_isP hp E.ec hz hf) rfl B.isinstance_ (by decide +kernel) (pa_cons (pv 0) (pa_cons (pe_glob (v := .ref _) rfl G.TooMany rfl) pa_nil))) pa_nil)))
  (pss_cons (ps_set (i := 2) sc__law_word.nd rfl (Or.inl rfl) (pe_lst (pa_cons pe_str (pa_cons pe_str (pa_cons pe_str (pa_cons pe_str (pa_cons pe_str (pa_cons pe_str (pa_cons pe_str (pa_cons pe_str (pa_cons pe_str (pa_cons pe_str (pa_cons pe_str (pa_cons pe_str pa_nil))))))))))))))
  (pss_cons (ps_set (i := 2) sc__law_word.nd rfl (Or.inl rfl) (pe_op op_cat (pv 2) (pe_lst (pa_cons pe_str (pa_cons pe_str (pa_cons pe_str (pa_cons pe_str (pa_cons pe_str (pa_cons pe_str (pa_cons pe_str (pa_cons pe_str (pa_cons pe_str pa_nil))))))))))))
  (pss_cons (ps_if (PW.pt (pw_or (pt_cmpR op_ne (pe_bm PySem.F.plainAttrs_list PySem.F.slot_list_count PySem.F.type_list_count mt_countF (pv 1) (pa_cons pe_bl pa_nil)) pe_int (nomark _)) (pw_or1 (pt_not (pt_val (pe_callB (call_isP hp E.ec hz hf) rfl B.isinstance_ (by decide +kernel) (pa_cons (pv 0) (pa_cons (pe_bltn (v := .ty "ValueError") (u := .type "ValueError") rfl B4.ValueError (by decide +kernel) rfl) pa_nil))))))))
  (pss_one (ps_ret (pe_tup (pa_cons pe_str pa_nil))))
  pss_nil)
  (pss_cons (ps_set (i := 3) sc__law_word.nd rfl (Or.inl rfl) (pe_ix ix_list (pv 2) (pe_bm PySem.F.plainAttrs_list PySem.F.slot_list_index PySem.F.type_list_index mt_index (pv 1) (pa_cons pe_bl pa_nil)) (fun _ _ => rfl)))
  (pss_cons (ps_if (pt_cmpR op_eq (pv 3) pe_str (nomark _))
  (pss_one ps_never)
  pss_nil)
  (pss_one (ps_ret (pe_ifExp (pt_cmpR op_eq (pv 3) pe_str (nomark _)) pe_never (pe_tup (pa_cons (pv 3) pa_nil)))))))))))))))), ?_⟩
  refine is_one E (j := 0) (by decide) rfl (is_one E (j := 1) (by decide) rfl (is_one E (j := 2) (by decide) rfl (is_one E (j := 3) (by decide) rfl ⟨by show 4 ≤ sizeLine; decide, fun L1 n1 => ?_⟩)))
  have s1 : Same H (upd H L1 (.lst [.bl (decide (0 = i)), .bl (decide (1 = i)), .bl (decide (2 = i)), .bl (decide (3 = i))])) := Same.new n1
  have e1 : upd H L1 (.lst [.bl (decide (0 = i)), .bl (decide (1 = i)), .bl (decide (2 = i)), .bl (decide (3 = i))]) L1 = some (.lst ((marks i).take 4)) := upd_same
  generalize upd H L1 (.lst [.bl (decide (0 = i)), .bl (decide (1 = i)), .bl (decide (2 = i)), .bl (decide (3 = i))]) = H1 at s1 e1 ⊢
  refine cat4 (m := 4) E (by decide) rfl rfl e1 fun L2 H2 s2 e2 _ => ?_
  refine cat4 (m := 8) E (by decide) rfl rfl e2 fun L3 H3 s3 e3 _ => ?_
  refine cat4 (m := 12) E (by decide) rfl rfl e3 fun L4 H4 s4 e4 _ => ?_
  refine cat4 (m := 16) E (by decide) rfl rfl e4 fun L5 H5 s5 e5 n5 => ?_
  have s05 : Same H H5 := s1.trans (s2.trans (s3.trans (s4.trans s5)))
  have n05 : H L5 = none := by
    cases e : H L5 with
    | none => rfl
    | some o => rw [(s1.trans (s2.trans (s3.trans s4))) _ _ e] at n5; cases n5
  refine ⟨.ref L5, rfl, .inl ⟨rfl, _, SqL.of e5⟩, is_one E (j := 20) (by decide) rfl ⟨L5, _, _, rfl, rfl, e5, ?_, ?_⟩⟩
  · rw [List.length_take]
    have : min 20 (marks i).length ≤ 20 := Nat.min_le_left ..
    exact small1000 (by omega)
  have e6 : upd H5 L5 (.lst ((marks i).take 20 ++ [.bl (decide (20 = i))])) L5 = some (.lst (marks i)) := by
    rw [upd_same, ← marks_take (by decide)]
    rfl
  have s06 : Same H (upd H5 L5 (.lst ((marks i).take 20 ++ [.bl (decide (20 = i))]))) := fun b o e => by
    rw [upd_ne (ne_of_none e n05)]
    exact s05 _ _ e
  generalize upd H5 L5 (.lst ((marks i).take 20 ++ [.bl (decide (20 = i))])) = H6 at e6 s06 ⊢
  refine ⟨by show 12 ≤ sizeLine; decide, fun W1 m1 => ?_⟩
  refine ⟨.ref W1, rfl, by show 9 ≤ sizeLine; decide, fun W2 m2 => ?_⟩
  refine ⟨W1, W2, _, _, rfl, rfl, Same.new m2 _ _ upd_same, upd_same, by show 21 ≤ sizeLine; decide, fun W3 m3 => ?_⟩
  generalize hE : upd (upd (upd H6 W1 _) W2 _) W3 _ = H9
  have s9 : Same H6 H9 := by
    rw [← hE]
    exact (Same.new m1).trans ((Same.new m2).trans (Same.new m3))
  have ew : H9 W3 = some (.lst words21) := by
    rw [← hE]
    exact upd_same
  clear hE
  have em := s9 _ _ e6
  -- count, ValueError
  refine ⟨.ref L5, rfl, .inl ⟨rfl, _, SqL.of em⟩, L5, marks i, .bl true, rfl, rfl, SqL.of em, rfl, marks_flat i, rfl, _, rfl, ?_⟩
  rw [marks_one i (by omega)]
  refine iteF ⟨.ref p.1, rfl, .ty "ValueError", .type "ValueError", _, rfl, fun u r => r, E.ve, _, rfl, iteF ?_⟩
  refine ⟨.ref W3, rfl, .ref L5, rfl, .inl ⟨rfl, _, SqL.of em⟩, L5, marks i, .bl true, i, .bl true, rfl, rfl, SqL.of em, rfl, marks_flat i, marks_at (by omega), rfl, fun m z hm e => marks_no hm e, W3, words21, (i : Int), _, rfl, rfl, SqL.of ew, atI_nat (words_at i (by omega)), ?_⟩
  obtain ⟨w1, w2⟩ := word_ne i hi
  refine ⟨.str (wordAt i), rfl, rfl, _, rfl, ?_⟩
  rw [show decide (V.str (wordAt i) = V.str "many") = false from decide_eq_false fun z => w1 (V.str.inj z)]
  refine iteF ⟨.str (wordAt i), rfl, rfl, _, rfl, ?_⟩
  rw [show decide (V.str (wordAt i) = V.str "text") = false from decide_eq_false fun z => w2 (V.str.inj z)]
  exact iteF ⟨.str (wordAt i), rfl, by show 1 ≤ sizeLine; decide, fun U nU => q U _ (s06.trans (s9.trans (Same.new nU))) upd_same⟩
end
end K04

set_option maxRecDepth 100000
set_option maxHeartbeats 1000000
namespace K04
open PySem PySem.Spec PyProof.Rows L2 L2H HX
section
variable {P : Program} {w : World} {K : PySem.W.Frag} {mg : Str → Option Value} {base : Heap} {k : Nat}
/-! ### no board: refused -/
def spNeedBad (CB : Addr) : Sp := fun vs H _ E => ∃ (N : Addr → Prop) (v : V) (d : PyData), vs = [v] ∧ Da N H v d ∧ boardB d = false ∧ ∀ H', Same H H' → E (.ref CB) none H'
theorem ok_need_boardX {CB : Addr} (D : Def K mg "need_board" s_need_board ["thing"]) (R_NoBoard : Err K mg "NoBoard" CB) (c_is_board : Cal P w K mg base k "is_board" ["thing"] (spThing boardB)) : CalX P w K mg base (k + 1) "need_board" ["thing"] (spNeedBad CB) := by
  refine D.okX sc_need_board (fun vs H Q E h => ?_) (fun f cdv A outer s H vs Q E hr h tk => ?_)
  · obtain ⟨N, v, d, rfl, _⟩ := h
    rfl
  · obtain ⟨N, v, d, rfl, hd, hb, q⟩ := h
    refine ⟨_, pss_one (ps_if (pt_not (pt_val (pe_cal c_is_board hr rfl (pa_cons (pv 0) pa_nil)))) (pss_one (ps_err R_NoBoard tk)) pss_nil), ?_⟩
    refine ⟨v, rfl, N, v, d, rfl, hd, fun H' s' => ⟨_, rfl, ?_⟩⟩
    rw [hb]
    exact iteT (q H' s')
def spBad2 (CB : Addr) : Sp := fun vs H _ E => ∃ (N : Addr → Prop) (vb v : V) (d : PyData), vs = [vb, v] ∧ Da N H vb d ∧ boardB d = false ∧ ∀ H', Same H H' → E (.ref CB) none H'
theorem ok_is_standX {CB : Addr} (D : Def K mg "is_stand" s_is_stand ["board", "thing"]) (cx_need_board : CalX P w K mg base k "need_board" ["thing"] (spNeedBad CB)) : CalX P w K mg base (k + 1) "is_stand" ["board", "thing"] (spBad2 CB) := by
  refine D.okX sc_is_stand (fun vs H Q E h => ?_) (fun f cdv A outer s H vs Q E hr h tk => ?_)
  · obtain ⟨N, vb, v, d, rfl, _⟩ := h
    rfl
  · obtain ⟨N, vb, v, d, rfl, hd, hb, q⟩ := h
    exact ⟨_, pss_cons (ps_expr (pe_calX tk cx_need_board hr rfl (pa_cons (pv 0) pa_nil))) pss_nev, vb, rfl, N, vb, d, rfl, hd, hb, q⟩
theorem ok_is_momentX {CB : Addr} (D : Def K mg "is_moment" s_is_moment ["board", "thing"]) (cx_need_board : CalX P w K mg base k "need_board" ["thing"] (spNeedBad CB)) : CalX P w K mg base (k + 1) "is_moment" ["board", "thing"] (spBad2 CB) := by
  refine D.okX sc_is_moment (fun vs H Q E h => ?_) (fun f cdv A outer s H vs Q E hr h tk => ?_)
  · obtain ⟨N, vb, v, d, rfl, _⟩ := h
    rfl
  · obtain ⟨N, vb, v, d, rfl, hd, hb, q⟩ := h
    exact ⟨_, pss_cons (ps_expr (pe_calX tk cx_need_board hr rfl (pa_cons (pv 0) pa_nil))) pss_nev, vb, rfl, N, vb, d, rfl, hd, hb, q⟩
end
/-! ### what a call tells, or the word of its error -/
theorem pe_said {X : Cx} {T : List (Addr × Str)} {c Pt CM : Addr} {k : Nat} {C : Nat → Addr} {params : Arguments} {body : Expr} {scope : Scope} {t : XK → TE} {p lpos pos : Pos} (D : Def X.K X.mg "_law_said" s__law_said ["_law_call"]) (cw : CalE X.prog X.w X.K X.mg X.base k "_law_word" "_law_e" (spWord X.K C))
    (hM : X.mg "MarbleError" = some (.ref CM)) (TB : LamX.TabB X.base X.mg c Pt) (hcode : X.env.code = .ref c) (hmT : (Pt, X.env.qual ++ "<lambda>") ∈ T) (hu : ∀ p ∈ T, p.1 = Pt → p.2 = X.env.qual ++ "<lambda>") (hr : Room (k + 2) X.A) (hg : Gl X "_law_said") (L : LamX.LamS X.env.scope scope) (hdef : defaultsOf params X.env = ([], []))
    (hbind : ∀ (q : Str) (cl : List (Str × Addr)) (pm cv ctv : Value), bindArgs (PySem.W.kla_fn "<lambda>" q params body scope cl pm cv ctv) ⟨[], []⟩ = pure [])
    (hbody : ∀ (A : Around) (outer : List Env) (s : Shared) (H : Hp) (E : XK) (f c' : Addr), Room k (A.deeper (LamX.lamEnv X scope s.heap.objs.size f c')) → PE (LamX.lamCx X A outer s H E scope f c') body (t E)) :
    PE X (.Call (.Name "_law_said" p) [.Lambda params body scope lpos] [] pos) (LamX.tLam T (TSaid X.K CM "told" (spWord X.K C)) t) := by
  obtain ⟨g, fd, F, hm, hb⟩ := D
  obtain ⟨oc, od, kV, doc, pm, an, cdv, ct, osl, rfl, lk, hcd⟩ := F.ex
  exact LamX.pe_lamcall hg hm F.kp lk hcd hb sc__law_said rfl (.inl rfl) (said_gives (a := "_law_call") (n := "_law_e") (e := "MarbleError") (wd := "_law_word") cw (hr.mono (by omega)) rfl hM (by decide) rfl rfl) TB hcode hmT hu hr L hdef hbind hbody
end K04

set_option maxRecDepth 100000
set_option maxHeartbeats 1000000
namespace K04
open PySem PySem.Spec PyProof.Rows L2 L2H HX
abbrev s__law_gone : Stmt := topS 63
theorem sc__law_gone : FnScope ["_law_board_here", "_law_moment_here", "_law_row", "_law_place", "_law_wheel"] ["_law_board_here", "_law_moment_here", "_law_row"] (defScope s__law_gone) := ⟨rfl, rfl, rfl, by decide +kernel, rfl, by decide +kernel, by decide +kernel⟩
abbrev s__law_near : Stmt := topS 65
theorem sc__law_near : FnScope ["_law_pen_here", "_law_board_here", "_law_row", "_law_at", "_law_wheel", "_law_some"] ["_law_pen_here", "_law_board_here", "_law_row"] (defScope s__law_near) := ⟨rfl, rfl, rfl, by decide +kernel, rfl, by decide +kernel, by decide +kernel⟩
theorem walkM_form {ws : List (List (List Int))} {c : Int} (w1 : ∀ x ∈ ws, 1 ≤ x.length) : ∀ (row : List Nat) (i : Nat) (m : Mo), MoOk ws c m → MoOk ws c (walkM ws i m row).2
  | [], _, _, h => h
  | n :: r, i, m, h => by
    by_cases g : m.wt.getD n 0 = 0
    · rw [walkM_stop g]
      exact h
    · rw [walkM_go g]
      have := getD_nn (i := n) h.wn
      exact walkM_form w1 r (i + 1) _ (h.handle w1 (by omega))
theorem cut_fromR (row : List Nat) (n : Nat) : cutV (rowV row) (some (n : Int)) none = rowV (row.drop n) := by
  have hl : (rowV row).length = row.length := rowV_len
  by_cases h : n ≤ row.length
  · rw [cut_from _ _ (by rw [hl]; exact h)]
    unfold rowV
    rw [List.map_drop]
  · unfold cutV
    rw [HT.sIx_none, HT.sIx_nat, hl, Nat.min_eq_right (by omega), List.drop_eq_nil_of_le (by omega : (rowV row).length ≤ row.length), List.drop_eq_nil_of_le (by omega : row.length ≤ n), List.take_nil]
    rfl
theorem cut_toR (row : List Nat) (n : Nat) (h : n ≤ row.length) : cutV (rowV row) none (some (n : Int)) = rowV (row.take n) := by
  rw [cut_to _ _ (by rw [rowV_len]; exact h)]
  unfold rowV
  rw [List.map_take]
section
variable {P : Program} {w : World} {K : PySem.W.Frag} {mg : Str → Option Value} {base : Heap} {k : Nat}
/-! ### gone as far as it is let, by the law's own steps -/
def spGoneL : Sp := fun vs H Q _ => ∃ (vb v : V) (r : Addr) (ws : List (List (List Int))) (c : Int) (m : Mo) (row : List Nat), vs = [vb, v, .ref r] ∧ Td H vb (boardD ws c) ∧ BoardOk ws c ∧ Td H v (moD m) ∧ MoOk ws c m ∧ RowAt H r row ∧ (∀ n ∈ row, n < ws.length) ∧
  ∀ (U : Addr) (vm : V) (H' : Hp), Same H H' → H' U = some (.tup [placeV (walkM ws 0 m row).1, vm]) → Td H' vm (moD (walkM ws 0 m row).2) → Q (.ref U) H'
theorem ok_goneL (D : Def K mg "_law_gone" s__law_gone ["_law_board_here", "_law_moment_here", "_law_row"]) (B2 : Bi2 mg) (c__law_handle : Cal P w K mg base k "_law_handle" ["_law_board_here", "_law_moment_here", "_law_wheel"] spHandled) :
    Cal P w K mg base (k + 1) "_law_gone" ["_law_board_here", "_law_moment_here", "_law_row"] spGoneL := by
  refine D.ok sc__law_gone (fun vs H Q E h => ?_) (fun f cdv A outer s H vs Q E hr h => ?_)
  · obtain ⟨vb, v, r, ws, c, m, row, rfl, _⟩ := h
    rfl
  · obtain ⟨vb, v, r, ws, c, m, row, rfl, tb, bok, tv, mok, er, hrow, q⟩ := h
    refine ⟨_, (pss_cons (ps_for PassesOwn.never rfl (pi_enumT rfl B2.enumerate_ (pa_cons (pv 2) pa_nil)) (pg_tup rfl (pgs_cons (pg_name (i := 3) sc__law_gone.nd rfl (Or.inl rfl)) (pgs_cons (pg_name (i := 4) sc__law_gone.nd rfl (Or.inl rfl)) pgs_nil)))
  (pss_cons (ps_if (pt_cmpR op_eq (pe_ix ix_tup (pe_ix ix_tup (pv 1) pe_int (fun _ _ => rfl)) (pv 4) (fun _ _ => rfl)) pe_int (nomark _))
  (pss_one (ps_ret (pe_tup (pa_cons (pv 3) (pa_cons (pv 1) pa_nil)))))
  pss_nil)
  (pss_one (ps_set (i := 1) sc__law_gone.nd rfl (Or.inl rfl) (pe_cal c__law_handle hr rfl (pa_cons (pv 0) (pa_cons (pv 1) (pa_cons (pv 4) pa_nil))))))))
  (pss_one (ps_ret (pe_tup (pa_cons pe_non (pa_cons (pv 1) pa_nil)))))), ?_⟩
    have w1 : ∀ x ∈ ws, 1 ≤ x.length := fun x hx => (bok.wheels x hx).1
    refine ⟨.ref r, rfl, .t, r, _, rfl, er.sq, ?_⟩
    refine for_it (walk_enumK (xs := rowV row)) (fun i σ H' => ∃ (mi : Mo) (vm : V) (y3 y4 : Option V), σ = [some vb, some vm, some (.ref r), y3, y4] ∧ Same H H' ∧ Td H' vm (moD mi) ∧ MoOk ws c mi ∧ walkM ws 0 m row = walkM ws i mi (row.drop i)) ⟨m, v, none, none, rfl, Same.refl H, tv, mok, rfl⟩ (fun i σ H' _ pp => ?_) (fun i x σ H' H2 hi pp y => ?_) (fun σ H' pp => ?_)
    · obtain ⟨mi, vm, y3, y4, _, s', _⟩ := pp
      exact (er.same s').sq
    · obtain ⟨mi, vm, y3, y4, rfl, s', t', mk', eW⟩ := pp
      obtain ⟨U, xi, xn, rfl, nU, rfl, ei, en⟩ := y
      obtain rfl := Option.some.inj ei
      have hi' : i < row.length := by rw [rowV_len] at hi; exact hi
      have en' : xn = .int ((row[i] : Nat) : Int) := by
        have e2 : (rowV row)[i]? = some (.int ((row[i] : Nat) : Int)) := by
          unfold rowV
          rw [List.getElem?_map, List.getElem?_eq_getElem hi']
          rfl
        exact Option.some.inj (en.symm.trans e2)
      subst en'
      have hn : row[i] < ws.length := hrow _ (List.getElem_mem hi')
      have hdrop : row.drop i = row[i] :: row.drop (i + 1) := List.drop_eq_getElem_cons hi'
      rw [hdrop] at eW
      generalize row[i] = n at hn eW en ⊢
      have sU : Same H' (upd H' U (.tup [.int (i : Nat), .int (n : Int)])) := Same.new nU
      refine ⟨U, _, rfl, SqT.of upd_same, rfl, _, _, rfl, _, _, rfl, rfl, ?_⟩
      have s2 := s'.trans sU
      have t2 := Td.mono (KT.same sU) _ _ t'
      generalize upd H' U (.tup [.int (i : Nat), .int (n : Int)]) = H2 at sU s2 t2 ⊢
      obtain ⟨T, b1, b2, b3, rfl, eT, e1, e2, e3⟩ := moD_of t2
      have hwn : n < mi.wt.length := by rw [mk'.wl]; exact hn
      refine ⟨.ref T, rfl, T, _, 1, _, rfl, rfl, SqT.of eT, atI_nat (j := 1) rfl, .int n, rfl, b2, _, n, _, rfl, rfl, SqT.of e2, atI_nat (getI hwn), rfl, _, rfl, ite2 (fun g => ?_) (fun g => ?_)⟩
      · have g0 : mi.wt.getD n 0 = 0 := V.int.inj (of_decide_eq_true g)
        rw [walkM_stop g0] at eW
        refine ⟨.int (i : Nat), rfl, .ref T, rfl, by show 2 ≤ sizeLine; decide, fun U2 nU2 => ?_⟩
        refine q U2 (.ref T) _ (s2.trans (Same.new nU2)) ?_ ?_
        · rw [eW, upd_same]
          rfl
        · rw [eW]
          exact Td.mono (KT.new nU2) _ _ t2
      · have g0 : ¬ mi.wt.getD n 0 = 0 := fun z => g (decide_eq_true (congrArg V.int z))
        rw [walkM_go g0] at eW
        have gp : 0 < mi.wt.getD n 0 := by
          have := getD_nn (i := n) mk'.wn
          omega
        refine ⟨vb, rfl, .ref T, rfl, .int n, rfl, vb, .ref T, n, ws, c, mi, rfl, Td.mono (KT.same s2) _ _ tb, bok, t2, mk'.toMoF, hn, fun v' H5 s5 t5 => ?_⟩
        exact ⟨handleM ws mi n, v', some (.int (i : Nat)), some (.int (n : Int)), rfl, s2.trans s5, t5, mk'.handle w1 gp, eW⟩
    · obtain ⟨mi, vm, y3, y4, rfl, s', t', mk', eW⟩ := pp
      have hd : row.drop (rowV row).length = [] := by
        rw [rowV_len]
        exact List.drop_length ..
      rw [hd, walkM_nil] at eW
      refine ⟨vm, rfl, by show 2 ≤ sizeLine; decide, fun U2 nU2 => ?_⟩
      refine q U2 vm _ (s'.trans (Same.new nU2)) ?_ ?_
      · rw [eW, upd_same]
        rfl
      · rw [eW]
        exact Td.mono (KT.new nU2) _ _ t'
/-! ### a row near it -/
def spNear : Sp := fun vs H Q _ => ∃ (pn r : Addr) (vb : V) (mm : Nat) (ws : List (List (List Int))) (c : Int) (row : List Nat), vs = [.ref pn, vb, .ref r] ∧ Td H vb (boardD ws c) ∧ BoardOk ws c ∧ RowF H r row ∧ row.length ≤ 900 ∧ (∀ n ∈ row, n < ws.length) ∧ PenAt H pn (mm + 3) ∧
  ∀ (p : Addr) (row' : List Nat) (H' : Hp), Kp (· = pn) H H' → PenAt H' pn mm → RowF H' p row' → row'.length ≤ row.length + 1 → (∀ n ∈ row', n < ws.length) → Q (.ref p) H'
theorem ok_near (D : Def K mg "_law_near" s__law_near ["_law_pen_here", "_law_board_here", "_law_row"]) (B : Bi mg) (c__law_draw : Cal P w K mg base k "_law_draw" ["_law_pen_here", "_law_many"] spDraw) :
    Cal P w K mg base (k + 1) "_law_near" ["_law_pen_here", "_law_board_here", "_law_row"] spNear := by
  refine D.ok sc__law_near (fun vs H Q E h => ?_) (fun f cdv A outer s H vs Q E hr h => ?_)
  · obtain ⟨pn, r, vb, mm, ws, c, row, rfl, _⟩ := h
    rfl
  · obtain ⟨pn, r, vb, mm, ws, c, row, rfl, tb, bok, rf, hz, hrow, pen, q⟩ := h
    refine ⟨_, (pss_cons (ps_par (i := 3) (j := 4) (by rfl) sc__law_near.nd rfl rfl (by decide) rfl rfl (pa_cons (pe_cal c__law_draw hr rfl (pa_cons (pv 0) (pa_cons (pe_op op_add (pe_callB call_len_seq rfl B.len_ (by decide +kernel) (pa_cons (pv 2) pa_nil)) pe_int) pa_nil))) (pa_cons (pe_cal c__law_draw hr rfl (pa_cons (pv 0) (pa_cons (pe_callB call_len_seq rfl B.len_ (by decide +kernel) (pa_cons (pe_ix ix_tup (pv 1) pe_int (fun _ _ => rfl)) pa_nil)) pa_nil))) pa_nil)) (by rfl))
  (pss_cons (ps_set (i := 5) sc__law_near.nd rfl (Or.inl rfl) (pe_lst (pa_cons (pe_op op_catF (pe_op op_catF (pe_slice sl_tupF (pv 2) po_none (po_some (pv 3))) (pe_tupF (pa_cons (pv 4) pa_nil))) (pe_slice sl_tupF (pv 2) (po_some (pe_op op_add (pv 3) pe_int)) po_none)) (pa_cons (pe_op op_catF (pe_op op_catF (pe_slice sl_tupF (pv 2) po_none (po_some (pv 3))) (pe_tupF (pa_cons (pv 4) pa_nil))) (pe_slice sl_tupF (pv 2) (po_some (pv 3)) po_none)) (pa_cons (pe_op op_catF (pe_slice sl_tupF (pv 2) po_none (po_some (pv 3))) (pe_slice sl_tupF (pv 2) (po_some (pe_op op_add (pv 3) pe_int)) po_none)) (pa_cons (pe_revF (pv 2)) pa_nil))))))
  (pss_one (ps_ret (pe_ix ix_list (pv 5) (pe_cal c__law_draw hr rfl (pa_cons (pv 0) (pa_cons pe_int pa_nil))) (fun _ _ => rfl)))))), ?_⟩
    have w6 := bok.w6
    have w1 := bok.w1
    have rfK : ∀ {Ha Hb : Hp} {m : Nat} {x : Addr} {l : List Nat}, PenAt Ha pn m → RowF Ha x l → Kp (· = pn) Ha Hb → RowF Hb x l := fun {Ha Hb m x l} pe rx kk => by
      obtain ⟨o, od, eo⟩ := rx
      refine ⟨o, od, kk _ _ eo fun z => ?_⟩
      obtain ⟨t, et⟩ := pe.list
      rw [z, et] at eo
      cases eo
    refine ⟨.ref pn, rfl, .ref r, rfl, r, rowV row, rfl, .inr rf.sq, _, 1, rfl, rfl, pn, _, mm + 2, rfl, by omega, by rw [rowV_len]; omega, pen.less (by omega), fun at_ H1 a0 a1 k1 pen1 => ?_⟩
    obtain ⟨an, rfl⟩ : ∃ an : Nat, at_ = (an : Int) := ⟨at_.toNat, by omega⟩
    rw [rowV_len] at a1
    have hal : an ≤ row.length := by omega
    have rf1 := rfK pen rf k1
    have tb1 := Td.mono (pen.kt k1) _ _ tb
    obtain ⟨ab, aw, ys, rfl, eb, ew, hy⟩ := Td.boardOf tb1
    have hl : ys.length = ws.length := by rw [hy.len, List.length_map]
    refine ⟨.ref pn, rfl, .ref ab, rfl, ab, _, 0, _, rfl, rfl, SqT.of eb, atI_nat (j := 0) rfl, aw, ys, rfl, .inr (SqT.of ew), pn, _, mm + 1, rfl, by omega, by omega, pen1.less (by omega), fun wn_ H2 b0 b1 k2 pen2 => ?_⟩
    obtain ⟨wn, rfl⟩ : ∃ wn : Nat, wn_ = (wn : Int) := ⟨wn_.toNat, by omega⟩
    have hwn : wn < ws.length := by omega
    have rf2 := rfK pen1 rf1 k2
    refine ⟨.int an, .int wn, rfl, ?_⟩
    have c1 := cut_toR row an hal
    have c2 : cutV (rowV row) (some ((an : Int) + 1)) none = rowV (row.drop (an + 1)) := by
      rw [show (an : Int) + 1 = ((an + 1 : Nat) : Int) by omega]
      exact cut_fromR row (an + 1)
    have c3 := cut_fromR row an
    -- row[:at] + (wheel,) + row[at + 1:]
    refine ⟨.ref r, rfl, .int an, rfl, an, rfl, rd_sliceF rf2 c1 fun p1 G1 s1 r1 => ?_⟩
    refine ⟨.int wn, rfl, by show 1 ≤ sizeLine; decide, fun p2 o2 n2 d2 => ?_⟩
    have s2 : Same G1 (upd G1 p2 (.frz o2 (.tup [.int wn]))) := Same.new n2
    have r2 : RowF (upd G1 p2 (.frz o2 (.tup [.int wn]))) p2 [wn] := ⟨o2, d2, upd_same⟩
    generalize upd G1 p2 (.frz o2 (.tup [.int wn])) = G2 at s2 r2 ⊢
    refine rd_catF (r1.same s2) r2 (by rw [List.length_take]; show _ + 1 ≤ 1000; omega) fun p3 G3 s3 r3 => ?_
    have z3 := s1.trans (s2.trans s3)
    refine ⟨.ref r, rfl, .int an, rfl, _, 1, rfl, rfl, (an : Int) + 1, rfl, np (rd_sliceF (rf2.same z3) c2 fun p4 G4 s4 r4 => ?_)⟩
    refine rd_catF (r3.same s4) r4 (by rw [List.length_append, List.length_take, List.length_drop]; show _ + 1 + _ ≤ 1000; omega) fun p5 G5 s5 r5 => ?_
    have z5 := z3.trans (s4.trans s5)
    -- row[:at] + (wheel,) + row[at:]
    refine ⟨.ref r, rfl, .int an, rfl, an, rfl, rd_sliceF (rf2.same z5) c1 fun q1 G6 s6 t1 => ?_⟩
    refine ⟨.int wn, rfl, by show 1 ≤ sizeLine; decide, fun q2 o2 n2 d2 => ?_⟩
    have s7 : Same G6 (upd G6 q2 (.frz o2 (.tup [.int wn]))) := Same.new n2
    have t2 : RowF (upd G6 q2 (.frz o2 (.tup [.int wn]))) q2 [wn] := ⟨o2, d2, upd_same⟩
    generalize upd G6 q2 (.frz o2 (.tup [.int wn])) = G7 at s7 t2 ⊢
    refine rd_catF (t1.same s7) t2 (by rw [List.length_take]; show _ + 1 ≤ 1000; omega) fun q3 G8 s8 t3 => ?_
    have z8 := z5.trans (s6.trans (s7.trans s8))
    refine ⟨.ref r, rfl, .int an, rfl, an, rfl, np (rd_sliceF (rf2.same z8) c3 fun q4 G9 s9 t4 => ?_)⟩
    refine rd_catF (t3.same s9) t4 (by rw [List.length_append, List.length_take, List.length_drop]; show _ + 1 + _ ≤ 1000; omega) fun q5 G10 s10 t5 => ?_
    have z10 := z8.trans (s9.trans s10)
    -- row[:at] + row[at + 1:]
    refine ⟨.ref r, rfl, .int an, rfl, an, rfl, rd_sliceF (rf2.same z10) c1 fun u1 G11 s11 v1 => ?_⟩
    refine ⟨.ref r, rfl, .int an, rfl, _, 1, rfl, rfl, (an : Int) + 1, rfl, np (rd_sliceF (rf2.same (z10.trans s11)) c2 fun u2 G12 s12 v2 => ?_)⟩
    refine rd_catF (v1.same s12) v2 (by rw [List.length_take, List.length_drop]; omega) fun u3 G13 s13 v3 => ?_
    have z13 := z10.trans (s11.trans (s12.trans s13))
    -- row[::-1]
    refine ⟨.ref r, rfl, r, rowV row, rfl, (rf2.same z13).sq, fun u4 o4 n4 d4 => ?_⟩
    have s14 : Same G13 (upd G13 u4 (.frz o4 (.tup (rowV row).reverse))) := Same.new n4
    have v4 : RowF (upd G13 u4 (.frz o4 (.tup (rowV row).reverse))) u4 row.reverse := ⟨o4, d4, by rw [upd_same]; unfold rowV; rw [List.map_reverse]⟩
    generalize upd G13 u4 (.frz o4 (.tup (rowV row).reverse)) = G14 at s14 v4 ⊢
    refine ⟨by show 4 ≤ sizeLine; decide, fun L nL => ?_⟩
    have sL : Same G14 (upd G14 L (.lst [.ref p5, .ref q5, .ref u3, .ref u4])) := Same.new nL
    have eL : upd G14 L (.lst [.ref p5, .ref q5, .ref u3, .ref u4]) L = some (.lst [.ref p5, .ref q5, .ref u3, .ref u4]) := upd_same
    have zL := z13.trans (s14.trans sL)
    have nL2 : ∀ {m : Nat}, PenAt G14 pn m → L ≠ pn := fun pe => pe.ne nL
    have pen14 := pen2.same (z13.trans s14)
    have nLp := nL2 pen14
    generalize upd G14 L (.lst [.ref p5, .ref q5, .ref u3, .ref u4]) = G15 at sL eL zL ⊢
    have penL := pen2.same zL
    refine ⟨.ref L, rfl, .ref pn, rfl, pn, 4, mm, rfl, by decide, by decide, penL.less (by omega), fun j_ H3 j0 j1 k3 pen3 => ?_⟩
    have kall : Kp (· = pn) H H3 := ((k1.trans k2).trans (Kp.of zL)).trans k3
    have eL3 := k3 _ _ eL nLp
    have fin : ∀ {x : Addr} {l : List Nat}, RowF G15 x l → RowF H3 x l := fun rx => rfK penL rx k3
    have in1 : ∀ n ∈ row.take an ++ [wn] ++ row.drop (an + 1), n < ws.length := fun n hn => by
      simp only [List.mem_append, List.mem_singleton] at hn
      rcases hn with (hn | hn) | hn
      · exact hrow n (List.mem_of_mem_take hn)
      · rw [hn]; exact hwn
      · exact hrow n (List.mem_of_mem_drop hn)
    have in2 : ∀ n ∈ row.take an ++ [wn] ++ row.drop an, n < ws.length := fun n hn => by
      simp only [List.mem_append, List.mem_singleton] at hn
      rcases hn with (hn | hn) | hn
      · exact hrow n (List.mem_of_mem_take hn)
      · rw [hn]; exact hwn
      · exact hrow n (List.mem_of_mem_drop hn)
    have in3 : ∀ n ∈ row.take an ++ row.drop (an + 1), n < ws.length := fun n hn => by
      rcases List.mem_append.mp hn with hn | hn
      · exact hrow n (List.mem_of_mem_take hn)
      · exact hrow n (List.mem_of_mem_drop hn)
    have in4 : ∀ n ∈ row.reverse, n < ws.length := fun n hn => hrow n (List.mem_reverse.mp hn)
    have l1 : (row.take an ++ [wn] ++ row.drop (an + 1)).length ≤ row.length + 1 := by
      rw [List.length_append, List.length_append, List.length_take, List.length_drop]
      show _ + 1 + _ ≤ _
      omega
    have l2 : (row.take an ++ [wn] ++ row.drop an).length ≤ row.length + 1 := by
      rw [List.length_append, List.length_append, List.length_take, List.length_drop]
      show _ + 1 + _ ≤ _
      omega
    have l3 : (row.take an ++ row.drop (an + 1)).length ≤ row.length + 1 := by
      rw [List.length_append, List.length_take, List.length_drop]
      omega
    have z515 : Same G5 G15 := s6.trans (s7.trans (s8.trans (s9.trans (s10.trans (s11.trans (s12.trans (s13.trans (s14.trans sL))))))))
    have hj : j_ = 0 ∨ j_ = 1 ∨ j_ = 2 ∨ j_ = 3 := by omega
    rcases hj with rfl | rfl | rfl | rfl
    · exact ⟨L, _, 0, _, rfl, rfl, SqL.of eL3, atI_nat (j := 0) rfl, q p5 _ H3 kall pen3 (fin (r5.same z515)) l1 in1⟩
    · exact ⟨L, _, 1, _, rfl, rfl, SqL.of eL3, atI_nat (j := 1) rfl, q q5 _ H3 kall pen3 (fin (t5.same (s11.trans (s12.trans (s13.trans (s14.trans sL)))))) l2 in2⟩
    · exact ⟨L, _, 2, _, rfl, rfl, SqL.of eL3, atI_nat (j := 2) rfl, q u3 _ H3 kall pen3 (fin (v3.same (s14.trans sL))) l3 in3⟩
    · exact ⟨L, _, 3, _, rfl, rfl, SqL.of eL3, atI_nat (j := 3) rfl, q u4 _ H3 kall pen3 (fin (v4.same sL)) (by rw [List.length_reverse]; omega) in4⟩
end
end K04

set_option maxRecDepth 100000
set_option maxHeartbeats 1000000
namespace K04
open PySem PySem.Spec PyProof.Rows L2 L2H HX
abbrev s__law_right : Stmt := topS 64
theorem sc__law_right : FnScope ["_law_board_here", "_law_moment_here", "_law_row", "_law_kept", "_law_place", "_law_later", "_law_counts", "_law_lap", "_law_answers", "_law_due", "_law_wheel", "_law_one"] ["_law_board_here", "_law_moment_here", "_law_row"] (defScope s__law_right) := ⟨rfl, rfl, rfl, by decide +kernel, rfl, by decide +kernel, by decide +kernel⟩
section
variable {P : Program} {w : World} {K : PySem.W.Frag} {mg : Str → Option Value} {base : Heap} {k : Nat}
/-! ### behind, let or not -/
def spBehindX (CR : Addr) : Sp := fun vs H Q E => ∃ (vb v : V) (r : Addr) (ws : List (List (List Int))) (c : Int) (m : Mo) (row : List Nat), vs = [vb, v, .ref r] ∧ Td H vb (boardD ws c) ∧ BoardOk ws c ∧ Td H v (moD m) ∧ MoOk ws c m ∧ RowAt H r row ∧ row.length ≤ 1000 ∧ (∀ n ∈ row, n < ws.length) ∧
  (∀ (vm : V) (H' : Hp), (walkM ws 0 m row).1 = none → Same H H' → Td H' vm (moD (walkM ws 0 m row).2) → Q vm H') ∧ ∀ H', (walkM ws 0 m row).1 ≠ none → Same H H' → E (.ref CR) none H'
theorem ok_behindX {CR : Addr} (D : Def K mg "behind" s_behind ["board", "moment", "row"]) (R_NoRow : Err K mg "NoRow" CR) (c_need_moment : Cal P w K mg base k "need_moment" ["board", "thing"] spNeedMom) (c_need_row : Cal P w K mg base k "need_row" ["board", "thing"] spNeedRow)
    (c_walked : Cal P w K mg base k "walked" ["board", "moment", "row"] spWalk) : CalX P w K mg base (k + 1) "behind" ["board", "moment", "row"] (spBehindX CR) := by
  refine D.okX sc_behind (fun vs H Q E h => ?_) (fun f cdv A outer s H vs Q E hr h tk => ?_)
  · obtain ⟨vb, v, r, ws, c, m, row, rfl, _⟩ := h
    rfl
  · obtain ⟨vb, v, r, ws, c, m, row, rfl, tb, bok, tv, mok, er, hz, hrow, q1, q2⟩ := h
    refine ⟨_, (pss_cons (ps_expr (pe_cal c_need_moment hr rfl (pa_cons (pv 0) (pa_cons (pv 1) pa_nil))))
  (pss_cons (ps_expr (pe_cal c_need_row hr rfl (pa_cons (pv 0) (pa_cons (pv 2) pa_nil))))
  (pss_cons (ps_asg (pe_cal c_walked hr rfl (pa_cons (pv 0) (pa_cons (pv 1) (pa_cons (pv 2) pa_nil)))) (pg_tup rfl (pgs_cons (pg_name (i := 3) sc_behind.nd rfl (Or.inl rfl)) (pgs_cons (pg_name (i := 4) sc_behind.nd rfl (Or.inl rfl)) pgs_nil))))
  (pss_cons (ps_if (pt_cmpR op_notN (pv 3) pe_non (nomark _))
  (pss_one (ps_err R_NoRow tk))
  pss_nil)
  (pss_one (ps_ret (pv 4))))))), ?_⟩
    refine ⟨vb, rfl, v, rfl, vb, v, ws, c, m, rfl, tb, bok, tv, mok, fun H1 s1 => ?_⟩
    refine ⟨vb, rfl, .ref r, rfl, vb, r, ws, c, row, rfl, Td.mono (KT.same s1) _ _ tb, er.same s1, hz, hrow, fun H2 s2 => ?_⟩
    have s12 := s1.trans s2
    refine ⟨vb, rfl, v, rfl, .ref r, rfl, vb, v, r, ws, c, m, row, rfl, Td.mono (KT.same s12) _ _ tb, bok, Td.mono (KT.same s12) _ _ tv, mok, er.same s12, hrow, fun U vm H3 s3 eU tm mk => ?_⟩
    refine ⟨U, _, rfl, SqT.of eU, rfl, _, _, rfl, _, _, rfl, rfl, ?_⟩
    cases e : (walkM ws 0 m row).1 with
    | none =>
      refine ⟨.non, rfl, rfl, _, rfl, ?_⟩
      exact iteF ⟨vm, rfl, q1 vm H3 e (s12.trans s3) tm⟩
    | some i =>
      refine ⟨.int (i : Int), rfl, rfl, _, rfl, ?_⟩
      exact iteT (q2 H3 (by rw [e]; exact fun z => nomatch z) (s12.trans s3))
/-! ### how great the texts are -/
theorem small_nums : ∀ l : List Int, (∀ e ∈ l, -1000000 ≤ e ∧ e ≤ 1000000) → withinAll 2000000000000 (l.map PyData.int) ∧ wtAll (l.map PyData.int) = 132 * l.length ∧ PyData.depthAll (l.map PyData.int) = 0
  | [], _ => by simp [withinAll, wtAll, PyData.depthAll]
  | e :: l, hl => by
    obtain ⟨i1, i2, i3⟩ := small_nums l fun x hx => hl x (List.mem_cons_of_mem _ hx)
    have he := hl e List.mem_cons_self
    simp only [List.map_cons, withinAll, wtAll, PyData.depthAll, within, wt, PyData.depth, i2, i3, List.length_cons]
    exact ⟨⟨by omega, i1⟩, by omega, rfl⟩
/-- text of a part: bounded -/
structure Tx (n e : Nat) (d : PyData) : Prop where
  iw : within 2000000000000 d
  wn : wt d ≤ n
  dp : d.depth ≤ e
theorem tx_nums {l : List Int} {n : Nat} (h : ∀ e ∈ l, -1000000 ≤ e ∧ e ≤ 1000000) (hn : 3 + 132 * l.length ≤ n) : Tx n 1 (stepD l) := by
  obtain ⟨i1, i2, i3⟩ := small_nums l h
  refine ⟨?_, ?_, ?_⟩ <;> unfold stepD <;> simp only [within, wt, PyData.depth, i2, i3]
  · exact i1
  · omega
  · omega
theorem nd_nums : ∀ l : List Int, PyData.hasDictAll (l.map PyData.int) = false
  | [] => rfl
  | _ :: l => by
    rw [List.map_cons]
    simp only [PyData.hasDictAll, PyData.hasDict, nd_nums l]
    rfl
theorem nd_step (l : List Int) : (stepD l).hasDict = false := by
  unfold stepD
  simp only [PyData.hasDict, nd_nums]
theorem nd_mo (m : Mo) : (moD m).hasDict = false := by
  unfold moD momD
  simp only [PyData.hasDict, PyData.hasDictAll, nd_step]
  rfl
end
end K04

set_option maxRecDepth 100000
set_option maxHeartbeats 1000000
namespace K04
open PySem PySem.Spec PyProof.Rows L2 L2H HX
/-! ### how great a moment grows -/
theorem bump_le {l : List Int} {i : Nat} {B : Int} (h : ∀ x ∈ l, x ≤ B) (hB : 0 ≤ B) (d : Int) (hd : d ≤ 1) : ∀ x ∈ bump l i d, x ≤ B + 1 := by
  intro x hx
  rcases List.mem_or_eq_of_mem_set hx with hx | hx
  · have := h x hx
    omega
  · rw [hx, List.getD_eq_getElem?_getD]
    cases e : l[i]? with
    | none => show (0 : Int) + d ≤ _; omega
    | some y =>
      have := h y (List.mem_of_getElem? e)
      show y + d ≤ _
      omega
theorem send_le {W : Nat} : ∀ (es : List Int) (p : List Int × List Int) (B : Int), 0 ≤ B → (∀ x ∈ p.1, x ≤ B) → (∀ x ∈ p.2, x ≤ B) → (∀ x ∈ (es.foldl (sendM W) p).1, x ≤ B + es.length) ∧ ∀ x ∈ (es.foldl (sendM W) p).2, x ≤ B + es.length
  | [], p, B, _, h1, h2 => ⟨fun x hx => by have := h1 x hx; simp; omega, fun x hx => by have := h2 x hx; simp; omega⟩
  | e :: es, p, B, hB, h1, h2 => by
    rw [List.foldl_cons]
    have : (∀ x ∈ (sendM W p e).1, x ≤ B + 1) ∧ ∀ x ∈ (sendM W p e).2, x ≤ B + 1 := by
      unfold sendM
      split
      · exact ⟨bump_le h1 hB 1 (by omega), fun x hx => by have := h2 x hx; omega⟩
      · exact ⟨fun x hx => by have := h1 x hx; omega, bump_le h2 hB 1 (by omega)⟩
    obtain ⟨g1, g2⟩ := send_le es (sendM W p e) (B + 1) (by omega) this.1 this.2
    rw [List.length_cons]
    exact ⟨fun x hx => by have := g1 x hx; omega, fun x hx => by have := g2 x hx; omega⟩
structure MoLe (B : Int) (m : Mo) : Prop where
  w : ∀ x ∈ m.wt, x ≤ B
  h : ∀ x ∈ m.hd, x ≤ B
theorem MoLe.handle {ws : List (List (List Int))} {c B : Int} {m : Mo} (bok : BoardOk ws c) (h : MoLe B m) (hB : 0 ≤ B) (n : Nat) : MoLe (B + 4) (handleM ws m n) := by
  have hl : (endsAt ws m.st n).length ≤ 3 := by
    unfold endsAt
    rw [List.getD_eq_getElem?_getD (l := ws.getD n [])]
    cases e : (ws.getD n [])[(m.st.getD n 0).toNat]? with
    | none => exact Nat.zero_le _
    | some s =>
      have hs := List.mem_of_getElem? e
      rw [List.getD_eq_getElem?_getD] at hs
      cases e2 : ws[n]? with
      | none => rw [e2] at hs; cases hs
      | some w =>
        rw [e2] at hs
        exact ((bok.wheels w (List.mem_of_getElem? e2)).2.2 s hs).1
  obtain ⟨g1, g2⟩ := send_le (W := ws.length) (endsAt ws m.st n) (bump m.wt n (-1), m.hd) (B + 1) (by omega) (bump_le h.w hB (-1) (by omega)) (fun x hx => by have := h.h x hx; omega)
  exact ⟨fun x hx => by have := g1 x hx; omega, fun x hx => by have := g2 x hx; omega⟩
theorem walk_le {ws : List (List (List Int))} {c : Int} (bok : BoardOk ws c) : ∀ (row : List Nat) (i : Nat) (m : Mo) (B : Int), 0 ≤ B → MoLe B m → MoLe (B + 4 * row.length) (walkM ws i m row).2
  | [], _, m, B, _, h => ⟨fun x hx => by have := h.w x hx; simp; omega, fun x hx => by have := h.h x hx; simp; omega⟩
  | n :: r, i, m, B, hB, h => by
    by_cases g : m.wt.getD n 0 = 0
    · rw [walkM_stop g]
      exact ⟨fun x hx => by have := h.w x hx; rw [List.length_cons]; omega, fun x hx => by have := h.h x hx; rw [List.length_cons]; omega⟩
    · rw [walkM_go g]
      have := walk_le bok r (i + 1) (handleM ws m n) (B + 4) (by omega) (h.handle bok hB n)
      rw [List.length_cons]
      exact ⟨fun x hx => by have := this.w x hx; omega, fun x hx => by have := this.h x hx; omega⟩
theorem tx_mo {ws : List (List (List Int))} {c : Int} {m : Mo} (bok : BoardOk ws c) (mok : MoOk ws c m) (h : MoLe 1000000 m) : Tx 2500 2 (moD m) := by
  have w6 := bok.w6
  have c4 := bok.c4
  have sl := mok.sl
  have wl := mok.wl
  have hl := mok.hl
  have a : Tx 800 1 (stepD m.st) := tx_nums (fun e he => by
    obtain ⟨j, hj⟩ := List.getElem?_of_mem he
    have hjl := (List.getElem?_eq_some_iff.mp hj).1
    rw [sl] at hjl
    have hw := mok.sr j e _ hj (List.getElem?_eq_getElem hjl)
    have := (bok.wheels _ (List.getElem_mem hjl)).2.1
    omega) (by omega)
  have b : Tx 800 1 (stepD m.wt) := tx_nums (fun e he => by have := mok.wn e he; have := h.w e he; omega) (by omega)
  have d : Tx 800 1 (stepD m.hd) := tx_nums (fun e he => by have := mok.hn e he; have := h.h e he; omega) (by omega)
  have := a.wn; have := a.dp; have := b.wn; have := b.dp; have := d.wn; have := d.dp
  refine ⟨?_, ?_, ?_⟩ <;> unfold moD momD <;> simp only [within, withinAll, wt, wtAll, PyData.depth, PyData.depthAll]
  · exact ⟨a.iw, b.iw, d.iw, trivial⟩
  · omega
  · omega
theorem tx_all {α : Type} (f : α → PyData) (w e : Nat) (l : List α) (h : ∀ x ∈ l, Tx w e (f x)) : withinAll 2000000000000 (l.map f) ∧ wtAll (l.map f) ≤ (w + 2) * l.length ∧ PyData.depthAll (l.map f) ≤ e := by
  induction l with
  | nil => simp [withinAll, wtAll, PyData.depthAll]
  | cons x l ih =>
    obtain ⟨i1, i2, i3⟩ := ih fun y hy => h y (List.mem_cons_of_mem _ hy)
    obtain ⟨a1, a2, a3⟩ := h x List.mem_cons_self
    simp only [List.map_cons, withinAll, wtAll, PyData.depthAll, List.length_cons]
    refine ⟨⟨a1, i1⟩, ?_, by omega⟩
    rw [Nat.mul_add]
    omega
theorem tx_board {ws : List (List (List Int))} {c : Int} (h : BoardOk ws c) : Tx 21000 4 (boardD ws c) := by
  have h6 := h.w6
  have c0 := h.c0
  have c4 := h.c4
  have hw : ∀ x ∈ ws, Tx 3300 2 (wheelD x) := by
    intro x hx
    obtain ⟨x1, x4, hs⟩ := h.wheels x hx
    obtain ⟨i1, i2, i3⟩ := tx_all stepD 800 1 x fun s hs' => tx_nums (fun e he => by
      have := (hs s hs').2 e he
      omega) (by have := (hs s hs').1; omega)
    have : (800 + 2) * x.length ≤ 802 * 4 := Nat.mul_le_mul_left _ x4
    refine ⟨?_, ?_, ?_⟩ <;> unfold wheelD <;> simp only [within, wt, PyData.depth]
    · exact i1
    · omega
    · omega
  obtain ⟨i1, i2, i3⟩ := tx_all wheelD 3300 2 ws hw
  have : (3300 + 2) * ws.length ≤ 3302 * 6 := Nat.mul_le_mul_left _ h6
  refine ⟨?_, ?_, ?_⟩ <;> unfold boardD wheelsD <;> simp only [within, withinAll, wt, wtAll, PyData.depth, PyData.depthAll]
  · exact ⟨i1, by omega, trivial⟩
  · omega
  · omega
def rowD (row : List Nat) : PyData := .tuple (row.map fun n : Nat => PyData.int (n : Int))
theorem rowD_step (row : List Nat) : rowD row = stepD (row.map fun n : Nat => (n : Int)) := by
  unfold rowD stepD
  rw [List.map_map]
  rfl
theorem tx_row {row : List Nat} {W : Nat} (h : ∀ n ∈ row, n < W) (hW : W ≤ 6) (hl : row.length ≤ 60) : Tx 8000 1 (rowD row) := by
  rw [rowD_step]
  refine tx_nums (fun e he => ?_) (by rw [List.length_map]; omega)
  obtain ⟨n, hn, rfl⟩ := List.mem_map.mp he
  have := h n hn
  omega
theorem nd_wheels (ws : List (List (List Int))) : (wheelsD ws).hasDict = false := by
  have aux : ∀ {α : Type} (f : α → PyData) (l : List α), (∀ x ∈ l, (f x).hasDict = false) → PyData.hasDictAll (l.map f) = false := by
    intro α f l
    induction l with
    | nil => intro _; rfl
    | cons x l ih =>
      intro h
      rw [List.map_cons]
      simp only [PyData.hasDictAll]
      rw [h x List.mem_cons_self, ih fun y hy => h y (List.mem_cons_of_mem _ hy)]
      rfl
  unfold wheelsD
  simp only [PyData.hasDict]
  refine aux wheelD ws fun x _ => ?_
  unfold wheelD
  simp only [PyData.hasDict]
  exact aux stepD x fun s _ => nd_step s
theorem three_ok {ws : List (List (List Int))} {c : Int} {m : Mo} {row : List Nat} (bok : BoardOk ws c) (mok : MoOk ws c m) (ml : MoLe 1000000 m) (hr : ∀ n ∈ row, n < ws.length) (hl : row.length ≤ 60) : Gd 16000000 100 (.tuple [boardD ws c, moD m, rowD row]) ∧ PyData.hasDict (.tuple [boardD ws c, moD m, rowD row]) = false := by
  have a := tx_board bok
  have b := tx_mo bok mok ml
  have d := tx_row hr bok.w6 hl
  have := a.wn; have := a.dp; have := b.wn; have := b.dp; have := d.wn; have := d.dp
  refine ⟨⟨?_, ?_, ?_⟩, ?_⟩
  · simp only [within, withinAll]
    exact ⟨a.iw, b.iw, d.iw, trivial⟩
  · simp only [wt, wtAll]
    omega
  · simp only [PyData.depth, PyData.depthAll]
    omega
  · rw [rowD_step]
    unfold boardD
    simp only [PyData.hasDict, PyData.hasDictAll, nd_wheels, nd_mo, nd_step]
    rfl
def placeD : Option Nat → PyData
  | none => .none
  | some i => .int (i : Int)
theorem dp_place {K : PySem.W.Frag} {H : Hp} (o : Option Nat) : Dp K H (placeV o) (placeD o) := by
  cases o with
  | none => exact .non
  | some i => exact .int _
theorem filter_count (row : List Nat) (i : Nat) : (row.filter fun n => decide (n = i)).length = row.count i := by
  induction row with
  | nil => rfl
  | cons a r ih =>
    rw [List.filter_cons, List.count_cons]
    by_cases h : a = i
    · simp [h, ih]
    · simp [h, ih]
theorem walk_place {ws : List (List (List Int))} : ∀ (row : List Nat) (i : Nat) (m : Mo) (j : Nat), (walkM ws i m row).1 = some j → j < i + row.length
  | [], _, _, _, e => by cases e
  | n :: r, i, m, j, e => by
    by_cases g : m.wt.getD n 0 = 0
    · rw [walkM_stop g] at e
      cases e
      rw [List.length_cons]
      omega
    · rw [walkM_go g] at e
      have := walk_place r (i + 1) _ j e
      rw [List.length_cons]
      omega
theorem list_ok {b : Bool} {o : Option Nat} {l : List Int} (ho : ∀ i, o = some i → i < 1000) (h : Tx 800 1 (stepD l)) : Gd 16000000 100 (.list [.bool b, placeD o, stepD l]) ∧ PyData.hasDict (.list [.bool b, placeD o, stepD l]) = false := by
  have := h.wn
  have := h.dp
  have hp : within 2000000000000 (placeD o) ∧ wt (placeD o) ≤ 130 ∧ (placeD o).depth = 0 ∧ (placeD o).hasDict = false := by
    cases o with
    | none =>
      unfold placeD
      simp only [within, wt, PyData.depth, PyData.hasDict]
      exact ⟨trivial, by omega, trivial, trivial⟩
    | some i =>
      have := ho i rfl
      unfold placeD
      simp only [within, wt, PyData.depth, PyData.hasDict]
      exact ⟨by omega, by omega, trivial, trivial⟩
  obtain ⟨p1, p2, p3, p4⟩ := hp
  refine ⟨⟨?_, ?_, ?_⟩, ?_⟩
  · simp only [within, withinAll]
    exact ⟨trivial, p1, h.iw, trivial⟩
  · simp only [wt, wtAll]
    omega
  · simp only [PyData.depth, PyData.depthAll, p3]
    omega
  · simp only [PyData.hasDict, PyData.hasDictAll, p4, nd_step]
    rfl
theorem told_ok {m : Mo} (h : Tx 2500 2 (moD m)) : Gd 16000000 100 (.tuple [.str "told", moD m]) ∧ PyData.hasDict (.tuple [.str "told", moD m]) = false := by
  have := h.wn
  have := h.dp
  have hs : (reprText (Str.ofString "told")).length ≤ 100 := by decide +kernel
  refine ⟨⟨?_, ?_, ?_⟩, ?_⟩
  · simp only [within, withinAll]
    exact ⟨trivial, h.iw, trivial⟩
  · simp only [wt, wtAll]
    omega
  · simp only [PyData.depth, PyData.depthAll]
    omega
  · simp only [PyData.hasDict, PyData.hasDictAll, nd_mo]
    rfl
theorem row_ok : Gd 16000000 100 (.tuple [.str "row"]) ∧ PyData.hasDict (.tuple [.str "row"]) = false := by
  have hs : (reprText (Str.ofString "row")).length ≤ 100 := by decide +kernel
  refine ⟨⟨?_, ?_, ?_⟩, rfl⟩
  · simp only [within, withinAll]
    exact ⟨trivial, trivial⟩
  · simp only [wt, wtAll]
    omega
  · simp only [PyData.depth, PyData.depthAll]
    omega
theorem isNone_place (o : Option Nat) : decide (placeV o = V.non) = o.isNone := by
  cases o with
  | none => rfl
  | some i => rfl
section
variable {P : Program} {w : World} {K : PySem.W.Frag} {mg : Str → Option Value} {base : Heap} {k : Nat}
def spRight (Pt : Addr) : Sp := fun vs H Q _ => ∃ (vb v : V) (r : Addr) (ws : List (List (List Int))) (c : Int) (m : Mo) (row : List Nat), vs = [vb, v, .ref r] ∧ Td H vb (boardD ws c) ∧ BoardOk ws c ∧ Td H v (moD m) ∧ MoOk ws c m ∧ MoLe 1000 m ∧ RowF H r row ∧ row.length ≤ 60 ∧ (∀ n ∈ row, n < ws.length) ∧ LamX.Tabs [(Pt, lamQ "_law_right")] H ∧
  ∀ H', LamX.ExtN H H' → LamX.Tabs [(Pt, lamQ "_law_right")] H' → Q (.bl true) H'
theorem ok_right {c0 Pt CM CR : Addr} {C : Nat → Addr} (D : DefC K mg "_law_right" s__law_right ["_law_board_here", "_law_moment_here", "_law_row"] c0) (TB : LamX.TabB base mg c0 Pt) (B : Bi mg) (hM : mg "MarbleError" = some (.ref CM)) (hex_NoRow : PySem.W.exmOne K (.ref CR) (.ref CM) = some true) (ef_NoRow : EF K C CR 5)
    (D_said : Def K mg "_law_said" s__law_said ["_law_call"]) (cw : CalE P w K mg base k "_law_word" "_law_e" (spWord K C)) (cx_behind : CalX P w K mg base k "behind" ["board", "moment", "row"] (spBehindX CR)) (c__law_gone : Cal P w K mg base k "_law_gone" ["_law_board_here", "_law_moment_here", "_law_row"] spGoneL)
    (c_is_let : Cal P w K mg base k "is_let" ["board", "moment", "row"] (spWrong fun o => .bl o.isNone)) (c_first_wrong : Cal P w K mg base k "first_wrong" ["board", "moment", "row"] (spWrong placeV)) (c_counts_of : Cal P w K mg base k "counts_of" ["board", "row"] spCounts) :
    CalG P w K mg base (k + 3) "_law_right" ["_law_board_here", "_law_moment_here", "_law_row"] (spRight Pt) := by
  refine D.okG sc__law_right (fun vs H Q E h => ?_) (fun f A outer s H vs Q E en hr2 h => ?_)
  · obtain ⟨vb, v, r, ws, c, m, row, rfl, _⟩ := h
    rfl
  · obtain ⟨vb, v, r, ws, c, m, row, rfl, tb, bok, tv, mok, ml, rf, hz, hrow, t0, q⟩ := h
    have hr := hr2.mono (show k ≤ k + 2 by omega)
    refine ⟨_, (pss_cons (ps_asg (pe_tup (pa_cons (pe_callB (call_reprP (entx_of en) (hu150 hr)) rfl B.repr_ (by decide +kernel) (pa_cons (pe_tup (pa_cons (pv 0) (pa_cons (pv 1) (pa_cons (pv 2) pa_nil)))) pa_nil)) (pa_cons (pe_cal c__law_gone hr rfl (pa_cons (pv 0) (pa_cons (pv 1) (pa_cons (pv 2) pa_nil)))) pa_nil))) (pg_tup rfl (pgs_cons (pg_name (i := 3) sc__law_right.nd rfl (Or.inl rfl)) (pgs_cons (pg_tup rfl (pgs_cons (pg_name (i := 4) sc__law_right.nd rfl (Or.inl rfl)) (pgs_cons (pg_name (i := 5) sc__law_right.nd rfl (Or.inl rfl)) pgs_nil))) pgs_nil))))
  (pss_cons (ps_set (i := 6) sc__law_right.nd rfl (Or.inl rfl) (pe_callTy call_tuple_of rfl B.tuple_ (by decide +kernel) (pa_cons (pe_lc (own := [("_law_wheel", 10)]) rfl sc__law_right.nd (pi_range1 rfl B.range_ (pa_cons (pe_callB call_len_seq rfl B.len_ (by decide +kernel) (pa_cons (pe_ix ix_tup (pv 0) pe_int (fun _ _ => rfl)) pa_nil)) pa_nil)) (blkOk_by (N := ["_law_board_here", "_law_moment_here", "_law_row", "_law_kept", "_law_place", "_law_later", "_law_counts", "_law_lap", "_law_answers", "_law_due", "_law_wheel", "_law_one"]) (sc := defScope s__law_right) (by decide +kernel)) (fun _ _ _ _ _ => (pg_name (i := 10) sc__law_right.nd rfl (Or.inr rfl))) (fun _ _ _ _ _ => pts_nil) (fun _ _ _ _ _ => (pe_callB (id := "len") (call_len_seqK (K := K)) rfl B.len_ (by decide +kernel) (pa_cons (pe_lc (own := [("_law_one", 11)]) rfl sc__law_right.nd (pi_tupK (K := K) (pv 2)) (blkOk_by (N := ["_law_board_here", "_law_moment_here", "_law_row", "_law_kept", "_law_place", "_law_later", "_law_counts", "_law_lap", "_law_answers", "_law_due", "_law_wheel", "_law_one"]) (sc := relabelS (lcScB (defBody s__law_right)) (defScope s__law_right)) (by decide +kernel)) (fun _ _ _ _ _ => (pg_name (i := 11) sc__law_right.nd rfl (Or.inl rfl))) (fun _ _ _ _ _ => (pts_one (pt_cmpR op_eq (pv 11) (pv 10) (nomark _)))) (fun _ _ _ _ _ => (pv 11))) pa_nil)))) pa_nil)))
  (pss_cons (ps_for PassesOwn.never rfl (pi_range1 rfl B.range_ (pa_cons pe_int pa_nil)) (pg_name (i := 7) sc__law_right.nd rfl (Or.inl rfl))
  (pss_cons (ps_set (i := 8) sc__law_right.nd rfl (Or.inl rfl) (pe_lst (pa_cons (pe_cal c_is_let hr rfl (pa_cons (pv 0) (pa_cons (pv 1) (pa_cons (pv 2) pa_nil)))) (pa_cons (pe_cal c_first_wrong hr rfl (pa_cons (pv 0) (pa_cons (pv 1) (pa_cons (pv 2) pa_nil)))) (pa_cons (pe_cal c_counts_of hr rfl (pa_cons (pv 0) (pa_cons (pv 2) pa_nil))) pa_nil)))))
  (pss_cons (ps_if (pt_cmpR op_ne (pe_callB (call_reprP (entx_of en) (hu150 hr)) rfl B.repr_ (by decide +kernel) (pa_cons (pv 8) pa_nil)) (pe_callB (call_reprP (entx_of en) (hu150 hr)) rfl B.repr_ (by decide +kernel) (pa_cons (pe_lst (pa_cons (pe_cmpR op_isN (pv 4) pe_non (nomark _)) (pa_cons (pv 4) (pa_cons (pv 6) pa_nil)))) pa_nil)) (nomark _))
  (pss_one (ps_ret pe_bl))
  pss_nil)
  (pss_cons (ps_set (i := 9) sc__law_right.nd rfl (Or.inl rfl) (pe_ifExp (pt_cmpR op_isN (pv 4) pe_non (nomark _)) (pe_tup (pa_cons pe_str (pa_cons (pv 5) pa_nil))) (pe_tup (pa_cons pe_str pa_nil))))
  (pss_one (ps_if (pt_cmpR op_ne (pe_callB (call_reprP (entx_of en) (hu150 hr)) rfl B.repr_ (by decide +kernel) (pa_cons (pe_said (T := [(Pt, lamQ "_law_right")]) D_said cw hM TB rfl (by rw [qual_cx]; exact List.mem_singleton.mpr rfl) (fun p hp _ => by rw [qual_cx, List.mem_singleton.mp hp]) hr2 rfl (LamX.lamS_by (sc := defScope s__law_right) (by decide +kernel)) rfl (fun _ _ _ _ _ => rfl) (fun A outer s H E f c hrL => (pe_calX (takes_of rfl rfl rfl rfl) cx_behind hrL rfl (pa_cons (pv 0) (pa_cons (pv 1) (pa_cons (pv 2) pa_nil)))))) pa_nil)) (pe_callB (call_reprP (entx_of en) (hu150 hr)) rfl B.repr_ (by decide +kernel) (pa_cons (pv 9) pa_nil)) (nomark _))
  (pss_one (ps_ret pe_bl))
  pss_nil))))))
  (pss_one (ps_ret (pe_cmpR op_eq (pe_callB (call_reprP (entx_of en) (hu150 hr)) rfl B.repr_ (by decide +kernel) (pa_cons (pe_tup (pa_cons (pv 0) (pa_cons (pv 1) (pa_cons (pv 2) pa_nil)))) pa_nil)) (pv 3) (nomark _))))))), ?_⟩
    have w1 : ∀ x ∈ ws, 1 ≤ x.length := fun x hx => (bok.wheels x hx).1
    have w6 := bok.w6
    have ml' : MoLe 1000000 m := ⟨fun x hx => by have := ml.w x hx; omega, fun x hx => by have := ml.h x hx; omega⟩
    obtain ⟨g3, n3⟩ := three_ok bok mok ml' hrow hz
    have mok2 := walkM_form w1 row 0 m mok
    have ml2 : MoLe 1000000 (walkM ws 0 m row).2 := by
      have := walk_le bok row 0 m 1000 (by omega) ml
      exact ⟨fun x hx => by have := this.w x hx; omega, fun x hx => by have := this.h x hx; omega⟩
    have tx2 := tx_mo bok mok2 ml2
    -- kept
    refine ⟨vb, rfl, v, rfl, .ref r, rfl, by show 3 ≤ sizeLine; decide, fun p1 n1 => ?_⟩
    have s1 : Same H (upd H p1 (.tup [vb, v, .ref r])) := Same.new n1
    have e1 : upd H p1 (.tup [vb, v, .ref r]) p1 = some (.tup [vb, v, .ref r]) := upd_same
    generalize upd H p1 (.tup [vb, v, .ref r]) = H1 at s1 e1 ⊢
    refine ⟨.ref p1, .tuple [boardD ws c, moD m, rowD row], rfl, .tup (SqT.of e1) (.cons (Td.dp _ _ (Td.mono (KT.same s1) _ _ tb)) (.cons (Td.dp _ _ (Td.mono (KT.same s1) _ _ tv)) (.cons (.tup (rf.same s1).sq (dp_row _)) .nil))), n3, g3, ?_⟩
    refine ⟨vb, rfl, v, rfl, .ref r, rfl, vb, v, r, ws, c, m, row, rfl, Td.mono (KT.same s1) _ _ tb, bok, Td.mono (KT.same s1) _ _ tv, mok, .inr (rf.same s1), hrow, fun U vm H2 s2 eU tm => ?_⟩
    refine ⟨by show 2 ≤ sizeLine; decide, fun W nW => ?_⟩
    have s3 : Same H2 (upd H2 W (.tup [.str (PyData.tuple [boardD ws c, moD m, rowD row]).shown, .ref U])) := Same.new nW
    have eW : upd H2 W (.tup [.str (PyData.tuple [boardD ws c, moD m, rowD row]).shown, .ref U]) W = some (.tup [.str (PyData.tuple [boardD ws c, moD m, rowD row]).shown, .ref U]) := upd_same
    generalize upd H2 W (.tup [.str (PyData.tuple [boardD ws c, moD m, rowD row]).shown, .ref U]) = H3 at s3 eW ⊢
    refine ⟨W, _, rfl, SqT.of eW, rfl, _, _, rfl, _, _, rfl, U, _, rfl, SqT.of (s3 _ _ eU), rfl, _, _, rfl, _, _, rfl, rfl, rfl, ?_⟩
    have s03 := s1.trans (s2.trans s3)
    have tm3 := Td.mono (KT.same s3) _ _ tm
    have tb3 := Td.mono (KT.same s03) _ _ tb
    -- counts
    have tbx := tb3
    obtain ⟨ab, aw, ys, rfl, eb, ew, hy⟩ := Td.boardOf tb3
    have hl : ys.length = ws.length := by rw [hy.len, List.length_map]
    dsimp only
    refine s_asg (s_cb1 ?_)
    refine lc_intsG (J := Itr 0 ys.length) (n := ys.length) walk_range (fun n => ((row.count n : Nat) : Int)) (fun R r' => ⟨.ref ab, rfl, ab, _, 0, _, rfl, rfl, SqT.of eb, atI_nat (j := 0) rfl, aw, ys, rfl, .inr (SqT.of ew), _, rfl, by omega, by omega, r'⟩) (by omega) (fun _ _ => trivial) (fun i x H4 H5 hi s4 y Q' q' => ?_) (fun D4 H4 s4 eD nD => ?_)
    · obtain ⟨rfl, rfl⟩ := y
      refine ⟨wipe1 _, ?_⟩
      refine s_cb1 ?_
      refine ⟨.ref r, rfl, r, rfl, ⟨_, ((rf.same s03).same s4).sq⟩, fun D5 hD5 => ?_⟩
      refine lc_tup (xs := rowV row) (fun j H' => Same H5 H' ∧ H' D5 = some (.lst (rowV ((row.take j).filter fun n => decide (n = i))))) ⟨Same.new hD5, by rw [upd_same]; rfl⟩ (fun j H' _ h => (((rf.same s03).same s4).same h.1).sq) (fun j x H' hx h => ?_) (fun H' h => ?_)
      · obtain ⟨s', e'⟩ := h
        have hj : j < row.length := by
          have := (List.getElem?_eq_some_iff.mp hx).1
          rw [rowV_len] at this
          exact this
        have hx' : x = .int ((row[j] : Nat) : Int) := by
          have e2 : (rowV row)[j]? = some (.int ((row[j] : Nat) : Int)) := by
            unfold rowV
            rw [List.getElem?_map, List.getElem?_eq_getElem hj]
            rfl
          exact Option.some.inj (hx.symm.trans e2)
        subst hx'
        have htk : row.take (j + 1) = row.take j ++ [row[j]] := List.take_succ_eq_append_getElem hj
        refine ⟨wipe1 _, .int ((row[j] : Nat) : Int), rfl, .int (0 + (i : Int)), rfl, rfl, _, rfl, ite2 (fun g => ?_) (fun g => ?_)⟩
        · have g0 : row[j] = i := by
            have := V.int.inj (of_decide_eq_true g)
            omega
          refine ⟨.int ((row[j] : Nat) : Int), rfl, _, e', ?_, fun b o e => ?_, ?_⟩
          · rw [rowV_len]
            have h1 := List.length_filter_le (fun n => decide (n = i)) (row.take j)
            rw [List.length_take] at h1
            exact small1000 (by omega)
          · rw [upd_ne (ne_of_none e hD5)]
            exact s' _ _ e
          · rw [upd_same, htk, List.filter_append]
            have : ([row[j]].filter fun n => decide (n = i)) = [row[j]] := by
              rw [List.filter_cons, if_pos (decide_eq_true g0)]
              rfl
            rw [this]
            unfold rowV
            rw [List.map_append]
            rfl
        · have g0 : ¬ row[j] = i := fun z => g (decide_eq_true (congrArg V.int (by rw [z]; omega)))
          refine ⟨s', ?_⟩
          rw [htk, List.filter_append]
          have : ([row[j]].filter fun n => decide (n = i)) = [] := by
            rw [List.filter_cons, if_neg (fun z => g0 (of_decide_eq_true z))]
            rfl
          rw [this, List.append_nil]
          exact e'
      · obtain ⟨s', e'⟩ := h
        rw [rowV_len, List.take_length] at e'
        refine ⟨D5, _, rfl, .inl (SqL.of e'), ?_⟩
        rw [rowV_len, filter_count]
        exact q' H' s'
    refine ⟨D4, _, rfl, .inl ⟨SqL.of eD, fun T nT => ?_⟩⟩
    rw [hl]
    have s5 : Same H4 (upd H4 T (.tup ((countsOf ws.length row).map V.int))) := Same.new nT
    have eT : upd H4 T (.tup ((countsOf ws.length row).map V.int)) T = some (.tup ((countsOf ws.length row).map V.int)) := upd_same
    have s05 : Same H (upd H4 T (.tup ((countsOf ws.length row).map V.int))) := s03.trans (s4.trans s5)
    have tm5 := Td.mono (KT.same (s4.trans s5)) _ _ tm3
    generalize hH5 : upd H4 T (.tup ((countsOf ws.length row).map V.int)) = H5 at s5 eT s05 tm5
    have hH5' : upd H4 T (.tup (((List.range ws.length).map fun n => ((row.count n : Nat) : Int)).map V.int)) = H5 := hH5
    rw [hH5']
    have t5 := LamX.Tabs.ext t0 fun b o e => s05 b o e
    have cl : (countsOf ws.length row).length = ws.length := by unfold countsOf; rw [List.length_map, List.length_range]
    have txc : Tx 800 1 (stepD (countsOf ws.length row)) := tx_nums (fun e he => by
      unfold countsOf at he
      obtain ⟨n, _, rfl⟩ := List.mem_map.mp he
      have := List.count_le_length (a := n) (l := row)
      omega) (by omega)
    have hpl : ∀ i, (walkM ws 0 m row).1 = some i → i < 1000 := fun i e => by
      have := walk_place row 0 m i e
      omega
    refine ⟨2, rfl, by decide, by decide, for_range (n := 2) (fun i σ H' => ∃ y7 y8 y9 : Option V, σ = [some (.ref ab), some v, some (.ref r), some (.str (PyData.tuple [boardD ws c, moD m, rowD row]).shown), some (placeV (walkM ws 0 m row).1), some vm, some (.ref T), y7, y8, y9, none, none] ∧ LamX.ExtN H5 H' ∧ LamX.Tabs [(Pt, lamQ "_law_right")] H') ⟨none, none, none, rfl, LamX.ExtN.refl H5, t5⟩ (fun i σ H6 hi pp => ?_) (fun σ H6 pp => ?_)⟩
    · obtain ⟨y7, y8, y9, rfl, xG, tG⟩ := pp
      have x6 : LamX.ExtN H H6 := (LamX.ExtN.of s05).trans xG
      have tb6 := Td.mono (KT.extN x6) _ _ tb
      have tv6 := Td.mono (KT.extN x6) _ _ tv
      have rf6 := rf.extN x6
      refine ⟨.ref ab, rfl, v, rfl, .ref r, rfl, .ref ab, v, r, ws, c, m, row, rfl, tb6, bok, tv6, mok, .inr rf6, by omega, hrow, fun H7 s7 => ?_⟩
      refine ⟨.ref ab, rfl, v, rfl, .ref r, rfl, .ref ab, v, r, ws, c, m, row, rfl, Td.mono (KT.same s7) _ _ tb6, bok, Td.mono (KT.same s7) _ _ tv6, mok, .inr (rf6.same s7), by omega, hrow, fun H8 s8 => ?_⟩
      have s68 := s7.trans s8
      refine ⟨.ref ab, rfl, .ref r, rfl, .ref ab, r, ws, c, row, rfl, Td.mono (KT.same s68) _ _ tb6, bok, rf6.same s68, by omega, hrow, fun T2 H9 s9 eT2 => ?_⟩
      refine ⟨by show 3 ≤ sizeLine; decide, fun L nL => ?_⟩
      have s10 : Same H9 (upd H9 L (.lst [.bl (walkM ws 0 m row).1.isNone, placeV (walkM ws 0 m row).1, .ref T2])) := Same.new nL
      have eL : upd H9 L (.lst [.bl (walkM ws 0 m row).1.isNone, placeV (walkM ws 0 m row).1, .ref T2]) L = some (.lst [.bl (walkM ws 0 m row).1.isNone, placeV (walkM ws 0 m row).1, .ref T2]) := upd_same
      generalize upd H9 L (.lst [.bl (walkM ws 0 m row).1.isNone, placeV (walkM ws 0 m row).1, .ref T2]) = H10 at s10 eL ⊢
      have s610 := s68.trans (s9.trans s10)
      obtain ⟨g1, g2⟩ := list_ok (b := (walkM ws 0 m row).1.isNone) hpl txc
      refine ⟨.ref L, rfl, .ref L, .list [.bool (walkM ws 0 m row).1.isNone, placeD (walkM ws 0 m row).1, stepD (countsOf ws.length row)], rfl, .lst (SqL.of eL) (.cons (.bl _) (.cons (dp_place _) (.cons (Td.dp _ _ (.tup (s10 _ _ eT2) (TdAll.ints _))) .nil))), g2, g1, ?_⟩
      have eT6 := s610 _ _ (xG _ _ eT fun _ z => nomatch z)
      refine ⟨placeV (walkM ws 0 m row).1, rfl, rfl, placeV (walkM ws 0 m row).1, rfl, .ref T, rfl, by show 3 ≤ sizeLine; decide, fun L2 nL2 => ?_⟩
      rw [isNone_place]
      have s11 : Same H10 (upd H10 L2 (.lst [.bl (walkM ws 0 m row).1.isNone, placeV (walkM ws 0 m row).1, .ref T])) := Same.new nL2
      have eL2 : upd H10 L2 (.lst [.bl (walkM ws 0 m row).1.isNone, placeV (walkM ws 0 m row).1, .ref T]) L2 = some (.lst [.bl (walkM ws 0 m row).1.isNone, placeV (walkM ws 0 m row).1, .ref T]) := upd_same
      generalize upd H10 L2 (.lst [.bl (walkM ws 0 m row).1.isNone, placeV (walkM ws 0 m row).1, .ref T]) = H11 at s11 eL2 ⊢
      refine ⟨.ref L2, .list [.bool (walkM ws 0 m row).1.isNone, placeD (walkM ws 0 m row).1, stepD (countsOf ws.length row)], rfl, .lst (SqL.of eL2) (.cons (.bl _) (.cons (dp_place _) (.cons (Td.dp _ _ (.tup (s11 _ _ eT6) (TdAll.ints _))) .nil))), g2, g1, rfl, _, rfl, ?_⟩
      refine iteNS rfl ?_
      have x11 : LamX.ExtN H5 H11 := xG.trans (LamX.ExtN.of (s610.trans s11))
      have t11 := LamX.Tabs.ext tG fun b o e => (s610.trans s11) b o e
      have tm11 := Td.mono (KT.extN x11) _ _ tm5
      obtain ⟨h1, h2⟩ := told_ok tx2
      obtain ⟨k1, k2⟩ := row_ok
      cases ho : (walkM ws 0 m row).1 with
      | none =>
        refine ⟨.non, rfl, rfl, _, rfl, ?_⟩
        refine iteT ⟨vm, rfl, by show 2 ≤ sizeLine; decide, fun d1 nd1 => ?_⟩
        have s12 : Same H11 (upd H11 d1 (.tup [.str "told", vm])) := Same.new nd1
        have ed1 : upd H11 d1 (.tup [.str "told", vm]) d1 = some (.tup [.str "told", vm]) := upd_same
        generalize upd H11 d1 (.tup [.str "told", vm]) = H12 at s12 ed1 ⊢
        have t12 := LamX.Tabs.ext t11 fun b o e => s12 b o e
        have x12 := x11.trans (LamX.ExtN.of s12)
        refine ⟨t12, fun H13 x13 t13 => ?_⟩
        have x013 : LamX.ExtN H H13 := (LamX.ExtN.of s05).trans (x12.trans x13)
        refine ⟨.ref ab, rfl, v, rfl, .ref r, rfl, .ref ab, v, r, ws, c, m, row, rfl, Td.mono (KT.extN x013) _ _ tb, bok, Td.mono (KT.extN x013) _ _ tv, mok, .inr (rf.extN x013), by omega, hrow, fun vm2 H14 _ s14 tm2 => ?_, fun H14 z _ => absurd ho z⟩
        refine ⟨by show 2 ≤ sizeLine; decide, fun d2 nd2 => ?_⟩
        have s15 : Same H14 (upd H14 d2 (.tup [.str "told", vm2])) := Same.new nd2
        have ed2 : upd H14 d2 (.tup [.str "told", vm2]) d2 = some (.tup [.str "told", vm2]) := upd_same
        generalize upd H14 d2 (.tup [.str "told", vm2]) = H15 at s15 ed2 ⊢
        have s1315 := s14.trans s15
        have ed1' := s1315 _ _ (x13 _ _ ed1 fun _ z => nomatch z)
        have x1115 : LamX.ExtN H11 H15 := (LamX.ExtN.of s12).trans (x13.trans (LamX.ExtN.of s1315))
        refine ⟨.ref d2, .tuple [.str "told", moD (walkM ws 0 m row).2], rfl, .tup (SqT.of ed2) (.cons (.str _) (.cons (Td.dp _ _ (Td.mono (KT.same s15) _ _ tm2)) .nil)), h2, h1, .ref d1, rfl, .ref d1, .tuple [.str "told", moD (walkM ws 0 m row).2], rfl, .tup (SqT.of ed1') (.cons (.str _) (.cons (Td.dp _ _ (Td.mono (KT.extN x1115) _ _ tm11)) .nil)), h2, h1, rfl, _, rfl, ?_⟩
        generalize (PyData.tuple [PyData.str "told", moD (walkM ws 0 m row).2]).shown = S
        refine iteNS rfl ?_
        exact ⟨some (.int (0 + (i : Int))), some (.ref L), some (.ref d1), rfl, x11.trans x1115, LamX.Tabs.ext t13 fun b o e => s1315 b o e⟩
      | some pl =>
        refine ⟨.int (pl : Int), rfl, rfl, _, rfl, ?_⟩
        refine iteF ⟨by show 1 ≤ sizeLine; decide, fun d1 nd1 => ?_⟩
        have s12 : Same H11 (upd H11 d1 (.tup [.str "row"])) := Same.new nd1
        have ed1 : upd H11 d1 (.tup [.str "row"]) d1 = some (.tup [.str "row"]) := upd_same
        generalize upd H11 d1 (.tup [.str "row"]) = H12 at s12 ed1 ⊢
        have t12 := LamX.Tabs.ext t11 fun b o e => s12 b o e
        have x12 := x11.trans (LamX.ExtN.of s12)
        refine ⟨t12, fun H13 x13 t13 => ?_⟩
        have x013 : LamX.ExtN H H13 := (LamX.ExtN.of s05).trans (x12.trans x13)
        refine ⟨.ref ab, rfl, v, rfl, .ref r, rfl, .ref ab, v, r, ws, c, m, row, rfl, Td.mono (KT.extN x013) _ _ tb, bok, Td.mono (KT.extN x013) _ _ tv, mok, .inr (rf.extN x013), by omega, hrow, fun vm2 H14 z _ _ => ?_, fun H14 _ s14 => ⟨true, hex_NoRow, fun _ ea na => ⟨CR, 5, rfl, rfl, by decide, ef_NoRow, fun d2 H15 s15 ed2 => ?_⟩, fun z => nomatch z⟩⟩
        · rw [ho] at z
          cases z
        · have s1315 := s14.trans s15
          have ed1' := s1315 _ _ (x13 _ _ ed1 fun _ z => nomatch z)
          have x1115 : LamX.ExtN H11 H15 := (LamX.ExtN.of s12).trans (x13.trans (LamX.ExtN.of s1315))
          refine ⟨.ref d2, .tuple [.str "row"], rfl, .tup (SqT.of ed2) (.cons (.str _) .nil), k2, k1, .ref d1, rfl, .ref d1, .tuple [.str "row"], rfl, .tup (SqT.of ed1') (.cons (.str _) .nil), k2, k1, rfl, _, rfl, ?_⟩
          generalize (PyData.tuple [PyData.str "row"]).shown = S
          refine iteNS rfl ?_
          exact ⟨some (.int (0 + (i : Int))), some (.ref L), some (.ref d1), rfl, x11.trans x1115, LamX.Tabs.ext t13 fun b o e => s1315 b o e⟩
    · obtain ⟨y7, y8, y9, rfl, xG, tG⟩ := pp
      have x6 : LamX.ExtN H H6 := (LamX.ExtN.of s05).trans xG
      refine ⟨.ref ab, rfl, v, rfl, .ref r, rfl, by show 3 ≤ sizeLine; decide, fun p2 n2 => ?_⟩
      have s7 : Same H6 (upd H6 p2 (.tup [.ref ab, v, .ref r])) := Same.new n2
      have e7 : upd H6 p2 (.tup [.ref ab, v, .ref r]) p2 = some (.tup [.ref ab, v, .ref r]) := upd_same
      generalize upd H6 p2 (.tup [.ref ab, v, .ref r]) = H7 at s7 e7 ⊢
      have x7 := x6.trans (LamX.ExtN.of s7)
      refine ⟨.ref p2, .tuple [boardD ws c, moD m, rowD row], rfl, .tup (SqT.of e7) (.cons (Td.dp _ _ (Td.mono (KT.extN x7) _ _ tb)) (.cons (Td.dp _ _ (Td.mono (KT.extN x7) _ _ tv)) (.cons (.tup (rf.extN x7).sq (dp_row _)) .nil))), n3, g3, .str _, rfl, rfl, ?_⟩
      rw [decide_eq_true rfl]
      exact q H7 x7 (LamX.Tabs.ext tG fun b o e => s7 b o e)
end
end K04

set_option maxRecDepth 100000
set_option maxHeartbeats 1000000
namespace K04
open PySem PySem.Spec PyProof.Rows L2 L2H HX
abbrev s_law : Stmt := topS 66
theorem sc_law : FnScope ["_law_script", "_law_k", "_law_pen_here", "_law_turn", "_law_board_here", "_law_moment_here", "_law_row", "_law_any_row", "_law_one", "_law_lap"] ["_law_script"] (defScope s_law) := ⟨rfl, rfl, rfl, by decide +kernel, rfl, by decide +kernel, by decide +kernel⟩
theorem PenAt.extN {H H' : Hp} {pn : Addr} {m : Nat} (h : PenAt H pn m) (k : LamX.ExtN H H') : PenAt H' pn m := by
  obtain ⟨p0, p1, p2, e, r⟩ := h
  exact ⟨p0, p1, p2, k _ _ e (fun _ z => nomatch z), r⟩
theorem PenAt.tabs {T : List (Addr × Str)} {H H' : Hp} {pn : Addr} {m : Nat} (h : PenAt H pn m) (t : LamX.Tabs T H) (k : Kp (· = pn) H H') : LamX.Tabs T H' := by
  obtain ⟨xs, e⟩ := h.list
  exact Tabs.kp t e k
theorem PenAt.row {Ha Hb : Hp} {pn x : Addr} {m : Nat} {l : List Nat} (pe : PenAt Ha pn m) (rx : RowF Ha x l) (kk : Kp (· = pn) Ha Hb) : RowF Hb x l := by
  obtain ⟨o, od, eo⟩ := rx
  refine ⟨o, od, kk _ _ eo fun z => ?_⟩
  obtain ⟨t, et⟩ := pe.list
  rw [z, et] at eo
  cases eo
def Rows (H : Hp) (W : Nat) (xs : List V) : Prop := ∀ x ∈ xs, ∃ p row, x = V.ref p ∧ RowF H p row ∧ row.length ≤ 60 ∧ ∀ n ∈ row, n < W
theorem Rows.kp {H H' : Hp} {W m : Nat} {xs : List V} {pn : Addr} (h : Rows H W xs) (pe : PenAt H pn m) (k : Kp (· = pn) H H') : Rows H' W xs := fun x hx => by
  obtain ⟨p, row, e, r, l⟩ := h x hx
  exact ⟨p, row, e, pe.row r k, l⟩
theorem Rows.same {H H' : Hp} {W : Nat} {xs : List V} (h : Rows H W xs) (s : Same H H') : Rows H' W xs := fun x hx => by
  obtain ⟨p, row, e, r, l⟩ := h x hx
  exact ⟨p, row, e, r.same s, l⟩
section
variable {P : Program} {w : World} {K : PySem.W.Frag} {mg : Str → Option Value} {base : Heap} {k : Nat}
def spLaw (Pt : Addr) (K : PySem.W.Frag) : Sp := fun vs H Q _ => ∃ (a : Addr) (ns : List Int), vs = [.ref a] ∧ SqL K H a (ns.map V.int) ∧ ns.length ≤ 63 ∧ H Pt = some (.tbl #[]) ∧ ∀ H', Q (.bl true) H'
theorem ok_law {f Pt : Addr} {fd : FuncData} (F : Fun K "law" "law" s_law f fd) (B : Bi mg) (c__law_right : CalG P w K mg base k "_law_right" ["_law_board_here", "_law_moment_here", "_law_row"] (spRight Pt)) (c__law_near : Cal P w K mg base k "_law_near" ["_law_pen_here", "_law_board_here", "_law_row"] spNear)
    (c__law_let_row : Cal P w K mg base k "_law_let_row" ["_law_pen_here", "_law_board_here", "_law_moment_here", "_law_most"] spLet) (c__law_moment : Cal P w K mg base k "_law_moment" ["_law_pen_here", "_law_board_here", "_law_most"] spDrawn) (c__law_draw : Cal P w K mg base k "_law_draw" ["_law_pen_here", "_law_many"] spDraw)
    (c__law_board : Cal P w K mg base k "_law_board" ["_law_pen_here", "_law_most"] spBoard) (c__law_pen : Cal P w K mg base k "_law_pen" ["_law_cell"] spPen)
    (c__law_cell_at : Cal P w K mg base k "_law_cell_at" ["_law_script", "_law_k"] (spCell K)) : FnG P w K mg base (k + 1) f fd ["_law_script"] (spLaw Pt K) := by
  refine Fun.okG F sc_law (fun vs H Q E h => ?_) (fun cdv A outer s H vs Q E en hr h => ?_)
  · obtain ⟨a, ns, rfl, _⟩ := h
    rfl
  · obtain ⟨a, ns, rfl, hS, hl, hP, q⟩ := h
    refine ⟨_, (pss_cons (ps_for PassesOwn.never rfl (pi_range1 rfl B.range_ (pa_cons (pe_callB (call_max2 rfl) rfl B.max_ (by decide +kernel) (pa_cons pe_int (pa_cons (pe_callB (call_min2 rfl) rfl B.min_ (by decide +kernel) (pa_cons (pe_callB call_len_seq rfl B.len_ (by decide +kernel) (pa_cons (pv 0) pa_nil)) (pa_cons pe_int pa_nil))) pa_nil))) pa_nil)) (pg_name (i := 1) sc_law.nd rfl (Or.inl rfl))
  (pss_cons (ps_set (i := 2) sc_law.nd rfl (Or.inr rfl) (pe_cal c__law_pen hr rfl (pa_cons (pe_cal c__law_cell_at hr rfl (pa_cons (pv 0) (pa_cons (pv 1) pa_nil))) pa_nil)))
  (pss_one (ps_for PassesOwn.never rfl (pi_range1 rfl B.range_ (pa_cons pe_int pa_nil)) (pg_name (i := 3) sc_law.nd rfl (Or.inl rfl))
  (pss_cons (ps_set (i := 4) sc_law.nd rfl (Or.inr rfl) (pe_cal c__law_board hr rfl (pa_cons (pv 2) (pa_cons pe_int pa_nil))))
  (pss_cons (ps_set (i := 5) sc_law.nd rfl (Or.inl rfl) (pe_cal c__law_moment hr rfl (pa_cons (pv 2) (pa_cons (pv 4) (pa_cons pe_int pa_nil)))))
  (pss_cons (ps_set (i := 6) sc_law.nd rfl (Or.inr rfl) (pe_ix ix_tup (pe_cal c__law_let_row hr rfl (pa_cons (pv 2) (pa_cons (pv 4) (pa_cons (pv 5) (pa_cons (pe_cal c__law_draw hr rfl (pa_cons (pv 2) (pa_cons pe_int pa_nil))) pa_nil))))) pe_int (fun _ _ => rfl)))
  (pss_cons (ps_set (i := 7) sc_law.nd rfl (Or.inl rfl) (pe_callTy call_tuple_frz rfl B.tuple_ (by decide +kernel) (pa_cons (pe_lc (own := [("_law_lap", 9)]) rfl sc_law.nd (pi_range1 rfl B.range_ (pa_cons (pe_cal c__law_draw hr rfl (pa_cons (pv 2) (pa_cons pe_int pa_nil))) pa_nil)) (blkOk_by (N := ["_law_script", "_law_k", "_law_pen_here", "_law_turn", "_law_board_here", "_law_moment_here", "_law_row", "_law_any_row", "_law_one", "_law_lap"]) (sc := defScope s_law) (by decide +kernel)) (fun _ _ _ _ _ => (pg_name (i := 9) sc_law.nd rfl (Or.inl rfl))) (fun _ _ _ _ _ => pts_nil) (fun _ _ _ _ _ => (pe_cal c__law_draw hr rfl (pa_cons (pv 2) (pa_cons (pe_callB (id := "len") (call_len_seqK (K := K)) rfl B.len_ (by decide +kernel) (pa_cons (pe_ix (ix_tupK (K := K)) (pv 4) pe_int (fun _ _ => rfl)) pa_nil)) pa_nil))))) pa_nil)))
  (pss_one (ps_for PassesOwn.never rfl (pi_list (pe_op op_cat (pe_lst (pa_cons (pv 6) (pa_cons (pv 7) (pa_cons (pe_tupF pa_nil) pa_nil)))) (pe_lc (own := [("_law_lap", 9)]) rfl sc_law.nd (pi_range1 rfl B.range_ (pa_cons pe_int pa_nil)) (blkOk_by (N := ["_law_script", "_law_k", "_law_pen_here", "_law_turn", "_law_board_here", "_law_moment_here", "_law_row", "_law_any_row", "_law_one", "_law_lap"]) (sc := defScope s_law) (by decide +kernel)) (fun _ _ _ _ _ => (pg_name (i := 9) sc_law.nd rfl (Or.inl rfl))) (fun _ _ _ _ _ => pts_nil) (fun _ _ _ _ _ => (pe_cal c__law_near hr rfl (pa_cons (pv 2) (pa_cons (pv 4) (pa_cons (pv 6) pa_nil)))))))) (pg_name (i := 8) sc_law.nd rfl (Or.inl rfl))
  (pss_one (ps_if (pt_not (pt_val (pe_calG (entx_of en) c__law_right hr rfl (pa_cons (pv 4) (pa_cons (pv 5) (pa_cons (pv 8) pa_nil))))))
  (pss_one (ps_ret pe_bl))
  pss_nil))))))))))))
  (pss_one (ps_ret pe_bl))), ?_⟩
    have t0 : LamX.Tabs [(Pt, lamQ "_law_right")] H := fun p hp => by
      rw [List.mem_singleton.mp hp]
      exact LamX.TabS.nil hP
    refine ⟨.ref a, rfl, a, _, rfl, .inl hS, _, 4, rfl, 1, _, rfl, _, rfl, ?_, ?_, for_range (n := _) (fun i σ H2 => ∃ y1 y2 y3 y4 y5 y6 y7 y8 y9 : Option V, σ = [some (.ref a), y1, y2, y3, y4, y5, y6, y7, y8, y9] ∧ SqL K H2 a (ns.map V.int) ∧ LamX.Tabs [(Pt, lamQ "_law_right")] H2) ⟨none, none, none, none, none, none, none, none, none, rfl, hS, t0⟩ (fun i σ H2 hi pp => ?_) (fun σ H2 pp => q H2)⟩
    · split <;> split <;> omega
    · split <;> split <;> omega
    · obtain ⟨y1, y2, y3, y4, y5, y6, y7, y8, y9, rfl, hS2, t2⟩ := pp
      have ei : (0 : Int) + (i : Int) = (i : Int) := Int.zero_add _
      refine ⟨.ref a, rfl, .int (0 + (i : Int)), rfl, a, ns, i, by rw [ei]; rfl, hS2, fun cell => ⟨cell, rfl, fun pn H3 npn s3 pen3 => ?_⟩⟩
      have t3 := LamX.Tabs.ext t2 fun b o e => s3 b o e
      refine ⟨3, rfl, by decide, by decide, for_range (n := 3) (fun j σ H' => ∃ y3 y4 y5 y6 y7 y8 y9 : Option V, σ = [some (.ref a), some (.int (0 + (i : Int))), some (.ref pn), y3, y4, y5, y6, y7, y8, y9] ∧ KX pn H3 H' ∧ PenAt H' pn (1000 * (4 - j)) ∧ LamX.Tabs [(Pt, lamQ "_law_right")] H') ⟨y3, y4, y5, y6, y7, y8, y9, rfl, KX.refl pn H3, pen3.less (by omega), t3⟩ (fun j σ H4 hj pp => ?_) (fun σ H4 pp => ?_)⟩
      · obtain ⟨y3, y4, y5, y6, y7, y8, y9, rfl, k4, pen4, t4⟩ := pp
        refine ⟨.ref pn, rfl, pn, 6, 1000 * (3 - j) + 700, rfl, by decide, by decide, pen4.less (by omega), fun vb ws c H5 bok _ _ tb k5 pen5 => ?_⟩
        refine ⟨.ref pn, rfl, vb, rfl, pn, vb, 6, 1000 * (3 - j) + 600, ws, c, rfl, by decide, by decide, tb, bok, pen5.less (by omega), fun v st wt_ hd H6 mo tv k6 pen6 => ?_⟩
        have tb6 := Td.mono (pen5.kt k6) _ _ tb
        have w6 := bok.w6
        have w1 := bok.w1
        have mok : MoOk ws c ⟨st, wt_, hd⟩ := ⟨⟨mo.sl, mo.sr, mo.wl, mo.hl⟩, fun x hx => (mo.wr x hx).1, fun x hx => (mo.hr x hx).1⟩
        have ml : MoLe 1000 ⟨st, wt_, hd⟩ := ⟨fun x hx => by have := (mo.wr x hx).2; omega, fun x hx => by have := (mo.hr x hx).2; omega⟩
        have tv0 : Td H6 v (moD ⟨st, wt_, hd⟩) := tv
        generalize (Mo.mk st wt_ hd) = m at mok ml tv0
        clear tv mo
        refine ⟨.ref pn, rfl, vb, rfl, v, rfl, .ref pn, rfl, pn, 30, 1000 * (3 - j) + 500, rfl, by decide, by decide, pen6.less (by omega), fun most H7 m0 m1 k7 pen7 => ?_⟩
        obtain ⟨mn, rfl⟩ : ∃ mn : Nat, most = (mn : Int) := ⟨most.toNat, by omega⟩
        have tb7 := Td.mono (pen6.kt k7) _ _ tb6
        have tv7 := Td.mono (pen6.kt k7) _ _ tv0
        refine ⟨pn, vb, v, mn, 1000 * (3 - j) + 400, ws, c, m, rfl, by omega, tb7, bok, tv7, mok, pen7.less (by omega), fun U r vl row m' H8 k8 pen8 eU rf rl hrow eW tl mk' => ?_⟩
        have kt8 := pen7.kt k8
        have tb8 := Td.mono kt8 _ _ tb7
        have tv8 := Td.mono kt8 _ _ tv7
        have k48 : Kp (· = pn) H4 H8 := ((k5.trans k6).trans k7).trans k8
        have t8 := pen4.tabs t4 k48
        refine ⟨U, _, 0, _, rfl, rfl, SqT.of eU, atI_nat (j := 0) rfl, ?_⟩
        -- any row
        dsimp only
        refine s_asg (s_cb1 ?_)
        refine ⟨.ref pn, rfl, pn, 9, 1000 * (3 - j) + 350, rfl, by decide, by decide, pen8.less (by omega), fun many H9 a0 a1 k9 pen9 => ?_⟩
        obtain ⟨nn, rfl⟩ : ∃ nn : Nat, many = (nn : Int) := ⟨many.toNat, by omega⟩
        refine ⟨_, rfl, by omega, by omega, fun D hD => ?_⟩
        have tb9 := Td.mono (pen8.kt k9) _ _ tb8
        have hDp := pen9.ne hD
        have tbx := tb9
        obtain ⟨ab, aw, ys, rfl, eb, ew, hy⟩ := Td.boardOf tb9
        have hl' : ys.length = ws.length := by rw [hy.len, List.length_map]
        have ennat : ((nn : Int)).toNat = nn := by omega
        refine lc_range (fun i' H' => Kp (· = pn) H9 H' ∧ PenAt H' pn (1000 * (3 - j) + 300 + (nn - i')) ∧ ∃ l : List Nat, l.length = i' ∧ (∀ n ∈ l, n < ws.length) ∧ H' D = some (.lst (rowV l))) ⟨Kp.new hD, (pen9.new hD).less (by omega), [], rfl, (fun _ z => nomatch z), upd_same⟩ (fun i' H' hi' h => ?_) (fun H10 h => ?_)
        · obtain ⟨k', pen', l, ll, lr, eD⟩ := h
          rw [ennat] at hi'
          have tb' := Td.mono (pen9.kt k') _ _ tbx
          obtain ⟨ab2, aw2, ys2, e2, eb2, ew2, hy2⟩ := Td.boardOf tb'
          cases e2
          have hl2 : ys2.length = ws.length := by rw [hy2.len, List.length_map]
          refine ⟨wipe1 _, tYes_eq (iteT ⟨.ref pn, rfl, .ref ab, rfl, ab, _, 0, _, rfl, rfl, SqT.of eb2, atI_nat (j := 0) rfl, aw2, ys2, rfl, .inr (SqT.of ew2), pn, _, 1000 * (3 - j) + 300 + (nn - (i' + 1)), rfl, by omega, by omega, pen'.less (by omega), fun z H11 z0 z1 k11 pen11 => ?_⟩)⟩
          obtain ⟨zn, rfl⟩ : ∃ zn : Nat, z = (zn : Int) := ⟨z.toNat, by omega⟩
          have eD11 := k11 _ _ eD hDp
          refine ⟨_, eD11, by rw [rowV_len]; exact small1000 (by omega), ?_, pen11.put hDp, l ++ [zn], by rw [List.length_append, ll]; rfl, fun n hn => ?_, ?_⟩
          · exact (k'.trans k11).mut hD
          · rcases List.mem_append.mp hn with hn | hn
            · exact lr n hn
            · rw [List.mem_singleton.mp hn]
              omega
          · rw [upd_same, rowV_app]
            rfl
        obtain ⟨k10, pen10, l, ll, lr, eD⟩ := h
        rw [ennat] at ll
        refine ⟨D, _, rfl, SqL.of eD, fun r2 o2 nr2 od2 => ?_⟩
        have s11 : Same H10 (upd H10 r2 (.frz o2 (.tup (rowV l)))) := Same.new nr2
        have rf2 : RowF (upd H10 r2 (.frz o2 (.tup (rowV l)))) r2 l := ⟨o2, od2, upd_same⟩
        generalize upd H10 r2 (.frz o2 (.tup (rowV l))) = H11 at s11 rf2 ⊢
        have k811 : Kp (· = pn) H8 H11 := (k9.trans k10).trans (Kp.of s11)
        have pen11 : PenAt H11 pn (1000 * (3 - j) + 300) := (pen10.same s11).less (by omega)
        have rf11 := pen8.row rf k811
        have kt11 := pen8.kt k811
        have tb11 := Td.mono kt11 _ _ tb8
        have tv11 := Td.mono kt11 _ _ tv8
        have t11 := pen8.tabs t8 k811
        clear tbx tb9 eb ew hy k9 pen9 k10 pen10 eD
        -- the rows
        refine ⟨.ref r, rfl, .ref r2, rfl, by show 0 ≤ sizeLine; decide, fun p0 o0 n0 d0 => ?_⟩
        have s12 : Same H11 (upd H11 p0 (.frz o0 (.tup []))) := Same.new n0
        have rf0 : RowF (upd H11 p0 (.frz o0 (.tup []))) p0 [] := ⟨o0, d0, upd_same⟩
        generalize upd H11 p0 (.frz o0 (.tup [])) = H12 at s12 rf0 ⊢
        refine ⟨by show 3 ≤ sizeLine; decide, fun L nL => ?_⟩
        have s13 : Same H12 (upd H12 L (.lst [.ref r, .ref r2, .ref p0])) := Same.new nL
        have eL : upd H12 L (.lst [.ref r, .ref r2, .ref p0]) L = some (.lst [.ref r, .ref r2, .ref p0]) := upd_same
        have nLp := (pen11.same s12).ne nL
        generalize upd H12 L (.lst [.ref r, .ref r2, .ref p0]) = H13 at s13 eL ⊢
        have s1113 := s12.trans s13
        have pen13 := pen11.same s1113
        have rf13 := rf11.same s1113
        have rows3 : Rows H13 ws.length [.ref r, .ref r2, .ref p0] := by
          intro x hx
          simp only [List.mem_cons, List.not_mem_nil, or_false] at hx
          rcases hx with rfl | rfl | rfl
          · exact ⟨r, row, rfl, rf13, by omega, hrow⟩
          · exact ⟨r2, l, rfl, rf2.same s1113, by omega, lr⟩
          · exact ⟨p0, [], rfl, rf0.same s13, by decide, fun _ z => nomatch z⟩
        have tb13 := Td.mono (KT.same s1113) _ _ tb11
        refine ⟨6, rfl, by decide, by decide, fun D2 hD2 => ?_⟩
        have hD2p := pen13.ne hD2
        refine lc_range (fun i' H' => Kp (· = pn) H13 H' ∧ PenAt H' pn (1000 * (3 - j) + 200 + 3 * (6 - i')) ∧ ∃ xs : List V, xs.length = i' ∧ Rows H' ws.length xs ∧ H' D2 = some (.lst xs)) ⟨Kp.new hD2, (pen13.new hD2).less (by omega), [], rfl, (fun _ z => nomatch z), upd_same⟩ (fun i' H' hi' h => ?_) (fun H14 h => ?_)
        · obtain ⟨k', pen', xs, xl, xr, eD⟩ := h
          have hi6 : i' < 6 := hi'
          refine ⟨wipe1 _, tYes_eq (iteT ⟨.ref pn, rfl, .ref ab, rfl, .ref r, rfl, pn, r, .ref ab, 1000 * (3 - j) + 200 + 3 * (6 - (i' + 1)), ws, c, row, rfl, Td.mono (pen13.kt k') _ _ tb13, bok, pen13.row rf13 k', by omega, hrow, pen'.less (by omega), fun p row' H15 k15 pen15 rfp lp rp => ?_⟩)⟩
          have eD15 := k15 _ _ eD hD2p
          have rx : Rows H15 ws.length (xs ++ [.ref p]) := fun x hx => by
            rcases List.mem_append.mp hx with hx | hx
            · exact (xr.kp pen' k15) x hx
            · rw [List.mem_singleton.mp hx]
              exact ⟨p, row', rfl, rfp, by omega, rp⟩
          refine ⟨_, eD15, small1000 (by omega), (k'.trans k15).mut hD2, pen15.put hD2p, xs ++ [.ref p], by rw [List.length_append, xl]; rfl, fun x hx => ?_, upd_same⟩
          obtain ⟨p', row'', e1, e2, e3⟩ := rx x hx
          refine ⟨p', row'', e1, ?_, e3⟩
          obtain ⟨o, od, eo⟩ := e2
          refine ⟨o, od, ?_⟩
          rw [upd_ne (fun z => by rw [z, eD15] at eo; cases eo)]
          exact eo
        obtain ⟨k14, pen14, xs, xl, xr, eD2⟩ := h
        have eL14 := k14 _ _ eL nLp
        refine ⟨L, D2, _, _, rfl, rfl, eL14, eD2, by show 3 + xs.length ≤ sizeLine; exact Nat.le_of_lt (small1000 (by have : xs.length = 6 := xl; omega)), fun L3 n3 => ?_⟩
        have s15 : Same H14 (upd H14 L3 (.lst ([.ref r, .ref r2, .ref p0] ++ xs))) := Same.new n3
        have eL3 : upd H14 L3 (.lst ([.ref r, .ref r2, .ref p0] ++ xs)) L3 = some (.lst ([.ref r, .ref r2, .ref p0] ++ xs)) := upd_same
        generalize upd H14 L3 (.lst ([.ref r, .ref r2, .ref p0] ++ xs)) = H15 at s15 eL3 ⊢
        have k1315 : Kp (· = pn) H13 H15 := k14.trans (Kp.of s15)
        have rall : Rows H15 ws.length ([.ref r, .ref r2, .ref p0] ++ xs) := fun x hx => by
          rcases List.mem_append.mp hx with hx | hx
          · exact (rows3.kp pen13 k1315) x hx
          · exact (xr.same s15) x hx
        have pen15 := pen14.same s15
        have tb15 := Td.mono (pen13.kt k1315) _ _ tb13
        have tv15 := Td.mono ((KT.same s1113).trans (pen13.kt k1315)) _ _ tv11
        have t15 := pen13.tabs (LamX.Tabs.ext t11 fun b o e => s1113 b o e) k1315
        have k415 : KX pn H3 H15 := k4.trans (KX.kp ((k48.trans k811).trans ((Kp.of s1113).trans k1315)))
        refine ⟨L3, rfl, ⟨_, SqL.of eL3⟩, for_list (xs := [.ref r, .ref r2, .ref p0] ++ xs) (fun u σ H' => ∃ y8 y9 : Option V, σ = [some (.ref a), some (.int (0 + (i : Int))), some (.ref pn), some (.int (0 + (j : Int))), some (.ref ab), some v, some (.ref r), some (.ref r2), y8, y9] ∧ LamX.ExtN H15 H' ∧ LamX.Tabs [(Pt, lamQ "_law_right")] H') ⟨y8, y9, rfl, LamX.ExtN.refl H15, t15⟩ (fun u σ H' _ pp => ?_) (fun u x σ H' hx pp => ?_) (fun σ H' pp => ?_)⟩
        · obtain ⟨_, _, _, x', _⟩ := pp
          exact SqL.of (x' _ _ eL3 fun _ z => nomatch z)
        · obtain ⟨y8, y9, rfl, x', t'⟩ := pp
          obtain ⟨p, row', rfl, rfp, lp, rp⟩ := rall x (List.mem_of_getElem? hx)
          refine ⟨.ref ab, rfl, v, rfl, .ref p, rfl, .ref ab, v, p, ws, c, m, row', rfl, Td.mono (KT.extN x') _ _ tb15, bok, Td.mono (KT.extN x') _ _ tv15, mok, ml, rfp.extN x', lp, rp, t', fun H'' x'' t'' => ⟨_, rfl, iteF ⟨some (.ref p), y9, rfl, x'.trans x'', t''⟩⟩⟩
        · obtain ⟨y8, y9, rfl, x', t'⟩ := pp
          exact ⟨_, _, _, _, _, y8, y9, rfl, k415.trans (KX.ext x'), (PenAt.extN pen15 x').less (by omega), t'⟩
      · obtain ⟨y3, y4, y5, y6, y7, y8, y9, rfl, k4, pen4, t4⟩ := pp
        have sq3 : SqL K H3 a (ns.map V.int) := s3.seq hS2
        refine ⟨_, _, y3, y4, y5, y6, y7, y8, y9, rfl, ?_, t4⟩
        have kk : KX pn H2 H4 := (KX.kp (Kp.of s3)).trans k4
        exact kk.seq npn hS2
end
end K04

set_option maxRecDepth 100000
set_option maxHeartbeats 1000000
namespace K04
open PySem PySem.Spec PyProof.Rows L2 HX
section
variable {P : Program} {w : World} {K : PySem.W.Frag} {mg : Str → Option Value} {base : Heap} {k : Nat}
theorem law_all {t_MOST_WHEELS : Tok} {t_MOST_CUPS : Tok} {t_MOST_STEPS : Tok} {t_MOST_ENDS : Tok} {c Pt CM : Addr} {C : Nat → Addr} {f : Addr} {fd : FuncData} (F : Fun K "law" "law" s_law f fd) (B : Bi mg) (B2 : Bi2 mg) (B4 : Bi4 mg) (dc__law_right : DefC K mg "_law_right" s__law_right ["_law_board_here", "_law_moment_here", "_law_row"] c) (TB : LamX.TabB base mg c Pt) (G : Cls21 mg C) (hM : mg "MarbleError" = some (.ref CM)) (R_NoRow : Err K mg "NoRow" (C 5)) (ef_NoRow : EF K C (C 5) 5) (hex_NoRow : PySem.W.exmOne K (.ref (C 5)) (.ref CM) = some true) (g_MOST_WHEELS : mg "MOST_WHEELS" = some (.int 6 t_MOST_WHEELS)) (g_MOST_CUPS : mg "MOST_CUPS" = some (.int 4 t_MOST_CUPS)) (g_MOST_STEPS : mg "MOST_STEPS" = some (.int 4 t_MOST_STEPS)) (g_MOST_ENDS : mg "MOST_ENDS" = some (.int 3 t_MOST_ENDS))
    (d_is_whole : Def K mg "is_whole" s_is_whole ["thing"]) (d_is_within : Def K mg "is_within" s_is_within ["thing", "least", "most"]) (d_has_parts : Def K mg "has_parts" s_has_parts ["thing", "least", "most"]) (d_is_step : Def K mg "is_step" s_is_step ["thing", "ends"]) (d_is_wheel : Def K mg "is_wheel" s_is_wheel ["thing", "ends"]) (d_is_board : Def K mg "is_board" s_is_board ["thing"]) (d_need_board : Def K mg "need_board" s_need_board ["thing"]) (d_is_stand : Def K mg "is_stand" s_is_stand ["board", "thing"]) (d_are_marbles : Def K mg "are_marbles" s_are_marbles ["thing", "places"]) (d_is_moment : Def K mg "is_moment" s_is_moment ["board", "thing"]) (d_need_moment : Def K mg "need_moment" s_need_moment ["board", "thing"]) (d_is_wheel_number : Def K mg "is_wheel_number" s_is_wheel_number ["board", "thing"]) (d_loosened : Def K mg "loosened" s_loosened ["moment"]) (d_fastened : Def K mg "fastened" s_fastened ["stand", "waiting", "held"]) (d_handle_marble : Def K mg "handle_marble" s_handle_marble ["board", "parts", "wheel"]) (d_is_row : Def K mg "is_row" s_is_row ["board", "thing"]) (d_need_row : Def K mg "need_row" s_need_row ["board", "thing"]) (d_walked : Def K mg "walked" s_walked ["board", "moment", "row"]) (d_first_wrong : Def K mg "first_wrong" s_first_wrong ["board", "moment", "row"]) (d_is_let : Def K mg "is_let" s_is_let ["board", "moment", "row"]) (d_behind : Def K mg "behind" s_behind ["board", "moment", "row"]) (d_counts_of : Def K mg "counts_of" s_counts_of ["board", "row"]) (d__law_cell_at : Def K mg "_law_cell_at" s__law_cell_at ["_law_script", "_law_k"]) (d__law_pen : Def K mg "_law_pen" s__law_pen ["_law_cell"]) (d__law_draw : Def K mg "_law_draw" s__law_draw ["_law_pen_here", "_law_many"]) (d__law_pick : Def K mg "_law_pick" s__law_pick ["_law_pen_here", "_law_some"]) (d__law_word : Def K mg "_law_word" s__law_word ["_law_e"]) (d__law_said : Def K mg "_law_said" s__law_said ["_law_call"]) (d__law_board : Def K mg "_law_board" s__law_board ["_law_pen_here", "_law_most"]) (d__law_moment : Def K mg "_law_moment" s__law_moment ["_law_pen_here", "_law_board_here", "_law_most"]) (d__law_handle : Def K mg "_law_handle" s__law_handle ["_law_board_here", "_law_moment_here", "_law_wheel"]) (d__law_ready : Def K mg "_law_ready" s__law_ready ["_law_moment_here"]) (d__law_let_row : Def K mg "_law_let_row" s__law_let_row ["_law_pen_here", "_law_board_here", "_law_moment_here", "_law_most"]) (d__law_gone : Def K mg "_law_gone" s__law_gone ["_law_board_here", "_law_moment_here", "_law_row"]) (d__law_near : Def K mg "_law_near" s__law_near ["_law_pen_here", "_law_board_here", "_law_row"]) : FnG P w K mg base 15 f fd ["_law_script"] (spLaw Pt K) := by
  have c0__law_word := ok_word (P := P) (w := w) (base := base) (k := 0) d__law_word B B4 G
  have c1_is_whole := ok_is_whole (P := P) (w := w) (base := base) (k := 0) d_is_whole B
  have c2_is_within := ok_is_within (P := P) (w := w) (base := base) (k := 1) d_is_within c1_is_whole
  have c3_has_parts := ok_has_parts (P := P) (w := w) (base := base) (k := 0) d_has_parts B
  have c4_is_step := ok_is_step (P := P) (w := w) (base := base) (k := 2) d_is_step B g_MOST_ENDS c2_is_within (c3_has_parts.mono (by decide))
  have c5_is_wheel := ok_is_wheel (P := P) (w := w) (base := base) (k := 3) d_is_wheel B g_MOST_STEPS c4_is_step (c3_has_parts.mono (by decide))
  have c6_is_board := ok_is_board (P := P) (w := w) (base := base) (k := 4) d_is_board B g_MOST_WHEELS g_MOST_CUPS c5_is_wheel (c2_is_within.mono (by decide)) (c3_has_parts.mono (by decide))
  have c7_need_board := ok_need_board (P := P) (w := w) (base := base) (k := 5) d_need_board c6_is_board
  have c8_is_stand := ok_is_stand (P := P) (w := w) (base := base) (k := 6) d_is_stand B B2 c7_need_board (c2_is_within.mono (by decide)) (c3_has_parts.mono (by decide))
  have c9_are_marbles := ok_are_marbles (P := P) (w := w) (base := base) (k := 1) d_are_marbles B c1_is_whole c3_has_parts
  have c10_is_moment := ok_is_moment (P := P) (w := w) (base := base) (k := 7) d_is_moment B (c7_need_board.mono (by decide)) c8_is_stand (c9_are_marbles.mono (by decide)) (c3_has_parts.mono (by decide))
  have c11_need_moment := ok_need_moment (P := P) (w := w) (base := base) (k := 8) d_need_moment c10_is_moment
  have c12_is_wheel_number := ok_is_wheel_number (P := P) (w := w) (base := base) (k := 2) d_is_wheel_number B c2_is_within
  have c13_is_row := ok_is_row (P := P) (w := w) (base := base) (k := 3) d_is_row B c12_is_wheel_number
  have c14_need_row := ok_need_row (P := P) (w := w) (base := base) (k := 4) d_need_row c13_is_row
  have c15_loosened := ok_loosened (P := P) (w := w) (base := base) (k := 0) d_loosened B
  have c16_fastened := ok_fastened (P := P) (w := w) (base := base) (k := 0) d_fastened B
  have c17_handle_marble := ok_handle_marble (P := P) (w := w) (base := base) (k := 0) d_handle_marble B
  have c18_walked := ok_walked (P := P) (w := w) (base := base) (k := 1) d_walked B B2 c15_loosened c16_fastened c17_handle_marble
  have c19_behind := ok_behindX (P := P) (w := w) (base := base) (k := 9) d_behind R_NoRow c11_need_moment (c14_need_row.mono (by decide)) (c18_walked.mono (by decide))
  have c20__law_handle := ok_handled (P := P) (w := w) (base := base) (k := 0) d__law_handle B
  have c21__law_gone := ok_goneL (P := P) (w := w) (base := base) (k := 1) d__law_gone B2 c20__law_handle
  have c22_first_wrong := ok_first_wrong (P := P) (w := w) (base := base) (k := 9) d_first_wrong c11_need_moment (c14_need_row.mono (by decide)) (c18_walked.mono (by decide))
  have c23_is_let := ok_is_let (P := P) (w := w) (base := base) (k := 10) d_is_let c22_first_wrong
  have c24_counts_of := ok_counts_of (P := P) (w := w) (base := base) (k := 6) d_counts_of B c7_need_board (c14_need_row.mono (by decide))
  have c25__law_right := ok_right (P := P) (w := w) (base := base) (k := 11) dc__law_right TB B hM hex_NoRow ef_NoRow d__law_said (c0__law_word.mono (by decide)) (c19_behind.mono (by decide)) (c21__law_gone.mono (by decide)) c23_is_let (c22_first_wrong.mono (by decide)) (c24_counts_of.mono (by decide))
  have c26__law_draw := ok_draw (P := P) (w := w) (base := base) (k := 0) d__law_draw B
  have c27__law_near := ok_near (P := P) (w := w) (base := base) (k := 1) d__law_near B c26__law_draw
  have c28__law_ready := ok_ready (P := P) (w := w) (base := base) (k := 0) d__law_ready B2
  have c29__law_pick := ok_pick (P := P) (w := w) (base := base) (k := 1) d__law_pick B c26__law_draw
  have c30__law_let_row := ok_let (P := P) (w := w) (base := base) (k := 2) d__law_let_row B (c28__law_ready.mono (by decide)) c29__law_pick (c20__law_handle.mono (by decide))
  have c31__law_moment := ok_drawn (P := P) (w := w) (base := base) (k := 1) d__law_moment B c26__law_draw
  have c32__law_board := ok_board (P := P) (w := w) (base := base) (k := 1) d__law_board B c26__law_draw
  have c33__law_pen := ok_pen (P := P) (w := w) (base := base) (k := 0) d__law_pen B
  have c34__law_cell_at := ok_cell_at (P := P) (w := w) (base := base) (k := 0) d__law_cell_at B
  exact ok_law (k := 14) F B c25__law_right (c27__law_near.mono (by decide)) (c30__law_let_row.mono (by decide)) (c31__law_moment.mono (by decide)) (c26__law_draw.mono (by decide)) (c32__law_board.mono (by decide)) (c33__law_pen.mono (by decide)) (c34__law_cell_at.mono (by decide))
end
end K04

set_option maxRecDepth 100000
open PySem PySem.W PyProof.Rows
set_option maxHeartbeats 0 in
theorem PySem.Challenge.cw_marblefall_k04_rows_told_holds : PySem.Challenge.rw_marblefall_k04_rows_told.Holds := by
  w_on; o_law; k_head; (case hw => w_witness2)
  k_fill
  refine HX.walk_ofTG (l := PySem.Challenge.rw_marblefall_k04_rows_told) (n := 63) (k := 15) (x := "_law_script") rfl (by decide) rfl ⟨rfl, by decide, by decide⟩ ?I (fun w h Y => PySem.W.km_in_of Y) ?F
  case I => first | rfl | decide +kernel
  case F =>
    intro w mg fa h KX G hmg tabs
    obtain ⟨t_MOST_WHEELS, g_MOST_WHEELS⟩ : ∃ t, mg "MOST_WHEELS" = some (.int 6 t) := by
      refine' HX.gint_mk KX G ?a
      (case a => k_is)
    obtain ⟨t_MOST_CUPS, g_MOST_CUPS⟩ : ∃ t, mg "MOST_CUPS" = some (.int 4 t) := by
      refine' HX.gint_mk KX G ?a
      (case a => k_is)
    obtain ⟨t_MOST_STEPS, g_MOST_STEPS⟩ : ∃ t, mg "MOST_STEPS" = some (.int 4 t) := by
      refine' HX.gint_mk KX G ?a
      (case a => k_is)
    obtain ⟨t_MOST_ENDS, g_MOST_ENDS⟩ : ∃ t, mg "MOST_ENDS" = some (.int 3 t) := by
      refine' HX.gint_mk KX G ?a
      (case a => k_is)
    refine' HX.def_cut (x := "is_whole") (st := K04.s_is_whole) (ps := ["thing"]) KX G ?a ?l ?c ?k ?b (fun d_is_whole => ?z_is_whole)
    (case a => k_is); (case l => k_is); (case c => k_is); (case k => k_is); (case b => exact fun _ _ _ _ _ _ us hl => match us, hl with | [_], _ => rfl)
    refine' HX.def_cut (x := "is_within") (st := K04.s_is_within) (ps := ["thing", "least", "most"]) KX G ?a ?l ?c ?k ?b (fun d_is_within => ?z_is_within)
    (case a => k_is); (case l => k_is); (case c => k_is); (case k => k_is); (case b => exact fun _ _ _ _ _ _ us hl => match us, hl with | [_, _, _], _ => rfl)
    refine' HX.def_cut (x := "has_parts") (st := K04.s_has_parts) (ps := ["thing", "least", "most"]) KX G ?a ?l ?c ?k ?b (fun d_has_parts => ?z_has_parts)
    (case a => k_is); (case l => k_is); (case c => k_is); (case k => k_is); (case b => exact fun _ _ _ _ _ _ us hl => match us, hl with | [_, _, _], _ => rfl)
    refine' HX.def_cut (x := "is_step") (st := K04.s_is_step) (ps := ["thing", "ends"]) KX G ?a ?l ?c ?k ?b (fun d_is_step => ?z_is_step)
    (case a => k_is); (case l => k_is); (case c => k_is); (case k => k_is); (case b => exact fun _ _ _ _ _ _ us hl => match us, hl with | [_, _], _ => rfl)
    refine' HX.def_cut (x := "is_wheel") (st := K04.s_is_wheel) (ps := ["thing", "ends"]) KX G ?a ?l ?c ?k ?b (fun d_is_wheel => ?z_is_wheel)
    (case a => k_is); (case l => k_is); (case c => k_is); (case k => k_is); (case b => exact fun _ _ _ _ _ _ us hl => match us, hl with | [_, _], _ => rfl)
    refine' HX.def_cut (x := "is_board") (st := K04.s_is_board) (ps := ["thing"]) KX G ?a ?l ?c ?k ?b (fun d_is_board => ?z_is_board)
    (case a => k_is); (case l => k_is); (case c => k_is); (case k => k_is); (case b => exact fun _ _ _ _ _ _ us hl => match us, hl with | [_], _ => rfl)
    refine' HX.def_cut (x := "need_board") (st := K04.s_need_board) (ps := ["thing"]) KX G ?a ?l ?c ?k ?b (fun d_need_board => ?z_need_board)
    (case a => k_is); (case l => k_is); (case c => k_is); (case k => k_is); (case b => exact fun _ _ _ _ _ _ us hl => match us, hl with | [_], _ => rfl)
    refine' HX.def_cut (x := "is_stand") (st := K04.s_is_stand) (ps := ["board", "thing"]) KX G ?a ?l ?c ?k ?b (fun d_is_stand => ?z_is_stand)
    (case a => k_is); (case l => k_is); (case c => k_is); (case k => k_is); (case b => exact fun _ _ _ _ _ _ us hl => match us, hl with | [_, _], _ => rfl)
    refine' HX.def_cut (x := "are_marbles") (st := K04.s_are_marbles) (ps := ["thing", "places"]) KX G ?a ?l ?c ?k ?b (fun d_are_marbles => ?z_are_marbles)
    (case a => k_is); (case l => k_is); (case c => k_is); (case k => k_is); (case b => exact fun _ _ _ _ _ _ us hl => match us, hl with | [_, _], _ => rfl)
    refine' HX.def_cut (x := "is_moment") (st := K04.s_is_moment) (ps := ["board", "thing"]) KX G ?a ?l ?c ?k ?b (fun d_is_moment => ?z_is_moment)
    (case a => k_is); (case l => k_is); (case c => k_is); (case k => k_is); (case b => exact fun _ _ _ _ _ _ us hl => match us, hl with | [_, _], _ => rfl)
    refine' HX.def_cut (x := "need_moment") (st := K04.s_need_moment) (ps := ["board", "thing"]) KX G ?a ?l ?c ?k ?b (fun d_need_moment => ?z_need_moment)
    (case a => k_is); (case l => k_is); (case c => k_is); (case k => k_is); (case b => exact fun _ _ _ _ _ _ us hl => match us, hl with | [_, _], _ => rfl)
    refine' HX.def_cut (x := "is_wheel_number") (st := K04.s_is_wheel_number) (ps := ["board", "thing"]) KX G ?a ?l ?c ?k ?b (fun d_is_wheel_number => ?z_is_wheel_number)
    (case a => k_is); (case l => k_is); (case c => k_is); (case k => k_is); (case b => exact fun _ _ _ _ _ _ us hl => match us, hl with | [_, _], _ => rfl)
    refine' HX.def_cut (x := "loosened") (st := K04.s_loosened) (ps := ["moment"]) KX G ?a ?l ?c ?k ?b (fun d_loosened => ?z_loosened)
    (case a => k_is); (case l => k_is); (case c => k_is); (case k => k_is); (case b => exact fun _ _ _ _ _ _ us hl => match us, hl with | [_], _ => rfl)
    refine' HX.def_cut (x := "fastened") (st := K04.s_fastened) (ps := ["stand", "waiting", "held"]) KX G ?a ?l ?c ?k ?b (fun d_fastened => ?z_fastened)
    (case a => k_is); (case l => k_is); (case c => k_is); (case k => k_is); (case b => exact fun _ _ _ _ _ _ us hl => match us, hl with | [_, _, _], _ => rfl)
    refine' HX.def_cut (x := "handle_marble") (st := K04.s_handle_marble) (ps := ["board", "parts", "wheel"]) KX G ?a ?l ?c ?k ?b (fun d_handle_marble => ?z_handle_marble)
    (case a => k_is); (case l => k_is); (case c => k_is); (case k => k_is); (case b => exact fun _ _ _ _ _ _ us hl => match us, hl with | [_, _, _], _ => rfl)
    refine' HX.def_cut (x := "is_row") (st := K04.s_is_row) (ps := ["board", "thing"]) KX G ?a ?l ?c ?k ?b (fun d_is_row => ?z_is_row)
    (case a => k_is); (case l => k_is); (case c => k_is); (case k => k_is); (case b => exact fun _ _ _ _ _ _ us hl => match us, hl with | [_, _], _ => rfl)
    refine' HX.def_cut (x := "need_row") (st := K04.s_need_row) (ps := ["board", "thing"]) KX G ?a ?l ?c ?k ?b (fun d_need_row => ?z_need_row)
    (case a => k_is); (case l => k_is); (case c => k_is); (case k => k_is); (case b => exact fun _ _ _ _ _ _ us hl => match us, hl with | [_, _], _ => rfl)
    refine' HX.def_cut (x := "walked") (st := K04.s_walked) (ps := ["board", "moment", "row"]) KX G ?a ?l ?c ?k ?b (fun d_walked => ?z_walked)
    (case a => k_is); (case l => k_is); (case c => k_is); (case k => k_is); (case b => exact fun _ _ _ _ _ _ us hl => match us, hl with | [_, _, _], _ => rfl)
    refine' HX.def_cut (x := "first_wrong") (st := K04.s_first_wrong) (ps := ["board", "moment", "row"]) KX G ?a ?l ?c ?k ?b (fun d_first_wrong => ?z_first_wrong)
    (case a => k_is); (case l => k_is); (case c => k_is); (case k => k_is); (case b => exact fun _ _ _ _ _ _ us hl => match us, hl with | [_, _, _], _ => rfl)
    refine' HX.def_cut (x := "is_let") (st := K04.s_is_let) (ps := ["board", "moment", "row"]) KX G ?a ?l ?c ?k ?b (fun d_is_let => ?z_is_let)
    (case a => k_is); (case l => k_is); (case c => k_is); (case k => k_is); (case b => exact fun _ _ _ _ _ _ us hl => match us, hl with | [_, _, _], _ => rfl)
    refine' HX.def_cut (x := "behind") (st := K04.s_behind) (ps := ["board", "moment", "row"]) KX G ?a ?l ?c ?k ?b (fun d_behind => ?z_behind)
    (case a => k_is); (case l => k_is); (case c => k_is); (case k => k_is); (case b => exact fun _ _ _ _ _ _ us hl => match us, hl with | [_, _, _], _ => rfl)
    refine' HX.def_cut (x := "counts_of") (st := K04.s_counts_of) (ps := ["board", "row"]) KX G ?a ?l ?c ?k ?b (fun d_counts_of => ?z_counts_of)
    (case a => k_is); (case l => k_is); (case c => k_is); (case k => k_is); (case b => exact fun _ _ _ _ _ _ us hl => match us, hl with | [_, _], _ => rfl)
    refine' HX.def_cut (x := "_law_cell_at") (st := K04.s__law_cell_at) (ps := ["_law_script", "_law_k"]) KX G ?a ?l ?c ?k ?b (fun d__law_cell_at => ?z__law_cell_at)
    (case a => k_is); (case l => k_is); (case c => k_is); (case k => k_is); (case b => exact fun _ _ _ _ _ _ us hl => match us, hl with | [_, _], _ => rfl)
    refine' HX.def_cut (x := "_law_pen") (st := K04.s__law_pen) (ps := ["_law_cell"]) KX G ?a ?l ?c ?k ?b (fun d__law_pen => ?z__law_pen)
    (case a => k_is); (case l => k_is); (case c => k_is); (case k => k_is); (case b => exact fun _ _ _ _ _ _ us hl => match us, hl with | [_], _ => rfl)
    refine' HX.def_cut (x := "_law_draw") (st := K04.s__law_draw) (ps := ["_law_pen_here", "_law_many"]) KX G ?a ?l ?c ?k ?b (fun d__law_draw => ?z__law_draw)
    (case a => k_is); (case l => k_is); (case c => k_is); (case k => k_is); (case b => exact fun _ _ _ _ _ _ us hl => match us, hl with | [_, _], _ => rfl)
    refine' HX.def_cut (x := "_law_pick") (st := K04.s__law_pick) (ps := ["_law_pen_here", "_law_some"]) KX G ?a ?l ?c ?k ?b (fun d__law_pick => ?z__law_pick)
    (case a => k_is); (case l => k_is); (case c => k_is); (case k => k_is); (case b => exact fun _ _ _ _ _ _ us hl => match us, hl with | [_, _], _ => rfl)
    refine' HX.def_cut (x := "_law_word") (st := K04.s__law_word) (ps := ["_law_e"]) KX G ?a ?l ?c ?k ?b (fun d__law_word => ?z__law_word)
    (case a => k_is); (case l => k_is); (case c => k_is); (case k => k_is); (case b => exact fun _ _ _ _ _ _ us hl => match us, hl with | [_], _ => rfl)
    refine' HX.def_cut (x := "_law_said") (st := K04.s__law_said) (ps := ["_law_call"]) KX G ?a ?l ?c ?k ?b (fun d__law_said => ?z__law_said)
    (case a => k_is); (case l => k_is); (case c => k_is); (case k => k_is); (case b => exact fun _ _ _ _ _ _ us hl => match us, hl with | [_], _ => rfl)
    refine' HX.def_cut (x := "_law_board") (st := K04.s__law_board) (ps := ["_law_pen_here", "_law_most"]) KX G ?a ?l ?c ?k ?b (fun d__law_board => ?z__law_board)
    (case a => k_is); (case l => k_is); (case c => k_is); (case k => k_is); (case b => exact fun _ _ _ _ _ _ us hl => match us, hl with | [_, _], _ => rfl)
    refine' HX.def_cut (x := "_law_moment") (st := K04.s__law_moment) (ps := ["_law_pen_here", "_law_board_here", "_law_most"]) KX G ?a ?l ?c ?k ?b (fun d__law_moment => ?z__law_moment)
    (case a => k_is); (case l => k_is); (case c => k_is); (case k => k_is); (case b => exact fun _ _ _ _ _ _ us hl => match us, hl with | [_, _, _], _ => rfl)
    refine' HX.def_cut (x := "_law_handle") (st := K04.s__law_handle) (ps := ["_law_board_here", "_law_moment_here", "_law_wheel"]) KX G ?a ?l ?c ?k ?b (fun d__law_handle => ?z__law_handle)
    (case a => k_is); (case l => k_is); (case c => k_is); (case k => k_is); (case b => exact fun _ _ _ _ _ _ us hl => match us, hl with | [_, _, _], _ => rfl)
    refine' HX.def_cut (x := "_law_ready") (st := K04.s__law_ready) (ps := ["_law_moment_here"]) KX G ?a ?l ?c ?k ?b (fun d__law_ready => ?z__law_ready)
    (case a => k_is); (case l => k_is); (case c => k_is); (case k => k_is); (case b => exact fun _ _ _ _ _ _ us hl => match us, hl with | [_], _ => rfl)
    refine' HX.def_cut (x := "_law_let_row") (st := K04.s__law_let_row) (ps := ["_law_pen_here", "_law_board_here", "_law_moment_here", "_law_most"]) KX G ?a ?l ?c ?k ?b (fun d__law_let_row => ?z__law_let_row)
    (case a => k_is); (case l => k_is); (case c => k_is); (case k => k_is); (case b => exact fun _ _ _ _ _ _ us hl => match us, hl with | [_, _, _, _], _ => rfl)
    refine' HX.def_cut (x := "_law_gone") (st := K04.s__law_gone) (ps := ["_law_board_here", "_law_moment_here", "_law_row"]) KX G ?a ?l ?c ?k ?b (fun d__law_gone => ?z__law_gone)
    (case a => k_is); (case l => k_is); (case c => k_is); (case k => k_is); (case b => exact fun _ _ _ _ _ _ us hl => match us, hl with | [_, _, _], _ => rfl)
    refine' HX.def_cut (x := "_law_near") (st := K04.s__law_near) (ps := ["_law_pen_here", "_law_board_here", "_law_row"]) KX G ?a ?l ?c ?k ?b (fun d__law_near => ?z__law_near)
    (case a => k_is); (case l => k_is); (case c => k_is); (case k => k_is); (case b => exact fun _ _ _ _ _ _ us hl => match us, hl with | [_, _, _], _ => rfl)
    refine' HX.def_cut (x := "law") (st := K04.s_law) (ps := ["_law_script"]) KX G ?a ?l ?c ?k ?b (fun d_law => ?z_law)
    (case a => k_is); (case l => k_is); (case c => k_is); (case k => k_is); (case b => exact fun _ _ _ _ _ _ us hl => match us, hl with | [_], _ => rfl)
    have z_len : mg "len" = none := by
      refine' PySem.W.mg_none_of KX G ?a
      (case a => k_is)
    have z_isinstance : mg "isinstance" = none := by
      refine' PySem.W.mg_none_of KX G ?a
      (case a => k_is)
    have z_int : mg "int" = none := by
      refine' PySem.W.mg_none_of KX G ?a
      (case a => k_is)
    have z_bool : mg "bool" = none := by
      refine' PySem.W.mg_none_of KX G ?a
      (case a => k_is)
    have z_tuple : mg "tuple" = none := by
      refine' PySem.W.mg_none_of KX G ?a
      (case a => k_is)
    have z_list : mg "list" = none := by
      refine' PySem.W.mg_none_of KX G ?a
      (case a => k_is)
    have z_all : mg "all" = none := by
      refine' PySem.W.mg_none_of KX G ?a
      (case a => k_is)
    have z_range : mg "range" = none := by
      refine' PySem.W.mg_none_of KX G ?a
      (case a => k_is)
    have z_max : mg "max" = none := by
      refine' PySem.W.mg_none_of KX G ?a
      (case a => k_is)
    have z_min : mg "min" = none := by
      refine' PySem.W.mg_none_of KX G ?a
      (case a => k_is)
    have z_repr : mg "repr" = none := by
      refine' PySem.W.mg_none_of KX G ?a
      (case a => k_is)
    have B : HX.Bi mg := ⟨z_len, z_isinstance, z_int, z_bool, z_tuple, z_list, z_all, z_range, z_max, z_min, z_repr⟩
    have z_zip : mg "zip" = none := by
      refine' PySem.W.mg_none_of KX G ?a
      (case a => k_is)
    have z_enumerate : mg "enumerate" = none := by
      refine' PySem.W.mg_none_of KX G ?a
      (case a => k_is)
    have z_sum : mg "sum" = none := by
      refine' PySem.W.mg_none_of KX G ?a
      (case a => k_is)
    have B2 : HX.Bi2 mg := ⟨z_zip, z_enumerate, z_sum⟩
    have z_ValueError : mg "ValueError" = none := by
      refine' PySem.W.mg_none_of KX G ?a
      (case a => k_is)
    have B4 : HX.Bi4 mg := ⟨z_ValueError⟩
    refine' HX.cls_cut KX G ?a0 ?a1 ?a2 ?a3 ?a4 ?a5 ?a6 ?a7 ?a8 ?a9 ?a10 ?a11 ?a12 ?a13 ?a14 ?a15 ?a16 ?a17 ?a18 ?a19 ?a20 ?aM (fun G21 g0 g1 g2 g3 g4 g5 g6 g7 g8 g9 g10 g11 g12 g13 g14 g15 g16 g17 g18 g19 g20 hM => ?zC)
    (case a0 => k_is); (case a1 => k_is); (case a2 => k_is); (case a3 => k_is); (case a4 => k_is); (case a5 => k_is); (case a6 => k_is); (case a7 => k_is); (case a8 => k_is); (case a9 => k_is); (case a10 => k_is); (case a11 => k_is); (case a12 => k_is); (case a13 => k_is); (case a14 => k_is); (case a15 => k_is); (case a16 => k_is); (case a17 => k_is); (case a18 => k_is); (case a19 => k_is); (case a20 => k_is); (case aM => k_is)
    refine' HX.err_cut (x := "NoRow") KX 5 g0 g1 g2 g3 g4 g5 g6 g7 g8 g9 g10 g11 g12 g13 g14 g15 g16 g17 g18 g19 g20 hM g5 ?kC ?ex ?sb ?ty ?e1 ?e2 ?e3 ?e4 ?e5 ?e6 ?e7 ?ve ?xm ?k0 ?k1 ?k2 ?k3 ?k4 ?k5 ?k6 ?k7 ?k8 ?k9 ?k10 ?k11 ?k12 ?k13 ?k14 ?k15 ?k16 ?k17 ?k18 ?k19 ?k20 (fun R_NoRow ef_NoRow hex_NoRow => ?zE)
    (case kC => k_is); (case ex => k_exc); (case sb => k_is); (case ty => k_is); (case e1 => k_is); (case e2 => k_is); (case e3 => k_is); (case e4 => k_is); (case e5 => k_is); (case e6 => k_is); (case e7 => k_is); (case ve => kit_is); (case xm => kts_exm)
    (case k0 => kit_is); (case k1 => kit_is); (case k2 => kit_is); (case k3 => kit_is); (case k4 => kit_is); (case k5 => kit_is); (case k6 => kit_is); (case k7 => kit_is); (case k8 => kit_is); (case k9 => kit_is); (case k10 => kit_is); (case k11 => kit_is); (case k12 => kit_is); (case k13 => kit_is); (case k14 => kit_is); (case k15 => kit_is); (case k16 => kit_is); (case k17 => kit_is); (case k18 => kit_is); (case k19 => kit_is); (case k20 => kit_is)
    refine' HX.law_cut (x := "_law_right") (st := K04.s__law_right) (ps := ["_law_board_here", "_law_moment_here", "_law_row"]) KX G tabs ?a ?l ?cc ?k ?b ?lc ?hv ?nT ?r (fun f1 fd1 F1 hm1 hb1 hc1 nT hC hT => ?zL)
    (case a => k_is); (case l => k_is); (case cc => k_is); (case k => k_is); (case b => exact fun _ _ _ _ _ _ us hl => match us, hl with | [_, _, _], _ => rfl); (case lc => k_is); (case hv => rfl); (case nT => rfl); (case r => rfl)
    obtain ⟨f, fd, F, hm, hb⟩ := d_law
    have e := hmg.symm.trans hm
    cases e
    refine ⟨fd, [(_, _)], K04.spLaw _ _, fun p hp => by rw [List.mem_singleton.mp hp]; exact hT, fun p hp => by rw [List.mem_singleton.mp hp]; exact nT, fun p hp => by rw [List.mem_singleton.mp hp]; exact hC, fun s u hK => hb s [u] hK rfl, fun H a ns hl hP hS => ⟨a, ns, rfl, hS, hl, hP _ (List.mem_singleton.mpr rfl), fun _ => rfl⟩, fun base hKb hG TB => ?_⟩
    exact K04.law_all F B B2 B4 ⟨f1, fd1, F1, hm1, hb1, hc1⟩ (TB _ (List.mem_singleton.mpr rfl)) G21 hM R_NoRow ef_NoRow hex_NoRow g_MOST_WHEELS g_MOST_CUPS g_MOST_STEPS g_MOST_ENDS d_is_whole d_is_within d_has_parts d_is_step d_is_wheel d_is_board d_need_board d_is_stand d_are_marbles d_is_moment d_need_moment d_is_wheel_number d_loosened d_fastened d_handle_marble d_is_row d_need_row d_walked d_first_wrong d_is_let d_behind d_counts_of d__law_cell_at d__law_pen d__law_draw d__law_pick d__law_word d__law_said d__law_board d__law_moment d__law_handle d__law_ready d__law_let_row d__law_gone d__law_near

